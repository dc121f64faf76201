/-
  The texts BlockFits.
-/
import Derived.Test.YtedjohkdfchocaaGreatQBlockVersion
import Derived.Test.YtedjohkdfchocaaGreatQBlockOrder

/-
  Package block's reader in memory: its pieces and the key before; does a piece fit behind them.
-/
namespace Go.Proofs.YtedjohkdfchocaaGreat.Bk
open Go.RowKit Cm Mm
open Pk (WrAt RdAt Step enc enc_len fold text)
set_option linter.unusedVariables false

def pcShape : Shape Pc := ⟨5, fun p => [.string p.rest, .int .i64 p.seq, .bool p.dead, .string p.val, .int .i64 p.share], by decide, fun _ => rfl, fun a u hu => by simp at hu; rcases hu with rfl | rfl | rfl | rfl | rfl <;> rfl⟩
/-- A reader of versions: pack's reader has s left, these versions were read. -/
structure RS (w : World) (base q b : Nat) (s : ByteArray) (es : List En) (v1 v2 : Value) (X : World) : Prop where
  hq : X.heap[q]? = some (brObj b v1 v2)
  own1 : X.ownsRow base 144 5 v1 es.length (pcShape.vals (pcs [] es))
  own2 : X.ownsRow base 5 1 v2 (lastKey [] es).length ((lastKey [] es).map B8)
  rd : RdAt X b s
  bel : Below base w X
theorem row1 {w : World} {base n : Nat} {v : Value} {vs : List Value} (h : w.ownsRow base 5 1 v n vs) : ∃ ao c, v = .slice ao n c ∧ n ≤ c := by
  rcases h.2 with ⟨rfl, h0⟩ | ⟨g, cap, cur, rfl, hB, hg, hle, _⟩
  · subst h0; exact ⟨_, _, rfl, Nat.le_refl _⟩
  · exact ⟨_, _, rfl, hle⟩
theorem row5 {w : World} {base n : Nat} {v : Value} {vs : List Value} (h : w.ownsRow base 144 5 v n vs) : ∃ ao c, v = .slice ao n c ∧ n ≤ c := by
  rcases h.2 with ⟨rfl, h0⟩ | ⟨g, cap, cur, rfl, hB, hg, hle, _⟩
  · subst h0; exact ⟨_, _, rfl, Nat.le_refl _⟩
  · exact ⟨_, _, rfl, hle⟩
theorem pcs_seq (last : List UInt8) (es : List En) (k : Nat) (h : k < es.length) : ((pcs last es).getD k Pc.zero).seq = (es.getD k En.zero).seq := by
  induction es generalizing last k with
  | nil => simp at h
  | cons e r ih =>
    cases k with
    | zero => rfl
    | succ k => simpa [pcs] using ih (bs e.key) k (by simpa using h)
theorem pcs_at (last : List UInt8) (es : List En) (k : Nat) (h : k < es.length) : (pcs last es).getD k Pc.zero = pc (lastKey last (es.take k)) (es.getD k En.zero) := by
  induction es generalizing last k with
  | nil => simp at h
  | cons e r ih =>
    cases k with
    | zero => rfl
    | succ k => simpa [pcs, lastKey] using ih (bs e.key) k (by simpa using h)
/-- The k-th piece's cells. -/
theorem piece_cells {w : World} {ao : Option Addr} {ps : List Pc} (h : ElemsAt pcShape w ao ps) {k : Nat} (hk : k < ps.length) : ∃ g off, ao = some ⟨g, off, none⟩ ∧ w.cell? ⟨g, off + k * 5, none⟩ = some (.string (ps.getD k Pc.zero).rest) ∧ w.cell? ⟨g, off + k * 5 + 1, none⟩ = some (.int .i64 (ps.getD k Pc.zero).seq) ∧
    w.cell? ⟨g, off + k * 5 + 2, none⟩ = some (.bool (ps.getD k Pc.zero).dead) ∧ w.cell? ⟨g, off + k * 5 + 3, none⟩ = some (.string (ps.getD k Pc.zero).val) ∧ w.cell? ⟨g, off + k * 5 + 4, none⟩ = some (.int .i64 (ps.getD k Pc.zero).share) := by
  rw [getD_lt _ _ _ hk]
  rcases h with rfl | ⟨pb, off, rfl, _, hc⟩
  · simp at hk
  · exact ⟨pb, off, rfl, hc k hk 0 _ rfl, hc k hk 1 _ rfl, hc k hk 2 _ rfl, hc k hk 3 _ rfl, hc k hk 4 _ rfl⟩
theorem own_pieces {w : World} {base : Nat} {v : Value} {es : List En} (h : w.ownsRow base 144 5 v es.length (pcShape.vals (pcs [] es))) : ∃ ao c, v = .slice ao es.length c ∧ es.length ≤ c ∧ ElemsAt pcShape w ao (pcs [] es) ∧ ∀ a, ao = some a → base ≤ a.block ∧ a.block < w.heap.size := by
  have h' : w.ownsRow base 144 pcShape.sz v (pcs [] es).length (pcShape.vals (pcs [] es)) := by rw [pcs_len]; exact h
  obtain ⟨ao, cap, rfl, _, q2, q3, q4⟩ := own_rows (F := pcShape) h'
  rw [pcs_len] at q3 ⊢
  exact ⟨ao, cap, rfl, q3, q4, fun a e => (q2 a e).2⟩

/-- As the program asks it. -/
def fitsE (es : List En) (p : Pc) : Bool := if es.length = 0 then true else fitsB (lastKey [] es) (es.getD (es.length - 1) En.zero).seq p
theorem byte_zero {r : ByteArray} (h : 0 < r.size) : ∃ x, bs r = r[0] :: x := by
  have h1 : 0 < (bs r).length := by rw [bs_len]; exact h
  cases hr : bs r with
  | nil => rw [hr] at h1; simp at h1
  | cons c x =>
    refine ⟨x, ?_⟩
    have : (bs r)[0]? = some c := by rw [hr]; rfl
    unfold bs at this
    rw [List.getElem?_eq_getElem (by simpa using h)] at this
    simp at this
    congr 1
    rw [← this]; rfl
set_option maxRecDepth 100000 in
set_option maxHeartbeats 2000000 in
theorem fits_any (w : World) (base q b : Nat) (s : ByteArray) (es : List En) (v1 v2 : Value) (p : Pc) (X : World) (h : RS w base q b s es v1 v2 X) (hp : p.share ≤ (lastKey [] es).length) (hl : es.length ≤ 100000000000) (hk : (lastKey [] es).length ≤ 1000000000000) (hr : p.rest.size ≤ 1000000000000) :
    Calls Tryz.prog 83 #[.pointer (some ⟨q, 0, none⟩), pcv p] X fun e w' => e = .returned (.bool (fitsE es p)) ∧ Below X.heap.size X w' := by
  obtain ⟨a1, n1, rfl, hle1, hel, _⟩ := own_pieces h.own1
  obtain ⟨a2, n2, rfl, hle2⟩ := row1 h.own2
  obtain ⟨sh, R, Q, D, V⟩ := p
  simp only at hp hr
  obtain ⟨X1, hX1⟩ : ∃ X1, X1 = X.alloc (pcObj ⟨sh, R, Q, D, V⟩) := ⟨_, rfl⟩
  have hB1 : Below X.heap.size X X1 := by rw [hX1]; exact (Below.refl _ _).alloc (Nat.le_refl _) _
  have hg1 : X1.heap[X.heap.size]? = some (pcObj ⟨sh, R, Q, D, V⟩) := by rw [hX1]; exact heap_alloc_new X _
  obtain ⟨c0, c1, c2, _⟩ := br_cells ((hB1.block _ (lt_of_block h.hq)).trans h.hq)
  obtain ⟨d0, d1, d2, d3, d4, _⟩ := pc_cells hg1
  have hel1 := hel.later hB1
  have HB : Hid _ := hB1
  have hks : ∀ j, (hj : j < (lastKey [] es).length) → ∃ g, a2 = some ⟨g, 0, none⟩ ∧ X1.cell? ⟨g, j, none⟩ = some (.int .u8 ((lastKey [] es)[j].toNat : Nat)) := fun j hj => by
    rcases h.own2.2 with ⟨e1, h0⟩ | ⟨g, cap, cur, e1, hB, hg, _⟩
    · omega
    · cases e1
      have := h.own2.cells (g := g) rfl j (B8 (lastKey [] es)[j]) (by simp [hj])
      rw [Go.WideShapes.add_plain, Nat.zero_add] at this
      exact ⟨g, rfl, (World.cell?_of_block (hB1.block g (lt_of_block hg))).trans this⟩
  unfold pcObj at hX1
  unfold pcv
  clear hB1 hg1 hel h
  unfold fitsE
  by_cases hes : es.length = 0
  · rw [if_pos hes]
    rw [hes] at c1
    subst hX1
    go_enter Tryz.func83, Tryz.ntmps83
    go_wp2
    go_ret
    exact ⟨rfl, HB.out⟩
  · rw [if_neg hes]
    obtain ⟨g1, off1, rfl, _, e1, _, _, _⟩ := piece_cells hel1 (k := es.length - 1) (by rw [pcs_len]; omega)
    rw [pcs_seq _ _ _ (by omega)] at e1
    obtain ⟨m, hm⟩ : ∃ m, es.length = m + 1 := ⟨es.length - 1, by omega⟩
    rw [hm] at e1 c1 hl hle1
    rw [hm, Nat.add_sub_cancel] at *
    generalize (es.getD m En.zero).seq = sq at *
    clear hel1 hm hes
    have hne : ((m : Int) + 1 == 0) = false := by rw [beq_eq_false_iff_ne]; omega
    have c1' := c1
    rw [hX1] at c1'
    obtain ⟨K, hK⟩ : ∃ K, K = lastKey [] es := ⟨_, rfl⟩
    rw [← hK] at hp hk hks c2 hle2 ⊢
    clear hK
    unfold fitsB
    have h1 := empty_iff R
    have h2 := empty_beq R
    have HR : Hid (∀ n m, Below X.heap.size X ((X1.drewN n).drewN m)) := fun n m => ⟨HB.out.os, HB.out.tape, HB.out.output, HB.out.size, HB.out.block⟩
    simp only at d0 d1 d2 d3 d4 ⊢
    by_cases hfull : sh = K.length
    · subst hfull
      have hs0 : (0 : Int) ≤ (K.length : Int) := by omega
      have hs2 : (K.length : Int) ≤ (n2 : Int) := by omega
      rw [show K.drop K.length = [] by simp]
      clear hks hp
      by_cases hR : R.size = 0
      · rw [decide_eq_true hR] at h1 h2
        have hb : bs R = [] := List.eq_nil_of_length_eq_zero (by rw [bs_len]; exact hR)
        rw [hb]
        clear hb hR
        go_enter Tryz.func83, Tryz.ntmps83
        go_wp2_with fail
        rw [← hX1]
        clear c1' hX1
        go_quiet (fail)
        go_wp2_with fail
        all_goals
          go_quiet (fail)
          go_wp2
          go_ret
          exact ⟨rfl, HR.out _ _⟩
      · have hR0 : 0 < R.size := by omega
        obtain ⟨x, hb⟩ := byte_zero hR0
        rw [decide_eq_false hR] at h1 h2
        rw [hb]
        clear hb hR
        go_enter Tryz.func83, Tryz.ntmps83
        go_wp2_with fail
        rw [← hX1]
        clear c1' hX1
        go_quiet (fail)
        go_wp2_with fail
        all_goals
          go_quiet (fail)
          go_wp2
          go_ret
          exact ⟨rfl, HR.out _ _⟩
    · have hlt : sh < K.length := by omega
      obtain ⟨g2, rfl, hcell⟩ := hks sh hlt
      have hO : K.drop sh = K[sh] :: K.drop (sh + 1) := List.drop_eq_getElem_cons hlt
      rw [hO]
      generalize K[sh] = c at *
      generalize K.drop (sh + 1) = O at *
      have hs0 : (0 : Int) ≤ (sh : Int) := by omega
      have hs1 : (sh : Int) ≤ (K.length : Int) := by omega
      have hs2 : (K.length : Int) ≤ (n2 : Int) := by omega
      have hs3 : n2 ≠ sh := by omega
      have hs4 : ((K.length : Int) - (sh : Int) == 0) = false := by rw [beq_eq_false_iff_ne]; omega
      have hs8 : (((K.length - sh : Nat) : Int) == 0) = false := by rw [beq_eq_false_iff_ne]; omega
      have hs5 : (K.length - sh == 0) = false := by rw [beq_eq_false_iff_ne]; omega
      have hs6 : (0 : Int) < (K.length : Int) - (sh : Int) := by omega
      have hs7 : (0 : Int) < ((K.length - sh : Nat) : Int) := by omega
      have hlt' : (sh : Int) < (K.length : Int) := by omega
      clear hks hO hfull hp
      by_cases hR : R.size = 0
      · rw [decide_eq_true hR] at h1 h2
        have hb : bs R = [] := List.eq_nil_of_length_eq_zero (by rw [bs_len]; exact hR)
        rw [hb]
        clear hb hR
        go_enter Tryz.func83, Tryz.ntmps83
        go_wp2_with fail
        rw [← hX1]
        clear c1' hX1
        go_quiet (fail)
        go_wp2_with fail
        go_quiet (fail)
        go_wp2
        go_ret
        exact ⟨rfl, HR.out _ _⟩
      · have hR0 : 0 < R.size := by omega
        obtain ⟨x, hb⟩ := byte_zero hR0
        rw [decide_eq_false hR] at h1 h2
        rw [hb]
        clear hb hR
        go_enter Tryz.func83, Tryz.ntmps83
        go_wp2_with fail
        rw [← hX1]
        clear c1' hX1
        go_quiet (fail)
        go_wp2_with fail
        go_quiet (fail)
        go_wp2
        go_ret
        exact ⟨rfl, HR.out _ _⟩
end Go.Proofs.YtedjohkdfchocaaGreat.Bk
