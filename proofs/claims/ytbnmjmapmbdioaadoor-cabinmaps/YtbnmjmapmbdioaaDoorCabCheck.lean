/-
  Package cabin: a right row, a right map.
-/
import Derived.Test.YtbnmjmapmbdioaaDoorCabHeap
namespace Go.Proofs.YtbnmjmapmbdioaaDoor.Cb
open Go.RowKit Cm
attribute [local go_sem ↓] Go.wp_at_zero Go.wp_at_succ
set_option linter.unusedVariables false

def OkN (i : Int) : Prop := -9223372036854775808 ≤ i ∧ i ≤ 9223372036854775807
def Rw.ok (r : Rw) : Prop := r.seats.size ≤ maxLen ∧ OkN r.num
def rwv (r : Rw) : Value := .agg #[.int .i64 r.num, .int .i64 r.cab, .int .i64 r.zone, .bool r.exit, .string r.seats]
def rwObj (r : Rw) : Obj := .cells #[.int .i64 r.num, .int .i64 r.cab, .int .i64 r.zone, .bool r.exit, .string r.seats] 25 (0, 0)
set_option maxRecDepth 100000 in
set_option maxHeartbeats 1000000 in
theorem rightRow_any (r : Rw) (hr : r.seats.size ≤ maxLen) (w : World) : Calls Tryd.prog 25 #[rwv r] w fun e w' => e = .returned (.bool (rowOK r)) ∧ Below w.heap.size w w' := by
  have HC : Hid (∀ w, Calls Tryd.prog 34 #[.string r.seats] w fun e w' => e = .returned (.bool (scan 0 0 true r.list)) ∧ w' = w) := fun w => rightSeats_any r.seats w hr
  have hrow : rowOK r = (decide (1 ≤ r.num) && decide (r.num ≤ 99) && decide (1 ≤ r.cab) && decide (r.cab ≤ 3) && decide (0 ≤ r.zone) && decide (r.zone < 4) && scan 0 0 true r.list) := rfl
  rw [hrow]
  clear hrow hr
  obtain ⟨num, cab, zone, exit, seats⟩ := r
  simp only [rwv] at *
  generalize scan 0 0 true (Rw.list ⟨num, cab, zone, exit, seats⟩) = b at *
  by_cases h1 : ¬ (1 ≤ num)
  · have g1 : decide (1 ≤ num) = false := decide_eq_false h1
    go_enter Tryd.func25, Tryd.ntmps25
    go_wp2
    go_ret
    exact ⟨by simp, (Below.refl _ _).alloc (Nat.le_refl _) _⟩
  have h1 := Decidable.not_not.1 h1
  have g1 : decide (1 ≤ num) = true := decide_eq_true h1
  by_cases h2 : ¬ (num ≤ 99)
  · have g2 : decide (num ≤ 99) = false := decide_eq_false h2
    go_enter Tryd.func25, Tryd.ntmps25
    go_wp2
    go_ret
    exact ⟨by simp, (Below.refl _ _).alloc (Nat.le_refl _) _⟩
  have h2 := Decidable.not_not.1 h2
  have g2 : decide (num ≤ 99) = true := decide_eq_true h2
  by_cases h3 : ¬ (1 ≤ cab)
  · have g3 : decide (1 ≤ cab) = false := decide_eq_false h3
    go_enter Tryd.func25, Tryd.ntmps25
    go_wp2
    go_ret
    exact ⟨by simp, (Below.refl _ _).alloc (Nat.le_refl _) _⟩
  have h3 := Decidable.not_not.1 h3
  have g3 : decide (1 ≤ cab) = true := decide_eq_true h3
  by_cases h4 : ¬ (cab ≤ 3)
  · have g4 : decide (cab ≤ 3) = false := decide_eq_false h4
    go_enter Tryd.func25, Tryd.ntmps25
    go_wp2
    go_ret
    exact ⟨by simp, (Below.refl _ _).alloc (Nat.le_refl _) _⟩
  have h4 := Decidable.not_not.1 h4
  have g4 : decide (cab ≤ 3) = true := decide_eq_true h4
  by_cases h5 : ¬ (0 ≤ zone)
  · have g5 : decide (0 ≤ zone) = false := decide_eq_false h5
    go_enter Tryd.func25, Tryd.ntmps25
    go_wp2
    go_ret
    exact ⟨by simp, (Below.refl _ _).alloc (Nat.le_refl _) _⟩
  have h5 := Decidable.not_not.1 h5
  have g5 : decide (0 ≤ zone) = true := decide_eq_true h5
  by_cases h6 : ¬ (zone < 4)
  · have g6 : decide (zone < 4) = false := decide_eq_false h6
    go_enter Tryd.func25, Tryd.ntmps25
    go_wp2
    go_ret
    exact ⟨by simp, (Below.refl _ _).alloc (Nat.le_refl _) _⟩
  have h6 := Decidable.not_not.1 h6
  have g6 : decide (zone < 4) = true := decide_eq_true h6
  go_enter Tryd.func25, Tryd.ntmps25
  go_wp2_with (go_at_call 34; refine (show Calls _ _ _ _ _ from HC.out _).mono ?_; rintro e w1 ⟨rfl, hw1⟩)
  go_ret
  refine ⟨by simp [h1, h2, h3, h4, h5, h6], ?_⟩
  exact (Below.refl _ _).alloc (Nat.le_refl _) _
/-- The k-th of a slice of rows. -/
theorem row_cells {w : World} {ao : Option Addr} {xs : List Rw} (h : ElemsAt rwShape w ao xs) {k : Nat} (hk : k < xs.length) : ∃ pb off, ao = some ⟨pb, off, none⟩ ∧ pb < w.heap.size ∧ w.cell? ⟨pb, off + k * 5, none⟩ = some (.int .i64 (xs.getD k Rw.zero).num) ∧ w.cell? ⟨pb, off + k * 5 + 1, none⟩ = some (.int .i64 (xs.getD k Rw.zero).cab) ∧
    w.cell? ⟨pb, off + k * 5 + 2, none⟩ = some (.int .i64 (xs.getD k Rw.zero).zone) ∧ w.cell? ⟨pb, off + k * 5 + 3, none⟩ = some (.bool (xs.getD k Rw.zero).exit) ∧ w.cell? ⟨pb, off + k * 5 + 4, none⟩ = some (.string (xs.getD k Rw.zero).seats) := by
  rw [getD_lt _ _ _ hk]
  rcases h with rfl | ⟨pb, off, rfl, hp, hc⟩
  · simp at hk
  · exact ⟨pb, off, rfl, hp, hc k hk 0 _ rfl, hc k hk 1 _ rfl, hc k hk 2 _ rfl, hc k hk 3 _ rfl, hc k hk 4 _ rfl⟩
theorem drop_getD (xs : List Rw) (k : Nat) (h : k < xs.length) : xs.drop k = xs.getD k Rw.zero :: xs.drop (k + 1) := by
  rw [List.drop_eq_getElem_cons h, getD_lt _ _ _ h]
def errOf (b : Bool) : Int := if b = true then 0 else 13
set_option maxRecDepth 100000 in
set_option maxHeartbeats 1000000 in
theorem check_any (ao : Option Addr) (ca : Nat) (rows : List Rw) (w : World) (hx : ElemsAt rwShape w ao rows) (hok : ∀ r ∈ rows, r.ok) (hl : rows.length ≤ 4611686018427387904) :
    Calls Tryd.prog 8 #[.slice ao rows.length ca] w fun e w' => e = .returned (.int .i64 (errOf (mapOK rows))) ∧ Below w.heap.size w w' := by
  obtain ⟨m, hm⟩ : ∃ m, m = rows.length := ⟨_, rfl⟩
  have HM : Hid _ := hm
  have hmap : mapOK rows = (decide (1 ≤ m) && decide (m ≤ 6) && ups 0 rows) := by rw [hm]; rfl
  rw [hmap]
  rw [← hm] at hl ⊢
  clear hm hmap
  by_cases h0 : m = 0
  · subst h0
    go_enter Tryd.func8, Tryd.ntmps8
    go_wp2
    go_ret
    exact ⟨rfl, Below.refl _ _⟩
  by_cases h6 : 6 < m
  · have h0' : ((m : Int) == 0) = false := by simp; omega
    have h6' : decide ((6 : Int) < (m : Int)) = true := decide_eq_true (by omega)
    have h7 : decide (m ≤ 6) = false := decide_eq_false (by omega)
    rw [h7]
    go_enter Tryd.func8, Tryd.ntmps8
    go_wp2
    go_ret
    exact ⟨by simp [errOf], Below.refl _ _⟩
  have h0' : ((m : Int) == 0) = false := by simp; omega
  have h6' : decide ((6 : Int) < (m : Int)) = false := decide_eq_false (by omega)
  have h7 : decide (m ≤ 6) = true := decide_eq_true (by omega)
  have h8 : decide (1 ≤ m) = true := decide_eq_true (by omega)
  rw [h7, h8, Bool.and_self, Bool.true_and]
  have HX : Hid (∀ X, Below w.heap.size w X → ElemsAt rwShape X ao rows) := fun X hX => hx.later hX
  have HR : Hid (∀ r ∈ rows, ∀ W, Calls Tryd.prog 25 #[rwv r] W fun e w' => e = .returned (.bool (rowOK r)) ∧ Below W.heap.size W w') := fun r hr W => rightRow_any r (hok r hr).1 W
  have HO : Hid (∀ r ∈ rows, OkN r.num) := fun r hr => (hok r hr).2
  clear hx hok h7 h8
  go_enter Tryd.func8, Tryd.ntmps8
  go_wp2
  go_loopw [3, 16] (fun vb vi wr => ∃ (i : Nat) (b : Int), vi = .int .i64 i ∧ i ≤ m ∧ vb = .int .i64 b ∧ Hid (ups 0 rows = ups b (rows.drop i)) ∧ Hid (Below w.heap.size w wr)) (fun _ vi _ => m - (intOf vi).toNat)
  case atStart => exact ⟨0, 0, rfl, by omega, rfl, rfl, Below.refl _ _⟩
  case round =>
    obtain ⟨i, b, rfl, him, rfl, HU, HB⟩ := hrel
    by_cases hlt : i < m
    · have hle : i < rows.length := by have := HM.out; omega
      have hlt' : (i : Int) < (m : Int) := by omega
      have hk0 : (0 : Int) ≤ (i : Int) := by omega
      obtain ⟨pb, off, rfl, hpb, k0, k1, k2, k3, k4⟩ := row_cells (HX.out wr HB.out) hle
      have hmem : rows.getD i Rw.zero ∈ rows := by rw [getD_lt _ _ _ hle]; exact List.getElem_mem hle
      have HC : Hid _ := HR.out _ hmem
      have ho := HO.out _ hmem
      have hu := HU.out
      rw [drop_getD _ _ hle, ups] at hu
      clear HU hmem HR HX HO
      unfold rwv at HC
      generalize rows.getD i Rw.zero = r at *
      generalize hpp : rowOK r = pp at *
      have hro : -9223372036854775808 ≤ r.num ∧ r.num ≤ 9223372036854775807 := ho
      obtain ⟨num, cab, zone, exit, seats⟩ := r
      simp only at *
      clear ho hpp
      have HB2 : Hid (Below w.heap.size w (wr.alloc (.cells #[.int .i64 num, .int .i64 cab, .int .i64 zone, .bool exit, .string seats] 25))) := HB.out.alloc HB.out.size _
      by_cases hn : num ≤ b
      · rw [if_pos hn] at hu
        have HE : Hid _ := hu
        have hn' : decide (num ≤ b) = true := decide_eq_true hn
        clear hu
        go_wp2
        go_ret
        refine ⟨?_, HB2.out⟩
        rw [HE.out]; rfl
      · rw [if_neg hn] at hu
        have HE : Hid _ := hu
        have hn' : decide (num ≤ b) = false := decide_eq_false hn
        clear hu
        cases pp
        · go_wp2_with (go_at_call 25; refine (show Calls _ _ _ _ _ from HC.out _).mono ?_; rintro e w1 ⟨rfl, hb1⟩)
          go_ret
          refine ⟨?_, HB2.out.trans (hb1.mono HB2.out.size)⟩
          rw [HE.out]; rfl
        · go_wp2_with (go_at_call 25; refine (show Calls _ _ _ _ _ from HC.out _).mono ?_; rintro e w1 ⟨rfl, hb1⟩; have q0 := hb1.cell (p := ⟨wr.heap.size, 0, none⟩) (by simp))
          go_roundw
          case rel => exact ⟨i + 1, num, by go_num, by omega, rfl, by rw [HE.out]; rfl, HB2.out.trans (hb1.mono HB2.out.size)⟩
          case measure => simp [intOf]; omega
    · have hu := HU.out
      rw [List.drop_of_length_le (by have := HM.out; omega)] at hu
      have HE : Hid _ := hu
      clear hu HU
      go_wp2
      go_ret
      refine ⟨?_, HB.out⟩
      rw [HE.out]; rfl
end Go.Proofs.YtbnmjmapmbdioaaDoor.Cb
