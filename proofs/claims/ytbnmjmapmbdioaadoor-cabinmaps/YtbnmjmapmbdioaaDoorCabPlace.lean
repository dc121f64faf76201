/-
  Package cabin: where a seat's spot stands.
-/
import Derived.Test.YtbnmjmapmbdioaaDoorCabSame
namespace Go.Proofs.YtbnmjmapmbdioaaDoor.Cb
open Go.RowKit Cm
attribute [local go_sem ↓] Go.wp_at_zero Go.wp_at_succ
set_option linter.unusedVariables false

def sev (a : Int × Int) : Value := .agg #[.int .i64 a.1, .int .u8 a.2]
theorem plc_ge (a : Int × Int) (sps : List Sp) : -1 ≤ plc a sps := by
  induction sps with
  | nil => simp [plc]
  | cons s t ih => rw [plc]; split; omega; split <;> omega
/-- Behind k others that aren't there. -/
theorem plc_skip {a : Int × Int} {sps : List Sp} {k : Nat} (hk : k ≤ sps.length) (h : ∀ j, j < k → (sps.getD j Sp.zero).seat ≠ a) : plc a sps = if plc a (sps.drop k) < 0 then -1 else plc a (sps.drop k) + k := by
  induction sps generalizing k with
  | nil =>
    have : k = 0 := by simpa using hk
    subst this; simp [plc]
  | cons s t ih =>
    cases k with
    | zero => have := plc_ge a (s :: t); simp only [List.drop_zero]; split <;> omega
    | succ k =>
      have h0 := h 0 (by omega)
      rw [List.getD_cons_zero] at h0
      have := ih (k := k) (by simpa using hk) (fun j hj => by have := h (j + 1) (by omega); rwa [List.getD_cons_succ] at this)
      rw [plc, if_neg h0, List.drop_succ_cons]
      have hg := plc_ge a (t.drop k)
      rw [this]
      split <;> split <;> (try split) <;> omega
theorem plc_here {a : Int × Int} {sps : List Sp} {k : Nat} (hk : k < sps.length) (h : ∀ j, j < k → (sps.getD j Sp.zero).seat ≠ a) (hs : (sps.getD k Sp.zero).seat = a) : plc a sps = k := by
  rw [plc_skip (by omega) h, drop_sp _ _ hk, plc, if_pos hs, if_neg (by omega)]; omega
theorem plc_nowhere {a : Int × Int} {sps : List Sp} (h : ∀ j, j < sps.length → (sps.getD j Sp.zero).seat ≠ a) : plc a sps = -1 := by
  rw [plc_skip (Nat.le_refl _) h, List.drop_length, plc, if_pos (by omega)]
theorem plc_lt (a : Int × Int) (sps : List Sp) : plc a sps < sps.length := by
  induction sps with
  | nil => simp [plc]
  | cons s t ih => rw [plc, List.length_cons]; split; omega; split <;> omega
theorem seo_cells {w : World} {g : Nat} {a b : Int} (h : w.heap[g]? = some (seObj a b)) : w.cell? ⟨g, 0, none⟩ = some (.int .i64 a) ∧ w.cell? ⟨g, 1, none⟩ = some (.int .u8 b) := by
  refine ⟨?_, ?_⟩ <;> rw [Joins.cell_of_block h] <;> rfl
/-- The question of one spot. -/
theorem asked_any (s : Sp) (a : Int × Int) (g : Nat) (w : World) (hg : w.heap[g]? = some (seObj a.1 a.2)) : Calls Tryd.prog 37 #[spv s, .pointer (some ⟨g, 0, none⟩)] w fun e w' => e = .returned (.bool (decide (s.seat = a))) ∧ Below w.heap.size w w' := by
  have hgd := guardSe
  have he := eql_seat s.seat a
  obtain ⟨c0, c1⟩ := seo_cells hg
  have hlt := lt_of_block hg
  unfold Sp.seat at *
  obtain ⟨num, ltr, cab, zone, blk, exit, bld⟩ := s
  obtain ⟨a1, a2⟩ := a
  unfold spv
  simp only at *
  clear hg
  generalize decide ((num, ltr) = (a1, a2)) = q at *
  have hB : Below w.heap.size w (w.alloc (spObj ⟨num, ltr, cab, zone, blk, exit, bld⟩)) := (Below.refl _ _).alloc (Nat.le_refl _) _
  unfold spObj at hB
  have HB : Hid _ := hB
  have hne : g ≠ w.heap.size := by omega
  clear hB
  go_enter Tryd.func37, Tryd.ntmps37
  go_wp2
  go_ret
  exact ⟨rfl, HB.out⟩
set_option maxRecDepth 100000 in
set_option maxHeartbeats 1000000 in
theorem index_any (a : Int × Int) (g : Nat) (ao : Option Addr) (ca : Nat) (sps : List Sp) (w : World) (hx : ElemsAt spShape w ao sps) (hl : sps.length ≤ 4611686018427387904) (hg : w.heap[g]? = some (seObj a.1 a.2)) :
    Calls Tryd.prog 36 #[.slice ao sps.length ca, .func (.func 37) #[] #[.pointer (some ⟨g, 0, none⟩)]] w fun e w' => e = .returned (.int .i64 (plc a sps)) ∧ Below w.heap.size w w' := by
  obtain ⟨m, hm⟩ : ∃ m, m = sps.length := ⟨_, rfl⟩
  have HM : Hid _ := hm
  rw [← hm] at hl ⊢
  have HX : Hid (∀ X, Below w.heap.size w X → ElemsAt spShape X ao sps) := fun X hX => hx.later hX
  have HF : Hid (∀ s W, Below w.heap.size w W → Calls Tryd.prog 37 #[spv s, .pointer (some ⟨g, 0, none⟩)] W fun e w' => e = .returned (.bool (decide (s.seat = a))) ∧ Below W.heap.size W w') := fun s W hW => asked_any s a g W ((hW.block _ (lt_of_block hg)).trans hg)
  clear hx hm hg
  go_enter Tryd.func36, Tryd.ntmps36
  go_wp2
  go_loopw [8] (fun vi wr => ∃ i : Nat, vi = .int .i64 i ∧ i ≤ m ∧ Hid (∀ j, j < i → (sps.getD j Sp.zero).seat ≠ a) ∧ Hid (Below w.heap.size w wr)) (fun vi _ => m - (intOf vi).toNat)
  case atStart => exact ⟨0, rfl, by omega, fun j hj => by omega, Below.refl _ _⟩
  case round =>
    obtain ⟨i, rfl, him, HJ, HB⟩ := hrel
    by_cases hlt : i < m
    · have hle : i < sps.length := by have := HM.out; omega
      have hlt' : (i : Int) < (m : Int) := by omega
      have hk0 : (0 : Int) ≤ (i : Int) := by omega
      obtain ⟨pb, off, rfl, _, k0, k1, k2, k3, k4, k5, k6⟩ := spot_cells (HX.out wr HB.out) hle
      have HC : Hid _ := HF.out (sps.getD i Sp.zero) wr HB.out
      have HJn : Hid (decide ((sps.getD i Sp.zero).seat = a) = false → ∀ j, j < i + 1 → (sps.getD j Sp.zero).seat ≠ a) := fun h j hj => by
        by_cases e : j = i
        · rw [e]; exact of_decide_eq_false h
        · exact HJ.out j (by omega)
      have HJd : Hid (decide ((sps.getD i Sp.zero).seat = a) = true → plc a sps = i) := fun h => plc_here hle HJ.out (of_decide_eq_true h)
      unfold spv at HC
      clear HJ HX HF
      generalize hpp : decide ((sps.getD i Sp.zero).seat = a) = pp at *
      generalize sps.getD i Sp.zero = x at *
      clear hpp
      go_wp2_with fail
      refine (show Calls _ _ _ _ _ from HC.out).mono ?_
      rintro e w1 ⟨rfl, hb1⟩
      have HB1 : Hid (Below w.heap.size w w1) := HB.out.trans (hb1.mono HB.out.size)
      clear hb1 HC
      cases pp
      · go_wp2
        go_roundw
        case rel => exact ⟨i + 1, by go_num, by omega, HJn.out (by trivial), HB1⟩
        case measure => simp [intOf]; omega
      · have HD : Hid (plc a sps = i) := HJd.out rfl
        clear HJd HJn
        go_wp2
        go_ret
        refine ⟨?_, HB1.out⟩
        rw [HD.out]; rfl
    · have HD : Hid (plc a sps = -1) := plc_nowhere fun j hj => HJ.out j (by have := HM.out; omega)
      clear HJ
      go_wp2
      go_ret
      refine ⟨?_, HB.out⟩
      rw [HD.out]; rfl
set_option maxRecDepth 100000 in
theorem place_any (a : Int × Int) (ao : Option Addr) (ca : Nat) (sps : List Sp) (w : World) (hx : ElemsAt spShape w ao sps) (hl : sps.length ≤ 4611686018427387904) :
    Calls Tryd.prog 30 #[sev a, .slice ao sps.length ca] w fun e w' => e = .returned (.int .i64 (plc a sps)) ∧ Below w.heap.size w w' := by
  have hb : Below w.heap.size w (w.alloc (seObj a.1 a.2)) := (Below.refl _ _).alloc (Nat.le_refl _) _
  have HC : Hid _ := index_any a w.heap.size ao ca sps (w.alloc (seObj a.1 a.2)) (hx.later hb) hl (heap_alloc_new w _)
  have HB : Hid _ := hb
  clear hx hb
  unfold seObj at HC HB
  unfold sev
  go_enter Tryd.func30, Tryd.ntmps30
  go_wp2_with (go_at_call 36; refine (show Calls _ _ _ _ _ from HC.out).mono ?_; rintro e w1 ⟨rfl, hb1⟩)
  go_ret
  exact ⟨rfl, HB.out.trans (hb1.mono HB.out.size)⟩
end Go.Proofs.YtbnmjmapmbdioaaDoor.Cb
