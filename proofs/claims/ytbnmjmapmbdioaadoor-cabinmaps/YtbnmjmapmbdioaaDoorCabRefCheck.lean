/-
  The document's cabin: a right map.
-/
import Derived.Test.YtbnmjmapmbdioaaDoorCabRef
namespace Go.Proofs.YtbnmjmapmbdioaaDoor.Cb
open Go.RowKit Cm
attribute [local go_sem ↓] Go.wp_at_zero Go.wp_at_succ
set_option linter.unusedVariables false

set_option maxRecDepth 100000 in
set_option maxHeartbeats 4000000 in
theorem checkR_any (ao : Option Addr) (ca : Nat) (rows : List Rw) (w : World) (hx : ElemsAt rwShape w ao rows) (hok : ∀ r ∈ rows, r.ok) (hl : rows.length ≤ 4611686018427387904) :
    Calls Tryd.prog 9 #[.slice ao rows.length ca] w fun e w' => e = .returned (.int .i64 (errOf (mapOK rows))) ∧ Below w.heap.size w w' := by
  obtain ⟨m, hm⟩ : ∃ m, m = rows.length := ⟨_, rfl⟩
  have HM : Hid _ := hm
  have hmap : mapOK rows = (decide (1 ≤ m) && decide (m ≤ 6) && ups 0 rows) := by rw [hm]; rfl
  rw [hmap]
  rw [← hm] at hl ⊢
  clear hm hmap
  by_cases h0 : m = 0
  · subst h0
    go_enter Tryd.func9, Tryd.ntmps9
    go_wp2
    go_ret
    exact ⟨rfl, Below.refl _ _⟩
  have h0' : decide ((m : Int) < 1) = false := decide_eq_false (by omega)
  by_cases h6 : 6 < m
  · have h6' : decide ((6 : Int) < (m : Int)) = true := decide_eq_true (by omega)
    have h7 : decide (m ≤ 6) = false := decide_eq_false (by omega)
    rw [h7]
    go_enter Tryd.func9, Tryd.ntmps9
    go_wp2
    go_ret
    exact ⟨by simp [errOf], Below.refl _ _⟩
  have h6' : decide ((6 : Int) < (m : Int)) = false := decide_eq_false (by omega)
  have h7 : decide (m ≤ 6) = true := decide_eq_true (by omega)
  have h8 : decide (1 ≤ m) = true := decide_eq_true (by omega)
  rw [h7, h8, Bool.and_self, Bool.true_and]
  have HX : Hid (∀ X, Below w.heap.size w X → ElemsAt rwShape X ao rows) := fun X hX => hx.later hX
  have HR : Hid (∀ r ∈ rows, ∀ W, Calls Tryd.prog 26 #[.string r.seats] W fun e w' => e = .returned (.bool (scan 0 0 true r.list)) ∧ w' = W) := fun r hr W => seatsR_any r.seats W (hok r hr).1
  clear hx hok h7 h8
  go_enter Tryd.func9, Tryd.ntmps9
  go_wp2
  go_loopw [3, 16] (fun vb vi wr => ∃ (i : Nat) (b : Int), vi = .int .i64 i ∧ i ≤ m ∧ vb = .int .i64 b ∧ 0 ≤ b ∧ Hid (ups 0 rows = ups b (rows.drop i)) ∧ Hid (Below w.heap.size w wr)) (fun _ vi _ => m - (intOf vi).toNat)
  case atStart => exact ⟨0, 0, rfl, by omega, rfl, by omega, rfl, Below.refl _ _⟩
  case round =>
    obtain ⟨i, b, rfl, him, rfl, hb0, HU, HB⟩ := hrel
    by_cases hlt : i < m
    · have hle : i < rows.length := by have := HM.out; omega
      have hlt' : (i : Int) < (m : Int) := by omega
      have hk0 : (0 : Int) ≤ (i : Int) := by omega
      obtain ⟨pb, off, rfl, hpb, k0, k1, k2, k3, k4⟩ := row_cells (HX.out wr HB.out) hle
      have hmem : rows.getD i Rw.zero ∈ rows := by rw [getD_lt _ _ _ hle]; exact List.getElem_mem hle
      have HC : Hid _ := HR.out _ hmem
      have hu := HU.out
      rw [drop_getD _ _ hle, ups] at hu
      clear HU hmem HR HX
      generalize rows.getD i Rw.zero = r at *
      have hrow : rowOK r = (decide (1 ≤ r.num) && decide (r.num ≤ 99) && decide (1 ≤ r.cab) && decide (r.cab ≤ 3) && decide (0 ≤ r.zone) && decide (r.zone < 4) && scan 0 0 true r.list) := rfl
      rw [hrow] at hu
      clear hrow
      generalize scan 0 0 true (Rw.list r) = pp at *
      obtain ⟨num, cab, zone, exit, seats⟩ := r
      simp only at *
      have HB2 : Hid (Below w.heap.size w (wr.alloc (.cells #[.int .i64 num, .int .i64 cab, .int .i64 zone, .bool exit, .string seats] 25))) := HB.out.alloc HB.out.size _
      by_cases hn : num ≤ b
      · rw [if_pos hn] at hu
        have HE : Hid _ := hu
        have hn' : decide (num ≤ b) = true := decide_eq_true hn
        clear hu
        go_wp2
        go_ret
        refine ⟨?_, HB2.out⟩
        rw [HE.out]; rfl
      rw [if_neg hn] at hu
      have hn' : decide (num ≤ b) = false := decide_eq_false hn
      by_cases b1 : 99 < num
      · have g1 : decide (99 < num) = true := decide_eq_true b1
        have n1 : decide (num ≤ 99) = false := decide_eq_false (by omega)
        rw [n1] at hu
        simp only [Bool.and_false, Bool.false_and, Bool.false_eq_true, if_false] at hu
        have HE : Hid _ := hu
        clear hu
        go_wp2
        go_ret
        refine ⟨?_, HB2.out⟩
        rw [HE.out]; rfl
      have g1 : decide (99 < num) = false := decide_eq_false b1
      have n1 : decide (num ≤ 99) = true := decide_eq_true (by omega)
      by_cases b2 : cab < 1
      · have g2 : decide (cab < 1) = true := decide_eq_true b2
        have n2 : decide (1 ≤ cab) = false := decide_eq_false (by omega)
        rw [n2] at hu
        simp only [Bool.and_false, Bool.false_and, Bool.false_eq_true, if_false] at hu
        have HE : Hid _ := hu
        clear hu
        go_wp2
        go_ret
        refine ⟨?_, HB2.out⟩
        rw [HE.out]; rfl
      have g2 : decide (cab < 1) = false := decide_eq_false b2
      have n2 : decide (1 ≤ cab) = true := decide_eq_true (by omega)
      by_cases b3 : 3 < cab
      · have g3 : decide (3 < cab) = true := decide_eq_true b3
        have n3 : decide (cab ≤ 3) = false := decide_eq_false (by omega)
        rw [n3] at hu
        simp only [Bool.and_false, Bool.false_and, Bool.false_eq_true, if_false] at hu
        have HE : Hid _ := hu
        clear hu
        go_wp2
        go_ret
        refine ⟨?_, HB2.out⟩
        rw [HE.out]; rfl
      have g3 : decide (3 < cab) = false := decide_eq_false b3
      have n3 : decide (cab ≤ 3) = true := decide_eq_true (by omega)
      by_cases b4 : zone < 0
      · have g4 : decide (zone < 0) = true := decide_eq_true b4
        have n4 : decide (0 ≤ zone) = false := decide_eq_false (by omega)
        rw [n4] at hu
        simp only [Bool.and_false, Bool.false_and, Bool.false_eq_true, if_false] at hu
        have HE : Hid _ := hu
        clear hu
        go_wp2
        go_ret
        refine ⟨?_, HB2.out⟩
        rw [HE.out]; rfl
      have g4 : decide (zone < 0) = false := decide_eq_false b4
      have n4 : decide (0 ≤ zone) = true := decide_eq_true (by omega)
      by_cases b5 : 4 ≤ zone
      · have g5 : decide (4 ≤ zone) = true := decide_eq_true b5
        have n5 : decide (zone < 4) = false := decide_eq_false (by omega)
        rw [n5] at hu
        simp only [Bool.and_false, Bool.false_and, Bool.false_eq_true, if_false] at hu
        have HE : Hid _ := hu
        clear hu
        go_wp2
        go_ret
        refine ⟨?_, HB2.out⟩
        rw [HE.out]; rfl
      have g5 : decide (4 ≤ zone) = false := decide_eq_false b5
      have n5 : decide (zone < 4) = true := decide_eq_true (by omega)
      rw [n1, n2, n3, n4, n5] at hu
      have n0 : decide (1 ≤ num) = true := decide_eq_true (by omega)
      rw [n0] at hu
      simp only [Bool.true_and] at hu
      clear n0 n1 n2 n3 n4 n5
      cases pp
      · simp only [Bool.false_eq_true, if_false] at hu
        have HE : Hid _ := hu
        clear hu
        go_wp2_with (go_at_call 26; refine (show Calls _ _ _ _ _ from HC.out _).mono ?_; rintro e w1 ⟨rfl, rfl⟩)
        go_ret
        refine ⟨?_, HB2.out⟩
        rw [HE.out]; rfl
      · simp only [if_true] at hu
        have HE : Hid _ := hu
        clear hu
        go_wp2_with (go_at_call 26; refine (show Calls _ _ _ _ _ from HC.out _).mono ?_; rintro e w1 ⟨rfl, rfl⟩)
        go_roundw
        case rel => exact ⟨i + 1, num, by go_num, by omega, rfl, by omega, by rw [HE.out]; rfl, HB2.out⟩
        case measure => simp [intOf]; omega
    · have hu := HU.out
      rw [List.drop_of_length_le (by have := HM.out; omega)] at hu
      have HE : Hid _ := hu
      clear hu HU
      go_wp2
      go_ret
      refine ⟨?_, HB.out⟩
      rw [HE.out]; rfl
end Go.Proofs.YtbnmjmapmbdioaaDoor.Cb
