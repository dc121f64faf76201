/-
  The reference: a name read, whatever the text.
-/
import Derived.Test.YtjfanbemihheiaaGreatDoorQManNameR
namespace Go.Proofs.YtjfanbemihheiaaGreatDoor.Ma
open Go.RowKit
set_option linter.unusedVariables false

set_option maxRecDepth 100000 in
set_option maxHeartbeats 400000 in
theorem parseR_letter (T : ByteArray) (h2 : 2 ≤ T.size) (z : Int) (hz : ((T[0].toNat : Nat) : Int) = z) (hl : isL z = false) (w : World) : Calls Tryz.prog 23 #[.string T] w fun e w' => e = .returned (parseV none) ∧ w' = w := by
  unfold isL at hl
  simp only [Bool.or_eq_false_iff] at hl
  obtain ⟨⟨k1, k2⟩, k3⟩ := hl
  have e1 : ¬ (z = 116) := by simpa using k1
  have e2 : ¬ (z = 119) := by simpa using k2
  have e3 : ¬ (z = 109) := by simpa using k3
  have n1 : (z != 116) = true := by simpa using e1
  have n2 : (z != 119) = true := by simpa using e2
  have n3 : (z != 109) = true := by simpa using e3
  have hlen : ¬ ((T.size : Int) < 2) := by omega
  have h0 : (0 : Int) < (T.size : Int) := by omega
  have h0' : 0 < T.size := by omega
  clear k1 k2 k3
  go_enter Tryz.func23, Tryz.ntmps23
  go_wp2
  refine bodyPost_ret (v := .tuple #[.int .u8 0, .int .i64 0, .bool false]) (by simp [results, Tryz.results23, go_sem]) rfl ?_
  exact ⟨rfl, rfl⟩
theorem head_of {T : ByteArray} {c : UInt8} {r : List UInt8} (h : T.data.toList = c :: r) (h0 : 0 < T.size) : T[0] = c := by
  obtain ⟨⟨l⟩⟩ := T
  simp only at h
  subst h
  rfl
theorem rest_tail {T : ByteArray} {c : UInt8} {r : List UInt8} (h : T.data.toList = c :: r) : T.extract 1 T.size = ⟨r.toArray⟩ := by
  obtain ⟨⟨l⟩⟩ := T
  simp only at h
  subst h
  exact tail_is c r
set_option maxRecDepth 100000 in
set_option maxHeartbeats 2000000 in
theorem parseR_num (T : ByteArray) (c : UInt8) (r : List UInt8) (hT : T.data.toList = c :: r) (h2 : 2 ≤ T.size) (hl : isL (c.toNat : Int) = true) (hs : T.size ≤ 281474976710000) (w : World) (hp : Pow w) (he : Errs w) : Calls Tryz.prog 23 #[.string T] w fun e w' => e = .returned (parseV (parsed (c :: r))) ∧ Below w.heap.size w w' := by
  rw [parsed_num c r hl]
  have hk := numR_ok r
  have hc : T[0] = c := head_of hT (by omega)
  have htl := rest_tail hT
  have hsz : r.length + 1 = T.size := by have := congrArg List.length hT; rw [← Lib.size_eq, List.length_cons] at this; omega
  obtain ⟨z, hzc⟩ : ∃ z : Int, z = (c.toNat : Int) := ⟨_, rfl⟩
  have hz : ((T[0].toNat : Nat) : Int) = z := by rw [hzc, hc]
  have HA : Hid _ := atoi_num r (by omega) w he
  have HNm : Hid (∀ X, Below w.heap.size w X → Calls Tryz.prog 19 #[.int .u8 z, .int .i64 (numR r)] X fun e w'' => e = .returned (.string (nm c (numR r))) ∧ Below X.heap.size X w'') := fun X hX => by rw [hzc]; exact nameR_any c _ hk X (hp.below hX)
  have HTl : Hid (T.extract 1 T.size = ⟨r.toArray⟩) := htl
  have HCmp : Hid (((nm c (numR r)).toList == T.toList) = decide (Lib.itoa (numR r) = r)) := by show _ = _; rw [Lib.toList_data T, hT]; exact nm_cmp c r _
  have hcs : z = 116 ∨ (¬ z = 116 ∧ z = 119) ∨ (¬ z = 116 ∧ ¬ z = 119 ∧ z = 109) := by
    unfold isL at hl
    simp only [Bool.or_eq_true, beq_iff_eq] at hl
    omega
  have hlen : ¬ ((T.size : Int) < 2) := by omega
  have h0 : (0 : Int) < (T.size : Int) := by omega
  have h0' : 0 < T.size := by omega
  have h1 : (1 : Int) ≤ (T.size : Int) := by omega
  generalize numR r = v at *
  have HZc : Hid (z = (c.toNat : Int)) := hzc
  clear he hp hT htl hl hc hzc
  have HPr : Hid (1 ≤ v ∧ Lib.itoa v = r → (if 1 ≤ v ∧ Lib.itoa v = r then some (c, v) else none) = some (c, v)) := fun h => if_pos h
  have HPn : Hid (¬ (1 ≤ v ∧ Lib.itoa v = r) → (if 1 ≤ v ∧ Lib.itoa v = r then some (c, v) else none) = none) := fun h => if_neg h
  generalize (if 1 ≤ v ∧ Lib.itoa v = r then some (c, v) else none) = R at *
  go_enter Tryz.func23, Tryz.ntmps23
  rcases hcs with rfl | ⟨_, rfl⟩ | ⟨_, _, rfl⟩
  all_goals
    go_wp2_with fail
    rw [HTl.out]
    refine (show Calls _ _ _ _ _ from HA.out).mono ?_
    rintro e w1 ⟨ev, rfl, hb1⟩
    have HB1 : Hid (Below w.heap.size w w1) := hb1
    have HN1 : Hid _ := HNm.out w1 hb1
    clear hb1 HA HNm HTl
    by_cases hv : v < 1
    · have HR : Hid (R = none) := HPn.out (fun h => by omega)
      clear HPr HPn HCmp HN1
      go_wp2
      refine bodyPost_ret (v := .tuple #[.int .u8 0, .int .i64 0, .bool false]) (by simp [results, Tryz.results23, go_sem]) rfl ?_
      exact ⟨by rw [HR.out]; rfl, HB1.out⟩
    · go_wp2_with fail
      refine (show Calls _ _ _ _ _ from HN1.out).mono ?_
      rintro e w2 ⟨rfl, hb2⟩
      have HB2 : Hid (Below w.heap.size w w2) := HB1.out.trans (hb2.mono HB1.out.size)
      clear hb2 HN1 HB1
      by_cases hi : Lib.itoa v = r
      · have HR : Hid (R = some (c, v)) := HPr.out ⟨by omega, hi⟩
        have hcm : ((nm c v).toList == T.toList) = true := by rw [HCmp.out]; exact decide_eq_true hi
        clear HPr HPn HCmp hi
        go_wp2
        refine bodyPost_ret (v := .tuple #[.int .u8 _, .int .i64 v, .bool true]) (by simp [results, Tryz.results23, go_sem]; rfl) rfl ?_
        exact ⟨by rw [HR.out]; show _ = Ending.returned (.tuple #[.int .u8 (c.toNat : Int), .int .i64 v, .bool true]); rw [← HZc.out], HB2.out⟩
      · have HR : Hid (R = none) := HPn.out (fun h => hi h.2)
        have hcm : ((nm c v).toList == T.toList) = false := by rw [HCmp.out]; exact decide_eq_false hi
        clear HPr HPn HCmp hi
        go_wp2
        refine bodyPost_ret (v := .tuple #[.int .u8 0, .int .i64 0, .bool false]) (by simp [results, Tryz.results23, go_sem]) rfl ?_
        exact ⟨by rw [HR.out]; rfl, HB2.out⟩
end Go.Proofs.YtjfanbemihheiaaGreatDoor.Ma
