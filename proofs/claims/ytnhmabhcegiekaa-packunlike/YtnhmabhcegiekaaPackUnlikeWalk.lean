/-
  The walk of the statement PackUnlike: for every two numbers it answers true, and nothing that was there has turned.
-/
import Derived.Test.YtnhmabhcegiekaaPackLives
import Derived.Lib.SmallJoins
namespace Go.Proofs.Ytnhmabhcegiekaa.Pk
open Go.RowKit
set_option linter.unusedVariables false

theorem nums_one (a : Nat) : nums [a] = enc a := by simp [nums]

theorem rd_set {w : World} {b : Nat} {s s' : ByteArray} (h : RdAt w b s) : RdAt (w.setCell ⟨b, 0, none⟩ (.string s')) b s' := one_setCell h

set_option maxRecDepth 100000 in
set_option maxHeartbeats 4000000 in
theorem unlike_walk (a b : Nat) (ha : a < 18446744073709551616) (hb : b < 18446744073709551616) (w : World) :
    Calls Try.prog 8 #[.int .u64 a, .int .u64 b] w fun e w' => e = .returned (.bool true) ∧ Below w.heap.size w w' := by
  go_enter Try.func8, Try.ntmps8
  go_wp2_with fail
  refine (lives_any _).mono ?_
  rintro e w1 ⟨rfl, hb1⟩
  have hs1 := hb1.size
  go_wp2_with fail
  refine (Nums_any w1.heap.size 0 1 [a] _ (by simpa using ha) (cells_new w1 [a] (fun n : Nat => .int .u64 n) _ 0) (by simp) (by simp)).mono ?_
  rintro e w2 ⟨rfl, hb2⟩
  have hs2 := hb2.size
  rw [nums_one]
  go_wp2_with fail
  refine (Nums_any w2.heap.size 0 1 [b] _ (by simpa using hb) (cells_new w2 [b] (fun n : Nat => .int .u64 n) _ 0) (by simp) (by simp)).mono ?_
  rintro e w3 ⟨rfl, hb3⟩
  have hs3 := hb3.size
  rw [nums_one]
  simp at hs2 hs3
  have HB : Hid (Below w.heap.size w w3) := by
    have h2 : Below w.heap.size w w2 := hb1.trans ((((Below.refl _ w1).alloc (Nat.le_refl _) _).trans (hb2.mono (by simp))).mono (by omega))
    exact h2.trans ((((Below.refl _ w2).alloc (Nat.le_refl _) _).trans (hb3.mono (by simp))).mono (by omega))
  clear hb1 hb2 hb3
  have hla := enc_len a
  have hlb := enc_len b
  obtain ⟨X, hX⟩ : ∃ X : ByteArray, X = ⟨(enc a).toArray⟩ := ⟨_, rfl⟩
  obtain ⟨Y, hY⟩ : ∃ Y : ByteArray, Y = ⟨(enc b).toArray⟩ := ⟨_, rfl⟩
  rw [← hX, ← hY]
  have HX : Hid (X.data.toList = enc a) := by rw [hX]; rfl
  have HY : Hid (Y.data.toList = enc b) := by rw [hY]; rfl
  have hx1 : 1 ≤ X.size := by rw [Lib.size_eq, HX.out]; omega
  have hx2 : X.size ≤ 10 := by rw [Lib.size_eq, HX.out]; omega
  have hy2 : Y.size ≤ 10 := by rw [Lib.size_eq, HY.out]; omega
  have hxe : (X.toList == Y.toList) = ((a : Int) == (b : Int)) := by
    rw [Lib.toList_data, Lib.toList_data, HX.out, HY.out, Bool.eq_iff_iff, beq_iff_eq, beq_iff_eq]
    exact ⟨fun h => by rw [enc_inj ha hb h], fun h => by rw [show a = b by omega]⟩
  clear hX hY
  go_wp2_with fail
  go_loopw [7] (fun i wr => ∃ k : Nat, k ≤ X.size ∧ i = .int .i64 k ∧ Hid (Below w.heap.size w wr)) (fun i _ => X.size - (intOf i).toNat)
  case atStart => exact ⟨0, by omega, rfl, HB⟩
  case round =>
    obtain ⟨k, hk, rfl, HBr⟩ := hrel
    clear HB
    have hsr := HBr.out.size
    by_cases hlt : k < X.size
    · have HD : Hid (dnum (X.extract 0 k).data.toList = none) := by
        show dnum _ = none
        rw [Lib.extract_data, HX.out]
        exact dnum_begin a k ha (by rw [Lib.size_eq, HX.out] at hlt; exact hlt)
      have hes : (X.extract 0 k).size = k := by simp; omega
      have HES : Hid _ := hes
      clear hes
      go_wp2_with fail
      generalize X.extract 0 k = Z at *
      refine (read_any _ _).mono ?_
      rintro e w4 ⟨rfl, rfl⟩
      go_wp2_with fail
      refine (rNum_none wr.heap.size Z _ (read_at wr Z) (by have := HES.out; unfold maxLen; omega) HD.out).mono ?_
      rintro e w5 ⟨rfl, rfl⟩
      go_wp2_with fail
      refine (left_any wr.heap.size Z _ (read_at wr Z)).mono ?_
      rintro e w6 ⟨rfl, rfl⟩
      have hes := HES.out
      go_wp2
      go_roundw
      case rel => exact ⟨k + 1, by omega, by go_num, HBr.out.alloc (by omega) _⟩
      case measure => simp [intOf]; omega
    · go_wp2_with fail
      have HZ : Hid ((X ++ Y).data.toList = enc a ++ (enc b ++ [])) := by rw [Go.Joins.data_append, HX.out, HY.out]; simp [Hid]
      have hzs : (X ++ Y).size ≤ 20 := by rw [ByteArray.size_append']; omega
      generalize X ++ Y = Z at *
      refine (read_any _ _).mono ?_
      rintro e w4 ⟨rfl, rfl⟩
      go_wp2_with fail
      have hd1 : dnum Z.data.toList = some (a, (enc a).length) := by rw [HZ.out]; exact dnum_enc a _ ha
      refine (rNum_some wr.heap.size Z _ (read_at wr Z) (by unfold maxLen; omega) _ _ hd1).mono ?_
      rintro e w5 ⟨rfl, rfl⟩
      have hz2 : (Z.extract (enc a).length Z.size).data.toList = enc b := by
        rw [Lib.extract_data, HZ.out, List.drop_left, List.append_nil, List.take_of_length_le]
        rw [Lib.size_eq, HZ.out]; simp
      have hz3 : (Z.extract (enc a).length Z.size).size ≤ 20 := by simp; omega
      generalize Z.extract (enc a).length Z.size = Z2 at *
      go_wp2_with fail
      have hd2 : dnum Z2.data.toList = some (b, (enc b).length) := by
        rw [hz2]
        have := dnum_enc b [] hb
        rwa [List.append_nil] at this
      refine (rNum_some wr.heap.size Z2 _ (read_at wr Z2) (by unfold maxLen; omega) _ _ hd2).mono ?_
      rintro e w6 ⟨rfl, rfl⟩
      have hz4 : (Z2.extract (enc b).length Z2.size).size = 0 := by rw [Lib.size_eq, Lib.extract_data, hz2]; simp
      generalize Z2.extract (enc b).length Z2.size = Z3 at *
      clear hd1 hd2
      go_wp2_with fail
      refine (done_any wr.heap.size Z3 _ (read_at wr Z3)).mono ?_
      rintro e w7 ⟨rfl, rfl⟩
      rw [hz4]
      go_wp2
      go_ret
      exact ⟨rfl, HBr.out.alloc (by omega) _⟩

end Go.Proofs.Ytnhmabhcegiekaa.Pk
