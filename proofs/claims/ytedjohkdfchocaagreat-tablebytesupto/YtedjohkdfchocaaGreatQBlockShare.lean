/-
  The texts BlockShare.
-/
import Derived.Test.YtedjohkdfchocaaGreatPart1

/-
  Package block and the document's answer: what two texts share.
-/
namespace Go.Proofs.YtedjohkdfchocaaGreat.Bk
open Go.RowKit Cm Mm
set_option linter.unusedVariables false

theorem bs_at (a : ByteArray) (k : Nat) (h : k < a.size) : (bs a)[k]? = some a[k] := by
  unfold bs
  rw [List.getElem?_eq_getElem (by simpa using h)]; rfl
theorem share_stop {a b : ByteArray} {k : Nat} (h1 : k ≤ a.size) (h2 : k ≤ b.size) (h : ∀ j, j < k → (bs a)[j]? = (bs b)[j]?) (hs : k = a.size ∨ k = b.size ∨ (bs a)[k]? ≠ (bs b)[k]?) : share (bs a) (bs b) = k :=
  share_is (by rw [bs_len]; exact h1) (by rw [bs_len]; exact h2) h (by rw [bs_len, bs_len]; exact hs)
theorem more_alike {a b : ByteArray} {k : Nat} (h : ∀ j, j < k → (bs a)[j]? = (bs b)[j]?) (h1 : (bs a)[k]? = (bs b)[k]?) : ∀ j, j < k + 1 → (bs a)[j]? = (bs b)[j]? := fun j hj => by
  rcases Nat.lt_or_ge j k with h2 | h2
  · exact h j h2
  · obtain rfl : j = k := by omega
    exact h1
theorem ret_min {a b c : Nat} (h : min a b = c) : Ending.returned (.int .i64 (min (a : Int) (b : Int))) = .returned (.int .i64 (c : Int)) := by rw [← h]; congr 2; omega
theorem ret_nat {a b : Nat} (h : a = b) : Ending.returned (.int .i64 (a : Int)) = .returned (.int .i64 (b : Int)) := by rw [h]
theorem byte_ne {x y : UInt8} (h : x ≠ y) : ((x.toNat : Int) == (y.toNat : Int)) = false := by
  rw [beq_eq_false_iff_ne]
  intro e
  exact h (UInt8.toNat_inj.1 (by omega))

set_option maxRecDepth 100000 in
set_option maxHeartbeats 1000000 in
theorem shared_any (a b : ByteArray) (w : World) (ha : a.size ≤ 1000000000000) (hb : b.size ≤ 1000000000000) :
    Calls Tryz.prog 90 #[.string a, .string b] w fun e w' => e = .returned (.int .i64 (share (bs a) (bs b) : Nat)) ∧ ∃ n, w' = w.drewN n := by
  rcases (show a.size ≤ b.size ∨ b.size < a.size by omega) with hm | hm
  all_goals
    go_enter Tryz.func90, Tryz.ntmps90
    go_wp2
    go_loopw [13] (fun i wr => ∃ k n : Nat, k ≤ a.size ∧ k ≤ b.size ∧ i = .int .i64 k ∧ Hid (∀ j, j < k → (bs a)[j]? = (bs b)[j]?) ∧ Hid (wr = w.drewN n)) (fun i _ => a.size - (intOf i).toNat)
    case atStart => exact ⟨0, 0, by omega, by omega, rfl, (fun j hj => by omega), rfl⟩
    case round =>
      obtain ⟨k, n, hk1, hk2, rfl, HP, HW⟩ := hrel
      have hwr := HW.out
      subst hwr
      by_cases hlt : k < a.size ∧ k < b.size
      · obtain ⟨h1, h2⟩ := hlt
        have q1 := bs_at a k h1
        have q2 := bs_at b k h2
        have hk0 : (0 : Int) ≤ (k : Int) := by omega
        have hk3 : (k : Int) < (a.size : Int) := by omega
        have hk4 : (k : Int) < (b.size : Int) := by omega
        by_cases he : a[k] = b[k]
        · have HN : Hid (∀ j, j < k + 1 → (bs a)[j]? = (bs b)[j]?) := more_alike HP.out (by rw [q1, q2, he])
          have hb1 : ((a[k].toNat : Int) == (b[k].toNat : Int)) = true := by rw [he]; simp
          clear q1 q2 HP HW he
          go_wp2_with fail
          go_quiet (fail)
          go_wp2
          go_roundw
          case rel => exact ⟨k + 1, _, by omega, by omega, by go_num, HN, hid_rfl⟩
          case measure => simp [intOf]; omega
        · have HN : Hid (k = share (bs a) (bs b)) := (share_stop hk1 hk2 HP.out (.inr (.inr (by rw [q1, q2]; simpa using he)))).symm
          have hb1 := byte_ne he
          clear q1 q2 HP HW he
          go_wp2_with fail
          go_quiet (fail)
          go_wp2
          go_ret
          exact ⟨ret_nat HN.out, _, World.drewN_drewN _ _ _⟩
      · have HN : Hid (share (bs a) (bs b) = k) := share_stop hk1 hk2 HP.out (by omega)
        clear HP HW
        go_wp2
        go_ret
        first | exact ⟨ret_nat (by rw [HN.out]; omega), _, rfl⟩ | exact ⟨ret_min (by rw [HN.out]; omega), _, rfl⟩
set_option maxRecDepth 100000 in
set_option maxHeartbeats 1000000 in
theorem sharedR_any (a b : ByteArray) (w : World) (ha : a.size ≤ 1000000000000) (hb : b.size ≤ 1000000000000) :
    Calls Tryz.prog 50 #[.string a, .string b] w fun e w' => e = .returned (.int .i64 (share (bs a) (bs b) : Nat)) ∧ ∃ n, w' = w.drewN n := by
  go_enter Tryz.func50, Tryz.ntmps50
  go_wp2
  go_loopw [5] (fun i wr => ∃ k n : Nat, k ≤ a.size ∧ k ≤ b.size ∧ i = .int .i64 k ∧ Hid (∀ j, j < k → (bs a)[j]? = (bs b)[j]?) ∧ Hid (wr = w.drewN n)) (fun i _ => a.size - (intOf i).toNat)
  case atStart => exact ⟨0, 0, by omega, by omega, rfl, (fun j hj => by omega), rfl⟩
  case round =>
    obtain ⟨k, n, hk1, hk2, rfl, HP, HW⟩ := hrel
    have hwr := HW.out
    subst hwr
    by_cases h1 : k < a.size
    · by_cases h2 : k < b.size
      · have q1 := bs_at a k h1
        have q2 := bs_at b k h2
        have hk0 : (0 : Int) ≤ (k : Int) := by omega
        have hk3 : (k : Int) < (a.size : Int) := by omega
        have hk4 : (k : Int) < (b.size : Int) := by omega
        by_cases he : a[k] = b[k]
        · have HN : Hid (∀ j, j < k + 1 → (bs a)[j]? = (bs b)[j]?) := more_alike HP.out (by rw [q1, q2, he])
          have hb1 : ((a[k].toNat : Int) == (b[k].toNat : Int)) = true := by rw [he]; simp
          clear q1 q2 HP HW he
          go_wp2_with fail
          go_quiet (fail)
          go_wp2
          go_roundw
          case rel => exact ⟨k + 1, _, by omega, by omega, by go_num, HN, hid_rfl⟩
          case measure => simp [intOf]; omega
        · have HN : Hid (k = share (bs a) (bs b)) := (share_stop hk1 hk2 HP.out (.inr (.inr (by rw [q1, q2]; simpa using he)))).symm
          have hb1 := byte_ne he
          clear q1 q2 HP HW he
          go_wp2_with fail
          go_quiet (fail)
          go_wp2
          go_ret
          exact ⟨ret_nat HN.out, _, World.drewN_drewN _ _ _⟩
      · have HN : Hid (k = share (bs a) (bs b)) := (share_stop hk1 hk2 HP.out (by omega)).symm
        have hk3 : (k : Int) < (a.size : Int) := by omega
        have hk4 : decide ((k : Int) < (b.size : Int)) = false := by simp; omega
        clear HP HW
        go_wp2_with fail
        go_quiet (fail)
        go_wp2
        go_ret
        exact ⟨ret_nat HN.out, _, World.drewN_drewN _ _ _⟩
    · have HN : Hid (k = share (bs a) (bs b)) := (share_stop hk1 hk2 HP.out (by omega)).symm
      have hk3 : decide ((k : Int) < (a.size : Int)) = false := by simp; omega
      clear HP HW
      go_wp2_with fail
      go_quiet (fail)
      go_wp2
      go_ret
      exact ⟨ret_nat HN.out, _, World.drewN_drewN _ _ _⟩
end Go.Proofs.YtedjohkdfchocaaGreat.Bk
