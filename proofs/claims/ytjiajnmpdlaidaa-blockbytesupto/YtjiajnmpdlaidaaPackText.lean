/-
  Package pack's reader: what Text answers. (The library's Clone by its contract of the shelf, laid at this translation.)
-/
import Derived.Shelf.LaysM
import Derived.Shelf.Strconv.Clone
import Derived.Test.YtjiajnmpdlaidaaPackRest
namespace Go.Proofs
open Go.Shelf
def Try.laysM316_ren : Go.Shelf.Ren := ⟨fun | 316 => 51 | n => n, fun | 9 => 9 | 3 => 3 | 4 => 4 | 37 => 37 | 0 => 0 | 127 => 94 | 5 => 5 | n => n, fun | n => n⟩
theorem Try.laysM316 : Go.Proofs.LaysM.n316 Try.prog Try.laysM316_ren := {
  mixed := by kernel_rfl
  f316 := Try.func51.trans (congrArg some (by kernel_rfl))
  t0 := Try.underlying0
  a0 := Try.isAgg0
  z0 := Try.sizeOf0
  v0 := Try.zeroValue0
  t3 := Try.underlying3
  a3 := Try.isAgg3
  z3 := Try.sizeOf3
  v3 := Try.zeroValue3
  t4 := Try.underlying4
  a4 := Try.isAgg4
  z4 := Try.sizeOf4
  v4 := Try.zeroValue4
  t9 := Try.underlying9
  a9 := Try.isAgg9
  z9 := Try.sizeOf9
  v9 := Try.zeroValue9
  t37 := Try.underlying37
  a37 := Try.isAgg37
  z37 := Try.sizeOf37
  v37 := Try.zeroValue37
  t127 := Try.underlying94
  a127 := Try.isAgg94
  z127 := Try.sizeOf94
  v127 := Try.zeroValue94
  t5 := Try.underlying5
  a5 := Try.isAgg5
  z5 := Try.sizeOf5
  v5 := Try.zeroValue5
  i0 := by kernel_rfl
  i3 := by kernel_rfl
  i4 := by kernel_rfl
  i5 := by kernel_rfl
  i9 := by kernel_rfl
  i37 := by kernel_rfl
  i127 := by kernel_rfl }
end Go.Proofs

namespace Go.Proofs.Ytjiajnmpdlaidaa.Pk
open Go.RowKit
set_option linter.unusedVariables false

theorem clone_any (s : ByteArray) (w : World) (hlim : s.size ≤ 281474976710656) :
    Calls Try.prog 49 #[.string s] w fun e w' => e = .returned (.string s) ∧ Below w.heap.size w w' := by
  go_enter Try.func49, Try.ntmps49
  go_wp2_with fail
  refine (Any.stringslite_Clone Try.laysM316 s _ hlim).mono ?_
  rintro e w1 ⟨rfl, hb⟩
  go_wp2
  go_ret
  exact ⟨rfl, hb⟩

theorem dtext_none {l : List UInt8} (h : dtext l = none) : dnum l = none ∨ ∃ n k, dnum l = some (n, k) ∧ l.length - k < n := by
  unfold dtext at h
  cases hd : dnum l with
  | none => exact .inl rfl
  | some p =>
    obtain ⟨n, k⟩ := p
    rw [hd] at h
    simp only at h
    split at h
    · cases h
    · exact .inr ⟨n, k, rfl, by omega⟩
theorem dtext_some {l : List UInt8} {n k : Nat} (h : dtext l = some (k, n)) : dnum l = some (n, k) ∧ n ≤ l.length - k := by
  unfold dtext at h
  cases hd : dnum l with
  | none => rw [hd] at h; cases h
  | some p =>
    obtain ⟨n', k'⟩ := p
    rw [hd] at h
    simp only at h
    split at h
    · simp only [Option.some.injEq, Prod.mk.injEq] at h
      obtain ⟨rfl, rfl⟩ := h
      exact ⟨rfl, by assumption⟩
    · cases h

set_option maxHeartbeats 1000000 in
theorem rText_none (b : Nat) (s : ByteArray) (w : World) (hr : RdAt w b s) (hs : s.size ≤ maxLen) (hd : dtext s.data.toList = none) :
    Calls Try.prog 41 #[.pointer (some ⟨b, 0, none⟩)] w fun e w' => e = .returned (.tuple #[.string ⟨#[]⟩, .int .i64 1]) ∧ w' = w := by
  have hc := cell_of_one hr
  have hs' := hs
  unfold maxLen at hs'
  rcases dtext_none hd with h | ⟨n, k, h, hlt⟩
  · have HN : Hid (num s.data.toList = (0, 0)) := num_none h
    go_enter Try.func41, Try.ntmps41
    go_wp2_with fail
    refine (number_any s _ hs).mono ?_
    rintro e w' ⟨rfl, rfl⟩
    rw [HN.out]
    go_wp2
    go_ret2
    exact ⟨rfl, rfl⟩
  · have HN : Hid (num s.data.toList = (n, k)) := num_some h
    have hp := dnum_some h
    have hl := enc_len n
    have hk1 : 1 ≤ k := by omega
    have hk2 : k ≤ s.size := by have := hp.2.2.2; simpa using this
    have hlt2 : s.size - k < n := by rw [Lib.size_eq]; exact hlt
    clear hp hl h hlt
    go_enter Try.func41, Try.ntmps41
    go_wp2_with fail
    refine (number_any s _ hs).mono ?_
    rintro e w' ⟨rfl, rfl⟩
    rw [HN.out]
    go_wp2
    go_ret2
    exact ⟨rfl, rfl⟩

theorem str_slice (s : ByteArray) (k n : Nat) (h : k + n ≤ s.size) (W : World) : (Instr.slice 9 (.string s) (some (.int .i64 (k : Int))) (some (.int .i64 ((k : Int) + (n : Int)))) none).run Try.prog W = .ok (.string (s.extract k (k + n))) W := by
  have := run_slice_string (P := Try.prog) W 9 s .i64 .i64 (k : Int) ((k : Int) + (n : Int)) Try.underlying9 (by omega) (by omega) (by omega)
  rwa [show ((k : Int) + (n : Int)).toNat = k + n by omega, Int.toNat_natCast] at this

set_option maxHeartbeats 1000000 in
theorem rText_some (b : Nat) (s : ByteArray) (w : World) (hr : RdAt w b s) (hs : s.size ≤ 140737488355328) (n k : Nat) (hd : dtext s.data.toList = some (k, n)) :
    Calls Try.prog 41 #[.pointer (some ⟨b, 0, none⟩)] w fun e w' => e = .returned (.tuple #[.string (s.extract k (k + n)), .int .i64 0]) ∧ ∃ w1, Below w.heap.size w w1 ∧ w' = w1.setCell ⟨b, 0, none⟩ (.string (s.extract (k + n) s.size)) := by
  have hc := cell_of_one hr
  have hf := free_of_one hr
  have hlt := lt_of_block hr
  obtain ⟨h, hle⟩ := dtext_some hd
  have HN : Hid (num s.data.toList = (n, k)) := num_some h
  have hp := dnum_some h
  have hl := enc_len n
  have hk1 : 1 ≤ k := by omega
  have hk2 : k ≤ s.size := by have := hp.2.2.2; simpa using this
  have hle2 : k + n ≤ s.size := by rw [← Lib.size_eq] at hle; omega
  clear hp hl h hle hd
  go_enter Try.func41, Try.ntmps41
  go_wp2_with fail
  refine (number_any s _ (by unfold maxLen; omega)).mono ?_
  rintro e w' ⟨rfl, rfl⟩
  rw [HN.out]
  have hk0 : ((k : Int) == 0) = false := by rw [beq_eq_false_iff_ne]; omega
  have hdn : decide ((s.size : Int) - (k : Int) < (n : Int)) = false := by simp; omega
  have h0k : (0 : Int) ≤ (k : Int) := by omega
  have hkm : (k : Int) ≤ (k : Int) + (n : Int) := by omega
  have hms : (k : Int) + (n : Int) ≤ (s.size : Int) := by omega
  have hsl := str_slice s k n hle2
  go_wp2_with fail
  refine (clone_any (s.extract k (k + n)) _ (by simp; omega)).mono ?_
  rintro e w1 ⟨rfl, hb1⟩
  have hr1 : RdAt w1 b s := (hb1.block b hlt).trans hr
  have hc1 := cell_of_one hr1
  have hf1 := free_of_one hr1
  go_wp2
  go_ret2
  exact ⟨rfl, w1, hb1, rfl⟩

end Go.Proofs.Ytjiajnmpdlaidaa.Pk
