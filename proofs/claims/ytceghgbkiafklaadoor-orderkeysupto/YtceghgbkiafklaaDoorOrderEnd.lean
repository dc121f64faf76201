/-
  Package order: 'End' answers the least text behind all that begin so; the reference answers the same.
-/
import Derived.Test.YtceghgbkiafklaaDoorOrderWrite
import Derived.Laws.Concat
namespace Go.Proofs.YtceghgbkiafklaaDoor.Od
open Go.RowKit
open Go.Proofs.YtceghgbkiafklaaDoor.Cm
attribute [local go_sem ↓] Go.wp_at_zero Go.wp_at_succ
set_option linter.unusedVariables false

theorem idx_str (s : ByteArray) (m : Nat) (h : m < s.size) (W : World) : (Instr.index 9 (.string s) (.int .i64 (m : Int))).run Tryd.prog W = .ok (.int .u8 ((s.data.toList[m]'(by rw [← Lib.size_eq]; exact h)).toNat : Nat)) W := by
  have h2 := run_index_string (P := Tryd.prog) W 9 s .i64 (m : Int) Tryd.underlying9
  rw [dif_pos ⟨by omega, by omega⟩] at h2
  exact h2
theorem endOf_take (l : List UInt8) (m : Nat) (h : m < l.length) : endOf (l.take (m + 1)) = if l[m] = 255 then endOf (l.take m) else l.take m ++ [l[m] + 1] := by
  rw [List.take_add_one, List.getElem?_eq_getElem h, Option.toList_some, endOf_snoc]
theorem str_concat (s : ByteArray) (m : Nat) (d : UInt8) (h : m ≤ s.size) : s.extract 0 m ++ (⟨#[d]⟩ : ByteArray) = ⟨(s.data.toList.take m ++ [d]).toArray⟩ := by
  apply bytes_inj
  rw [ByteArray.data_append, Array.toList_append, ByteArray.data_extract]
  simp
theorem sl_to (s : ByteArray) (m : Nat) (h : m ≤ s.size) (W : World) : (Instr.slice 9 (.string s) none (some (.int .i64 (m : Int))) none).run Tryd.prog W = .ok (.string (s.extract 0 m)) W := by
  have h2 := run_slice_string_to_if (P := Tryd.prog) W 9 s .i64 (m : Int) Tryd.underlying9
  rw [if_pos ⟨by omega, by omega⟩, Int.toNat_natCast] at h2
  exact h2
theorem ext_size (s : ByteArray) (m : Nat) (h : m ≤ s.size) : (s.extract 0 m).size = m := by rw [ByteArray.size_extract]; omega
theorem conv_one (w : World) (d : UInt8) : (convert 43 9 (.slice (some ⟨w.heap.size, 0, none⟩) 1 1)).run Tryd.prog (w.alloc (.cells #[.int .u8 (d.toNat : Nat)] 5)).drew = .ok (.string ⟨#[d]⟩) (w.alloc (.cells #[.int .u8 (d.toNat : Nat)] 5)).drew := by
  refine run_convert_bytes_back _ 43 9 5 ⟨w.heap.size, 0, none⟩ 1 [d] Tryd.underlying43 Tryd.underlying5 Tryd.underlying9 fun j hj => ?_
  have hj : j = 0 := by simpa using hj
  subst hj
  have e : (w.alloc (.cells #[.int .u8 (d.toNat : Nat)] 5)).drew.heap[w.heap.size]? = some (.cells #[.int .u8 (d.toNat : Nat)] 5 (0, 0)) := heap_alloc_new w _
  exact (Joins.cell_of_block e 0)
theorem inc_byte {c d : UInt8} (hc : c ≠ 255) (hd : d = c + 1) : IntKind.u8.wrap ((c.toNat : Int) + 1) = (d.toNat : Int) := by
  rw [wrap_u8, hd, UInt8.toNat_add]
  show ((c.toNat : Int) + 1) % 256 = (((c.toNat + 1) % 256 : Nat) : Int)
  omega

set_option maxRecDepth 100000 in
set_option maxHeartbeats 500000 in
theorem End_any (s : ByteArray) (w : World) (hs : s.size ≤ 140737488355328) :
    Calls Tryd.prog 17 #[.string s] w fun e w' => e = .returned (.string ⟨(endOf s.data.toList).toArray⟩) ∧ Below w.heap.size w w' := by
  have hw0 : IntKind.i64.wrap ((s.size : Int) - 1) = (s.size : Int) - 1 := IntWalk.i64_in _ ⟨by omega, by omega⟩
  go_enter Tryd.func17, Tryd.ntmps17
  go_wp2_with fail
  go_loopw [3] (fun i wr => ∃ n : Nat, n ≤ s.size ∧ i = .int .i64 ((n : Int) - 1) ∧ Hid (endOf s.data.toList = endOf (s.data.toList.take n)) ∧ Hid (wr = w)) (fun i _ => (intOf i + 1).toNat)
  case atStart => exact ⟨s.size, by omega, rfl, by show _ = _; rw [Lib.size_eq, List.take_length], rfl⟩
  case round =>
    obtain ⟨n, hn, rfl, HE, HW⟩ := hrel
    cases n with
    | zero =>
      have HA : Hid (endOf s.data.toList = []) := by show _ = _; rw [HE.out]; rfl
      rw [show (((0 : Nat) : Int) - 1) = -1 from rfl]
      go_wp2
      go_ret
      exact ⟨by rw [HA.out]; rfl, by rw [HW.out]; exact Below.refl _ _⟩
    | succ m =>
      rw [show (((m + 1 : Nat) : Int) - 1) = (m : Int) by omega]
      have hix := idx_str s m (by omega)
      have hl : m < s.data.toList.length := by rw [← Lib.size_eq]; omega
      have HT : Hid _ := endOf_take s.data.toList m hl
      generalize s.data.toList[m] = c at *
      by_cases hc : c = 255
      · subst hc
        have HE2 : Hid (endOf s.data.toList = endOf (s.data.toList.take m)) := by show _ = _; rw [HE.out, HT.out, if_pos rfl]
        have hw1 : IntKind.i64.wrap ((m : Int) - 1) = (m : Int) - 1 := IntWalk.i64_in _ ⟨by omega, by omega⟩
        clear HT
        go_wp2
        go_roundw
        case rel => exact ⟨m, by omega, by go_num, HE2, HW⟩
        case measure => simp [intOf]
      · have hne : ((c.toNat : Int) == 255) = false := by
          simp only [beq_eq_false_iff_ne, ne_eq]
          intro h
          exact hc (UInt8.toNat.inj (by show c.toNat = 255; omega))
        have hsl := sl_to s m (by omega)
        have hes := ext_size s m (by omega)
        obtain ⟨d, HD⟩ : ∃ d, Hid (d = c + 1) := ⟨_, rfl⟩
        have hd := inc_byte hc HD.out
        have HA : Hid ((⟨(endOf s.data.toList).toArray⟩ : ByteArray) = s.extract 0 m ++ ⟨#[d]⟩) := by
          show _ = _
          rw [HE.out, HT.out, if_neg hc, str_concat s m d (by omega), HD.out]
        have HW2 := HW.out
        subst HW2
        have hcv := conv_one wr d
        clear HT
        go_wp2_with fail
        go_region
        go_wp2
        go_ret
        exact ⟨by rw [HA.out]; rfl, Below.drew ((Below.refl _ _).alloc (Nat.le_refl _) _)⟩

set_option maxRecDepth 100000 in
set_option maxHeartbeats 500000 in
theorem refEnd_any (s : ByteArray) (w : World) (hs : s.size ≤ 140737488355328) :
    Calls Tryd.prog 18 #[.string s] w fun e w' => e = .returned (.string ⟨(endOf s.data.toList).toArray⟩) ∧ Below w.heap.size w w' := by
  go_enter Tryd.func18, Tryd.ntmps18
  go_wp2_with fail
  go_loopw [3] (fun i wr => ∃ n : Nat, n ≤ s.size ∧ i = .int .i64 (n : Int) ∧ Hid (endOf s.data.toList = endOf (s.data.toList.take n)) ∧ Hid (wr = w)) (fun i _ => (intOf i).toNat)
  case atStart => exact ⟨s.size, by omega, rfl, by show _ = _; rw [Lib.size_eq, List.take_length], rfl⟩
  case round =>
    obtain ⟨n, hn, rfl, HE, HW⟩ := hrel
    cases n with
    | zero =>
      have HA : Hid (endOf s.data.toList = []) := by show _ = _; rw [HE.out]; rfl
      rw [show (((0 : Nat) : Int)) = 0 from rfl]
      go_wp2
      go_ret
      exact ⟨by rw [HA.out]; rfl, by rw [HW.out]; exact Below.refl _ _⟩
    | succ m =>
      obtain ⟨q, hq⟩ : ∃ q : Int, q = ((m + 1 : Nat) : Int) := ⟨_, rfl⟩
      rw [← hq]
      have hix := idx_str s m (by omega)
      have hl : m < s.data.toList.length := by rw [← Lib.size_eq]; omega
      have HT : Hid _ := endOf_take s.data.toList m hl
      have hw1 : IntKind.i64.wrap (q - 1) = (m : Int) := by rw [IntWalk.i64_in _ ⟨by omega, by omega⟩]; omega
      have hq0 : decide (0 < q) = true := decide_eq_true (by omega)
      have hq1 : (q == 0) = false := by simp; omega
      generalize s.data.toList[m] = c at *
      by_cases hc : c = 255
      · subst hc
        have HE2 : Hid (endOf s.data.toList = endOf (s.data.toList.take m)) := by show _ = _; rw [HE.out, HT.out, if_pos rfl]
        have HQ : Hid (q = ((m + 1 : Nat) : Int)) := hq
        clear HT hq
        go_wp2
        go_roundw
        case rel => exact ⟨m, by omega, by go_num, HE2, HW⟩
        case measure => have := HQ.out; simp [intOf]; omega
      · have hne : ((c.toNat : Int) == 255) = false := by
          simp only [beq_eq_false_iff_ne, ne_eq]
          intro h
          exact hc (UInt8.toNat.inj (by show c.toNat = 255; omega))
        have hsl := sl_to s m (by omega)
        have hes := ext_size s m (by omega)
        obtain ⟨d, HD⟩ : ∃ d, Hid (d = c + 1) := ⟨_, rfl⟩
        have hd := inc_byte hc HD.out
        have HA : Hid ((⟨(endOf s.data.toList).toArray⟩ : ByteArray) = s.extract 0 m ++ ⟨#[d]⟩) := by
          show _ = _
          rw [HE.out, HT.out, if_neg hc, str_concat s m d (by omega), HD.out]
        have HW2 := HW.out
        subst HW2
        have hcv := conv_one wr d
        clear HT hq
        go_wp2_with fail
        go_region
        go_wp2
        go_ret
        exact ⟨by rw [HA.out]; rfl, Below.drew ((Below.refl _ _).alloc (Nat.le_refl _) _)⟩
end Go.Proofs.YtceghgbkiafklaaDoor.Od
