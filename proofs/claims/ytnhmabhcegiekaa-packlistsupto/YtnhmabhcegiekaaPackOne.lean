/-
  Package pack's writer, as the statements use it: one number, one whole number, one text is put.
-/
import Derived.Test.YtnhmabhcegiekaaPackKind
import Derived.Test.YtnhmabhcegiekaaPackRead
namespace Go.Proofs.Ytnhmabhcegiekaa.Pk
open Go.RowKit
set_option linter.unusedVariables false

theorem one_num (base b g : Nat) (r : Option Nat) (bs : List UInt8) (n : Nat) (W : World) (T : TypeId) (hw : WrAt W base b r bs) (hn : n < 18446744073709551616) (hg : W.heap.size = g) (hsz : bs.length + 10 ≤ 140737488355328) (hbase : base ≤ W.heap.size) :
    Calls Try.prog 12 #[.pointer (some ⟨b, 0, none⟩), .slice (some ⟨g, 0, none⟩) 1 1] (W.alloc (.cells #[.int .u64 n] T)) fun e w' => e = .returned (.tuple #[]) ∧ ∃ r', WrAt w' base b r' (bs ++ enc n) ∧ Step b W r w' r' := by
  have hlt := hw.lt
  refine (wNum_any base b g 0 1 r bs [n] _ (hw.alloc _) (by simpa using hn) (cells_new_at W [n] (fun n : Nat => .int .u64 n) T 0 g hg) (by omega) (fun e => ?_) (by simp; omega) (by simpa using hsz) (by simp; omega)).mono ?_
  · have := (hw.row_ge _ e.symm).2.1; omega
  rintro e w' ⟨rfl, r', h1, h2⟩
  exact ⟨rfl, r', by simpa [nums] using h1, (Step.alloc _ _ _ _).trans h2⟩

theorem one_int (base b g : Nat) (r : Option Nat) (bs : List UInt8) (n : Int) (W : World) (T : TypeId) (hw : WrAt W base b r bs) (hn : -9223372036854775808 ≤ n ∧ n ≤ 9223372036854775807) (hg : W.heap.size = g) (hsz : bs.length + 10 ≤ 140737488355328) (hbase : base ≤ W.heap.size) :
    Calls Try.prog 14 #[.pointer (some ⟨b, 0, none⟩), .slice (some ⟨g, 0, none⟩) 1 1] (W.alloc (.cells #[.int .i64 n] T)) fun e w' => e = .returned (.tuple #[]) ∧ ∃ r', WrAt w' base b r' (bs ++ enc (fold n)) ∧ Step b W r w' r' := by
  have hlt := hw.lt
  refine (wInt_any base b g 0 1 r bs [n] _ (hw.alloc _) (by simpa using hn) (cells_new_at W [n] (fun n : Int => .int .i64 n) T 0 g hg) (by omega) (fun e => ?_) (by simp; omega) (by simpa using hsz) (by simp; omega)).mono ?_
  · have := (hw.row_ge _ e.symm).2.1; omega
  rintro e w' ⟨rfl, r', h1, h2⟩
  exact ⟨rfl, r', by simpa [ints] using h1, (Step.alloc _ _ _ _).trans h2⟩

theorem one_text (base b g : Nat) (r : Option Nat) (bs : List UInt8) (s : ByteArray) (W : World) (T : TypeId) (hw : WrAt W base b r bs) (hg : W.heap.size = g) (hsz : bs.length + s.size + (enc s.size).length ≤ 140737488355328) (hbase : base ≤ W.heap.size) :
    Calls Try.prog 16 #[.pointer (some ⟨b, 0, none⟩), .slice (some ⟨g, 0, none⟩) 1 1] (W.alloc (.cells #[.string s] T)) fun e w' => e = .returned (.tuple #[]) ∧ ∃ r', WrAt w' base b r' (bs ++ text s.data.toList) ∧ Step b W r w' r' := by
  have hlt := hw.lt
  refine (wText_any base b g 0 1 r bs [s] _ (hw.alloc _) (cells_new_at W [s] (fun s : ByteArray => .string s) T ByteArray.empty g hg) (by omega) (fun e => ?_) (by simp; omega) (fun k hk => ?_) (fun k hk => ?_) (by simp [maxLen]) (by simp; omega)).mono ?_
  · have := (hw.row_ge _ e.symm).2.1; omega
  · match k, hk with
    | 0, _ => simp [texts]; omega
    | 1, _ => simp [texts, text]; omega
  · match k, hk with
    | 0, _ => simp; omega
    | 1, _ => simp
  rintro e w' ⟨rfl, r', h1, h2⟩
  exact ⟨rfl, r', by simpa [texts] using h1, (Step.alloc _ _ _ _).trans h2⟩

end Go.Proofs.Ytnhmabhcegiekaa.Pk
