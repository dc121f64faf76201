/-
  An item's kind and its bytes (layer 1), and what the statements' 'kind' answers.
-/
import Derived.Test.YtnhmabhcegiekaaPackItems
namespace Go.Proofs.Ytnhmabhcegiekaa.Pk
open Go.RowKit
set_option linter.unusedVariables false

/-- An item's kind: 0, 1 or 2. -/
def It.kind (i : It) : Nat := (IntKind.u64.wrap i.k).toNat % 3
theorem It.kind_lt (i : It) : i.kind < 3 := Nat.mod_lt _ (by omega)
/-- The whole number that an item's number stands for. -/
def It.int (i : It) : Int := wrap64 i.n
/-- The cells of an item. -/
def It.cells (i : It) : Array Value := #[.int .i64 i.k, .int .u64 i.n, .string i.s]
def bytesOf (i : It) : List UInt8 := if i.kind = 0 then enc i.n else if i.kind = 1 then enc (fold i.int) else text i.s.data.toList

theorem u64_wrap_pos (n : Int) : 0 ≤ IntKind.u64.wrap n := by
  simp [IntKind.wrap, IntKind.signed, IntKind.bits]
  omega
theorem kind_eq (i : It) : wrap64 ((IntKind.u64.wrap i.k).tmod 3) = (i.kind : Int) := by
  have h := u64_wrap_pos i.k
  unfold It.kind
  generalize IntKind.u64.wrap i.k = x at *
  obtain ⟨y, rfl⟩ := Int.eq_ofNat_of_zero_le h
  rw [show ((y : Int).tmod 3) = ((y % 3 : Nat) : Int) from rfl, Int.toNat_natCast]
  unfold wrap64; omega
theorem int_bd (i : It) : -9223372036854775808 ≤ i.int ∧ i.int ≤ 9223372036854775807 := by
  unfold It.int
  have := RowKit.wrap64_wf (i.n : Int)
  simpa [Lit.wf, IntKind.min, IntKind.max, IntKind.signed, IntKind.bits] using this

theorem kind_any (i : It) (w : World) :
    Calls Try.prog 11 #[.agg #[.int .i64 i.k, .int .u64 i.n, .string i.s]] w fun e w' => e = .returned (.int .i64 i.kind) ∧ w' = w.alloc (.cells #[.int .i64 i.k, .int .u64 i.n, .string i.s] 29) := by
  have HK : Hid _ := kind_eq i
  go_enter Try.func11, Try.ntmps11
  go_wp2
  go_ret
  exact ⟨ret_int HK.out, rfl⟩

theorem cells_new_at {α : Type} (w : World) (xs : List α) (f : α → Value) (t : TypeId) (d : α) (g : Nat) (hg : w.heap.size = g) : ∀ j, j < xs.length → (w.alloc (.cells (xs.map f).toArray t)).cell? ⟨g, 0 + j, none⟩ = some (f (xs.getD j d)) := by
  subst hg
  exact cells_new w xs f t d

theorem bytes_snoc (its : List It) (k : Nat) (h : k < its.length) : (its.take (k + 1)).flatMap bytesOf = (its.take k).flatMap bytesOf ++ bytesOf (its.getD k It.zero) := by
  rw [List.take_succ_eq_append_getElem h, getD_lt _ _ _ h]
  simp only [List.flatMap_append, List.flatMap_cons, List.flatMap_nil, List.append_nil]
theorem bytes_cons (its : List It) (k : Nat) (h : k < its.length) : (its.drop k).flatMap bytesOf = bytesOf (its.getD k It.zero) ++ (its.drop (k + 1)).flatMap bytesOf := by
  rw [List.drop_eq_getElem_cons h, getD_lt _ _ _ h]
  simp only [List.flatMap_cons]
theorem bytes_le (its : List It) (k : Nat) : ((its.take k).flatMap bytesOf).length ≤ (its.flatMap bytesOf).length := by
  conv => rhs; rw [← List.take_append_drop k its]
  rw [List.flatMap_append, List.length_append]
  omega

end Go.Proofs.Ytnhmabhcegiekaa.Pk
