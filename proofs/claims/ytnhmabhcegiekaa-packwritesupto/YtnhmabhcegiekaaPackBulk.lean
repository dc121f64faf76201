/-
  What the bound on the bulk of the items gives: how many there are, and how long their bytes are together.
-/
import Derived.Test.YtnhmabhcegiekaaRows
import Derived.Test.YtnhmabhcegiekaaPackKind
namespace Go.Proofs.Ytnhmabhcegiekaa.Pk
open Go.RowKit

theorem bulk_item {H : Type} (i : It) : Rows.uptoBulk (itData i : DataW H) = i.s.size + 4 := by
  rw [Lib.size_eq]
  simp only [itData, Rows.uptoBulk, Rows.uptoBulkAll]
  omega
theorem bytesOf_len (i : It) : (bytesOf i).length ≤ i.s.size + 10 := by
  unfold bytesOf
  have h1 := enc_len i.n
  have h2 := enc_len (fold i.int)
  have h3 := enc_len i.s.size
  split
  · omega
  · split
    · omega
    · rw [text, List.length_append, ← Lib.size_eq]; omega
theorem bulk_items {H : Type} (its : List It) : its.length ≤ Rows.uptoBulkAll (its.map itData : List (DataW H)) ∧ (its.flatMap bytesOf).length ≤ 10 * Rows.uptoBulkAll (its.map itData : List (DataW H)) := by
  induction its with
  | nil => simp
  | cons i r ih =>
    have h := bytesOf_len i
    simp only [List.map_cons, Rows.uptoBulkAll, bulk_item, List.length_cons, List.flatMap_cons, List.length_append]
    omega
/-- The bound, for one argument that is a slice of items. -/
theorem items_small {H : Type} {its : List It} {d : DataW H} {rest : List (DataW H)} (hk : Rows.uptoSmall H [d] = true) (hd : (its.length = 0 ∧ d = .nil) ∨ d = .slice (its.map itData) rest) :
    its.length ≤ 1048576 ∧ (its.flatMap bytesOf).length ≤ 10485760 := by
  have h := of_decide_eq_true hk
  rcases hd with ⟨h0, _⟩ | rfl
  · have : its = [] := List.eq_nil_of_length_eq_zero h0
    subst this
    simp
  · have hb := bulk_items (H := H) its
    simp only [Rows.uptoBulkAll, Rows.uptoBulk] at h
    omega

end Go.Proofs.Ytnhmabhcegiekaa.Pk
