/-
  Slices of numbers, whole numbers and texts that came in, opened into plain lists.
-/
import Derived.Test.YtnhmabhcegiekaaRows
import Derived.Test.YtnhmabhcegiekaaPackLists2
import Derived.Deep.Slices
import Derived.ProofKit
import Derived.OpenShut
namespace Go.Proofs.Ytnhmabhcegiekaa.Pk
open Go.ChangeShapes Go.WideShapes Go.ChangeAt Go.RowKit Go.Deep
set_option linter.unusedVariables false

theorem cellsU64' : Try.prog.cellsOf 27 = 1 := by kernel_rfl
theorem cellsInt' : Try.prog.cellsOf 3 = 1 := by kernel_rfl
theorem cellsString' : Try.prog.cellsOf 9 = 1 := by kernel_rfl

section
variable {H : Type} {enc : TypeId × Value → H} {w : World} {base : Nat} {spare : Nat → Bool} {held : Bool}

theorem open_list {α : Type} [Inhabited α] {ts e : TypeId} (val : α → Value) (dat : α → DataW H) (ok : α → Prop) (hts : Try.prog.underlying ts = some (.slice e)) (hce : Try.prog.cellsOf e = 1)
    (each : ∀ n v d pl, DataW.trod enc Try.prog w base spare held n e [v] = some (d, pl) → ∃ x, v = val x ∧ d = dat x ∧ ok x)
    {ao : Option Addr} {len cap fuel : Nat} {x : DataW H × List MemPlace} (h : DataW.trod enc Try.prog w base spare held fuel ts [.slice ao len cap] = some x) :
    ∃ xs : List α, xs.length = len ∧ CellsAt w ao (xs.map val) ∧ (∀ i ∈ xs, ok i) ∧ ((len = 0 ∧ x.1 = .nil) ∨ ∃ rest, x.1 = .slice (xs.map dat) rest) ∧ (ao = none → cap = 0) := by
  rcases open_slice1 hts hce h with ⟨hcs, hx⟩ | ⟨a, len', cap', m, n, V, D, Pl, hcs, hb, hl, hm, hmm, hx, hel⟩
  · simp at hcs
    obtain ⟨rfl, rfl, rfl⟩ := hcs
    exact ⟨[], rfl, .inl rfl, by simp, .inl ⟨rfl, by rw [hx]⟩, fun _ => rfl⟩
  · simp at hcs
    obtain ⟨rfl, rfl, rfl⟩ := hcs
    have hlm : len ≤ m := by rw [hmm]; split <;> omega
    obtain ⟨q, hq⟩ := choose_lt (fun i (hi : i < len) => each n (V i) (D i) (Pl i) (hel i (by omega)).2)
    refine ⟨(List.range len).map q, by simp, ?_, ?_, .inr ⟨(List.range (m - len)).map fun j => D (len + j), ?_⟩, fun h => by cases h⟩
    · rcases Nat.eq_zero_or_pos len with h0 | h0
      · subst h0; exact .inl rfl
      · right
        obtain ⟨b, off, spot⟩ := a
        have hspot : spot = none := by simpa [Addr.add] using World.cell?_spot (hel 0 (by omega)).1
        subst hspot
        refine ⟨b, off, rfl, World.block_lt_of_cell? w _ (hel 0 (by omega)).1, fun j hj => ?_⟩
        rw [List.length_map, List.length_map, List.length_range] at hj
        rw [← add_plain, (hel j (by omega)).1, (hq j hj).1]
        simp [hj]
    · intro i hi
      obtain ⟨j, hj, rfl⟩ := List.mem_map.1 hi
      exact (hq j (List.mem_range.1 hj)).2.2
    · rw [hx, List.map_map]
      show DataW.slice _ _ = DataW.slice _ _
      rw [List.map_congr_left (g := dat ∘ q) fun j hj => (hq j (List.mem_range.1 hj)).2.1]

def numData (n : Nat) : DataW H := .lit (.int .u64 n)
def intData (n : Int) : DataW H := .lit (.int .i64 n)
def strData (s : ByteArray) : DataW H := .lit (.string s.data.toList)

theorem open_nums {ao : Option Addr} {len cap fuel : Nat} {x : DataW H × List MemPlace} (h : DataW.trod enc Try.prog w base spare held fuel 57 [.slice ao len cap] = some x) :
    ∃ xs : List Nat, xs.length = len ∧ CellsAt w ao (numVals xs) ∧ (∀ i ∈ xs, i < 18446744073709551616) ∧ ((len = 0 ∧ x.1 = .nil) ∨ ∃ rest, x.1 = .slice (xs.map numData) rest) ∧ (ao = none → cap = 0) := by
  refine open_list (fun n : Nat => Value.int .u64 n) numData (fun n => n < 18446744073709551616) Try.underlying57 cellsU64' (fun n v d pl ht => ?_) h
  obtain ⟨u, e1, e2, w1⟩ := DataW.trod_int Try.underlying27 ht
  simp at e1 e2
  have b1 : 0 ≤ u ∧ u ≤ 18446744073709551615 := by simpa [Lit.wf, IntKind.min, IntKind.max, IntKind.signed, IntKind.bits] using w1
  obtain ⟨u, rfl⟩ := Int.eq_ofNat_of_zero_le b1.1
  exact ⟨u, e1, e2.1, by omega⟩
theorem open_intl {ao : Option Addr} {len cap fuel : Nat} {x : DataW H × List MemPlace} (h : DataW.trod enc Try.prog w base spare held fuel 58 [.slice ao len cap] = some x) :
    ∃ xs : List Int, xs.length = len ∧ CellsAt w ao (intVals xs) ∧ (∀ i ∈ xs, -9223372036854775808 ≤ i ∧ i ≤ 9223372036854775807) ∧ ((len = 0 ∧ x.1 = .nil) ∨ ∃ rest, x.1 = .slice (xs.map intData) rest) ∧ (ao = none → cap = 0) := by
  refine open_list (Value.int .i64) intData (fun i => -9223372036854775808 ≤ i ∧ i ≤ 9223372036854775807) Try.underlying58 cellsInt' (fun n v d pl ht => ?_) h
  obtain ⟨u, e1, e2, w1⟩ := DataW.trod_int Try.underlying3 ht
  simp at e1 e2
  have b1 : -9223372036854775808 ≤ u ∧ u ≤ 9223372036854775807 := by simpa [Lit.wf, IntKind.min, IntKind.max, IntKind.signed, IntKind.bits] using w1
  exact ⟨u, e1, e2.1, b1⟩
theorem open_strl {ao : Option Addr} {len cap fuel : Nat} {x : DataW H × List MemPlace} (h : DataW.trod enc Try.prog w base spare held fuel 59 [.slice ao len cap] = some x) :
    ∃ xs : List ByteArray, xs.length = len ∧ CellsAt w ao (strVals xs) ∧ (∀ i ∈ xs, i.size ≤ maxLen) ∧ ((len = 0 ∧ x.1 = .nil) ∨ ∃ rest, x.1 = .slice (xs.map strData) rest) ∧ (ao = none → cap = 0) := by
  refine open_list Value.string strData (fun s => s.size ≤ maxLen) Try.underlying59 cellsString' (fun n v d pl ht => ?_) h
  obtain ⟨u, e1, e2, w1⟩ := DataW.trod_string Try.underlying9 ht
  simp at e1 e2
  exact ⟨u, e1, e2.1, w1⟩
end

/-! ### The bound on the bulk -/
theorem bulk_lits {H α : Type} (f : α → DataW H) (xs : List α) (hf : ∀ x, 1 ≤ Rows.uptoBulk (f x)) : xs.length ≤ Rows.uptoBulkAll (xs.map f) := by
  induction xs with
  | nil => simp
  | cons x r ih => have := hf x; simp only [List.map_cons, List.length_cons, Rows.uptoBulkAll]; omega
theorem bulk_strs {H : Type} (xs : List ByteArray) : xs.length ≤ Rows.uptoBulkAll (xs.map strData : List (DataW H)) ∧ (texts (xs.map fun s => s.data.toList)).length ≤ 11 * Rows.uptoBulkAll (xs.map strData : List (DataW H)) ∧
    ∀ k, (xs.getD k ByteArray.empty).size ≤ Rows.uptoBulkAll (xs.map strData : List (DataW H)) := by
  induction xs with
  | nil => exact ⟨by simp, by simp [texts], fun k => by simp⟩
  | cons x r ih =>
    obtain ⟨h1, h2, h3⟩ := ih
    have hb : Rows.uptoBulk (strData x : DataW H) = x.size + 1 := by rw [Lib.size_eq]; simp [strData, Rows.uptoBulk]
    have ht := text_len x
    have he := enc_len x.size
    simp only [List.map_cons, List.length_cons, Rows.uptoBulkAll, hb]
    refine ⟨by omega, ?_, fun k => ?_⟩
    · simp only [texts, List.flatMap_cons, List.length_append] at h2 ⊢
      omega
    · cases k with
      | zero => simp; omega
      | succ k => have := h3 k; simp only [List.getD_cons_succ]; omega

end Go.Proofs.Ytnhmabhcegiekaa.Pk
