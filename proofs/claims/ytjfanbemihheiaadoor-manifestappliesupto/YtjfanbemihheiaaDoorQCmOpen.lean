/-
  Slices of texts that came in, opened into plain lists; the bound on their bulk.
-/
import Derived.Test.YtjfanbemihheiaaDoorRows
import Derived.Test.YtjfanbemihheiaaDoorPart1
import Derived.Deep.Slices
import Derived.Lib.SmallJoins
import Derived.ProofKit
import Derived.OpenShut
namespace Go.Proofs.YtjfanbemihheiaaDoor.Cm
open Go.ChangeShapes Go.WideShapes Go.ChangeAt Go.RowKit Go.Deep
set_option linter.unusedVariables false

theorem cellsString' : Tryd.prog.cellsOf 9 = 1 := by kernel_rfl

section
variable {H : Type} {enc : TypeId × Value → H} {w : World} {base : Nat} {spare : Nat → Bool} {held : Bool}

theorem open_list {α : Type} [Inhabited α] {ts e : TypeId} (val : α → Value) (dat : α → DataW H) (ok : α → Prop) (hts : Tryd.prog.underlying ts = some (.slice e)) (hce : Tryd.prog.cellsOf e = 1)
    (each : ∀ n v d pl, DataW.trod enc Tryd.prog w base spare held n e [v] = some (d, pl) → ∃ x, v = val x ∧ d = dat x ∧ ok x)
    {ao : Option Addr} {len cap fuel : Nat} {x : DataW H × List MemPlace} (h : DataW.trod enc Tryd.prog w base spare held fuel ts [.slice ao len cap] = some x) :
    ∃ xs : List α, xs.length = len ∧ CellsAt w ao (xs.map val) ∧ (∀ i ∈ xs, ok i) ∧ ((len = 0 ∧ x.1 = .nil) ∨ ∃ rest, x.1 = .slice (xs.map dat) rest) ∧ (ao = none → cap = 0) := by
  rcases open_slice1 hts hce h with ⟨hcs, hx⟩ | ⟨a, len', cap', m, n, V, D, Pl, hcs, hb, hl, hm, hmm, hx, hel⟩
  · simp at hcs
    obtain ⟨rfl, rfl, rfl⟩ := hcs
    exact ⟨[], rfl, .inl rfl, by simp, .inl ⟨rfl, by rw [hx]⟩, fun _ => rfl⟩
  · simp at hcs
    obtain ⟨rfl, rfl, rfl⟩ := hcs
    have hlm : len ≤ m := by rw [hmm]; split <;> omega
    obtain ⟨q, hq⟩ := choose_lt (fun i (hi : i < len) => each n (V i) (D i) (Pl i) (hel i (by omega)).2)
    refine ⟨(List.range len).map q, by simp, ?_, ?_, .inr ⟨(List.range (m - len)).map fun j => D (len + j), ?_⟩, fun h => by cases h⟩
    · rcases Nat.eq_zero_or_pos len with h0 | h0
      · subst h0; exact .inl rfl
      · right
        obtain ⟨b, off, spot⟩ := a
        have hspot : spot = none := by simpa [Addr.add] using World.cell?_spot (hel 0 (by omega)).1
        subst hspot
        refine ⟨b, off, rfl, World.block_lt_of_cell? w _ (hel 0 (by omega)).1, fun j hj => ?_⟩
        rw [List.length_map, List.length_map, List.length_range] at hj
        rw [← add_plain, (hel j (by omega)).1, (hq j hj).1]
        simp [hj]
    · intro i hi
      obtain ⟨j, hj, rfl⟩ := List.mem_map.1 hi
      exact (hq j (List.mem_range.1 hj)).2.2
    · rw [hx, List.map_map]
      show DataW.slice _ _ = DataW.slice _ _
      rw [List.map_congr_left (g := dat ∘ q) fun j hj => (hq j (List.mem_range.1 hj)).2.1]

def strData (s : ByteArray) : DataW H := .lit (.string s.data.toList)

end

/-! ### The bound on the bulk -/
/-- A part's bulk, of a datum that is a slice or nil. -/
theorem part {H α : Type} {f : α → DataW H} {xs : List α} {d : DataW H} (hd : (xs.length = 0 ∧ d = .nil) ∨ ∃ rest, d = .slice (xs.map f) rest) : Rows.uptoBulkAll (xs.map f) ≤ Rows.uptoBulk d := by
  rcases hd with ⟨h, _⟩ | ⟨rest, rfl⟩
  · rw [List.eq_nil_of_length_eq_zero h]; simp [Rows.uptoBulkAll]
  · simp only [Rows.uptoBulk]; omega
theorem bulk_strs {H : Type} (xs : List ByteArray) : xs.length + total xs ≤ Rows.uptoBulkAll (xs.map strData : List (DataW H)) := by
  induction xs with
  | nil => simp [total]
  | cons x r ih =>
    have hb : Rows.uptoBulk (strData x : DataW H) = x.size + 1 := by rw [Lib.size_eq]; simp [strData, Rows.uptoBulk]
    simp only [total, List.map_cons, List.sum_cons, List.length_cons, Rows.uptoBulkAll, hb] at ih ⊢
    omega

end Go.Proofs.YtjfanbemihheiaaDoor.Cm
