/-
  For all layers: rows of texts that are a call's own: an empty one, its slice, its beginning, what stays beside it.
-/
import Derived.Test.YtcnlipomealojaaCmHeap
namespace Go.Proofs.Ytcnlipomealojaa.Cm
open Go.RowKit
set_option linter.unusedVariables false

theorem own_empty (w : World) (base : Nat) (h : base ≤ w.heap.size) : (w.alloc (.cells #[] 9)).ownsRow base 9 1 (.slice (some ⟨w.heap.size, 0, none⟩) 0 0) 0 [] :=
  ⟨by simp, .inr ⟨w.heap.size, 0, #[], rfl, h, heap_alloc_new w _, by simp, by simp, by simp, by simp⟩⟩
theorem own_slice {w : World} {B n : Nat} {ao : Option Addr} {cap : Nat} {vs : List Value} (h : w.ownsRow B 9 1 (.slice ao n cap) n vs) : CellsAt w ao vs ∧ (∀ ad, ao = some ad → B ≤ ad.block ∧ ad.block < w.heap.size) ∧ (ao = none → cap = 0) := by
  have hl : vs.length = n := by simpa using h.1
  rcases h.2 with ⟨e, hn⟩ | ⟨g, cap', cur, e, hB, hg, _⟩
  · cases e
    refine ⟨.inl (List.eq_nil_of_length_eq_zero (hl.trans hn)), (fun ad e => by cases e), fun _ => rfl⟩
  · cases e
    refine ⟨.inr ⟨g, 0, rfl, lt_of_block hg, fun j hj => ?_⟩, (fun ad e => by cases e; exact ⟨hB, lt_of_block hg⟩), fun e => by cases e⟩
    have := h.cells (g := g) rfl j vs[j] (by simp [hj])
    rw [Go.WideShapes.add_plain] at this
    rw [this]; simp [hj]
theorem own_any {w : World} {B n : Nat} {v : Value} {vs : List Value} (h : w.ownsRow B 9 1 v n vs) : ∃ ao cap, v = .slice ao n cap := by
  rcases h.2 with ⟨rfl, hn⟩ | ⟨g, cap, cur, rfl, _⟩
  · subst hn; exact ⟨_, _, rfl⟩
  · exact ⟨_, _, rfl⟩
theorem own_some {w : World} {B n : Nat} {v : Value} {vs : List Value} (h : w.ownsRow B 9 1 v n vs) (hn : 0 < n) : ∃ g cap, v = .slice (some ⟨g, 0, none⟩) n cap ∧ B ≤ g ∧ g < w.heap.size ∧ n ≤ cap ∧ CellsAt w (some ⟨g, 0, none⟩) vs := by
  obtain ⟨ao, c, rfl⟩ := own_any h
  have hc := (own_slice h).1
  rcases h.2 with ⟨e, h0⟩ | ⟨g, cap, cur, e, hB, hg, hle, _⟩
  · omega
  · cases e
    exact ⟨g, c, rfl, hB, lt_of_block hg, by simpa using hle, hc⟩
/-- Two rows of texts, the second behind the first, of which the beginning is taken. -/
theorem cells_front {w : World} {ao : Option Addr} {xs : List ByteArray} {s : ByteArray} (h : CellsAt w ao (strVals (xs ++ [s]))) : ∃ b off, ao = some ⟨b, off, none⟩ ∧ CellsAt w (some ⟨b, off, none⟩) (strVals xs) ∧ w.cell? ⟨b, off + xs.length, none⟩ = some (.string s) := by
  rcases h with h | ⟨b, off, rfl, hlt, hc⟩
  · simp [strVals] at h
  · refine ⟨b, off, rfl, .inr ⟨b, off, rfl, hlt, fun j hj => ?_⟩, ?_⟩
    · have hj' : j < xs.length := by simpa [strVals] using hj
      rw [hc j (by simp [strVals]; omega)]
      simp [strVals, List.getElem?_append_left, hj']
    · rw [hc xs.length (by simp [strVals])]
      simp [strVals]
theorem CellsAt.keep1 {w w' : World} {ao : Option Addr} {vs : List Value} (h : CellsAt w ao vs) (hb : ∀ a, ao = some a → a.block < w.heap.size → w'.heap[a.block]? = w.heap[a.block]?) (hs : w.heap.size ≤ w'.heap.size) : CellsAt w' ao vs := by
  rcases h with h | ⟨b, off, rfl, hlt, hc⟩
  · exact .inl h
  · refine .inr ⟨b, off, rfl, by omega, fun j hj => ?_⟩
    have h1 : w'.heap[b]? = w.heap[b]? := hb ⟨b, off, none⟩ rfl hlt
    rw [World.cell?_of_block (a := ⟨b, off + j, none⟩) h1]
    exact hc j hj
/-- A slice's beginning, and its rest. -/
theorem cells_take {w : World} {ao : Option Addr} {xs : List ByteArray} (h : CellsAt w ao (strVals xs)) (k : Nat) : CellsAt w ao (strVals (xs.take k)) := by
  rcases h with h | ⟨b, off, rfl, hlt, hc⟩
  · have : xs = [] := by simpa [strVals] using h
    subst this
    exact .inl (by simp [strVals])
  · refine .inr ⟨b, off, rfl, hlt, fun j hj => ?_⟩
    have hj' : j < xs.length ∧ j < k := by simp [strVals] at hj; omega
    rw [hc j (by simpa [strVals] using hj'.1)]
    simp [strVals, hj'.2]
theorem cells_drop {w : World} {b off : Nat} {xs : List ByteArray} (h : CellsAt w (some ⟨b, off, none⟩) (strVals xs)) (k : Nat) : CellsAt w (some ⟨b, off + k, none⟩) (strVals (xs.drop k)) := by
  rcases h with h | ⟨b, off, he, hlt, hc⟩
  · have : xs = [] := by simpa [strVals] using h
    subst this
    exact .inl (by simp [strVals])
  · simp only [Option.some.injEq, Addr.mk.injEq] at he
    obtain ⟨rfl, rfl, _⟩ := he
    refine .inr ⟨_, _, rfl, hlt, fun j hj => ?_⟩
    have hj' : k + j < xs.length := by simp [strVals] at hj; omega
    rw [Nat.add_assoc, hc (k + j) (by simpa [strVals] using hj')]
    simp [strVals]
end Go.Proofs.Ytcnlipomealojaa.Cm
