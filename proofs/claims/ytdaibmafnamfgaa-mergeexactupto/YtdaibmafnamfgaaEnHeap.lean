/-
  Versions in memory: a version's own block, a row of versions, its cells, its beginning, its rest; a version stored into a row.
-/
import Derived.Test.YtdaibmafnamfgaaMemMath
import Derived.Deep.RegionHeld3
import Derived.BigQuiet
import Derived.Deep.RegionWith
namespace Go.Proofs.Ytdaibmafnamfgaa.Mm
open Go.RowKit Cm
set_option linter.unusedVariables false

def entObj (e : En) : Obj := .cells #[.string e.key, .int .i64 e.seq, .bool e.dead, .string e.val] 28 (0, 0)
theorem ent_cells {w : World} {c : Nat} {e : En} (h : w.heap[c]? = some (entObj e)) : w.cell? ⟨c, 0, none⟩ = some (.string e.key) ∧ w.cell? ⟨c, 1, none⟩ = some (.int .i64 e.seq) ∧ w.cell? ⟨c, 2, none⟩ = some (.bool e.dead) ∧ w.cell? ⟨c, 3, none⟩ = some (.string e.val) ∧ ∀ i, w.frozen? ⟨c, i, none⟩ = false := by
  refine ⟨?_, ?_, ?_, ?_, fun i => by simp [World.frozen?, h, entObj]⟩ <;> rw [Joins.cell_of_block h] <;> rfl
theorem wrap_nat {n : Nat} {i : Int} (h : i = n) (hn : n ≤ 9223372036854775807) : IntKind.i64.wrap i = (n : Int) := by
  subst h
  simp [IntKind.wrap, IntKind.bits, IntKind.signed]
  omega
/-- The k-th of a slice of versions. -/
theorem elem_cells {w : World} {ao : Option Addr} {xs : List En} (h : ElemsAt enShape w ao xs) {k : Nat} (hk : k < xs.length) : ∃ pb off, ao = some ⟨pb, off, none⟩ ∧ w.cell? ⟨pb, off + k * 4, none⟩ = some (.string (xs.getD k En.zero).key) ∧ w.cell? ⟨pb, off + k * 4 + 1, none⟩ = some (.int .i64 (xs.getD k En.zero).seq) ∧
    w.cell? ⟨pb, off + k * 4 + 2, none⟩ = some (.bool (xs.getD k En.zero).dead) ∧ w.cell? ⟨pb, off + k * 4 + 3, none⟩ = some (.string (xs.getD k En.zero).val) := by
  rw [getD_lt _ _ _ hk]
  rcases h with rfl | ⟨pb, off, rfl, _, hc⟩
  · simp at hk
  · exact ⟨pb, off, rfl, hc k hk 0 _ rfl, hc k hk 1 _ rfl, hc k hk 2 _ rfl, hc k hk 3 _ rfl⟩
theorem bytes_take (xs : List En) (k : Nat) : bytesE (xs.take k) ≤ bytesE xs := by
  conv => rhs; rw [← List.take_append_drop k xs]
  rw [bytesE_append]; omega
theorem take_at {xs : List En} {k : Nat} (h : k < xs.length) : xs.take (k + 1) = xs.take k ++ [xs.getD k En.zero] := by rw [getD_lt _ _ _ h]; exact List.take_succ_eq_append_getElem h
theorem bytes_at {xs : List En} {k : Nat} (h : k < xs.length) : bytesE (xs.take k) + sizeE (xs.getD k En.zero) ≤ bytesE xs := by
  have := bytes_take xs (k + 1)
  rw [take_at h, bytesE_append, bytesE_cons] at this
  have h2 : bytesE [] = 0 := rfl
  omega
def zeroObj : Obj := .cells #[.string ⟨#[]⟩, .int .i64 0, .bool false, .string ⟨#[]⟩] 28 (0, 0)
theorem ent_set {w : World} {c : Nat} {e : En} (h : w.heap[c]? = some (entObj e)) (k : ByteArray) (s : Int) (d : Bool) (v : ByteArray) :
    (w.setCell ⟨c, 0, none⟩ (.string k)).cell? ⟨c, 0, none⟩ = some (.string k) ∧ ((w.setCell ⟨c, 0, none⟩ (.string k)).setCell ⟨c, 1, none⟩ (.int .i64 s)).cell? ⟨c, 1, none⟩ = some (.int .i64 s) ∧ (((w.setCell ⟨c, 0, none⟩ (.string k)).setCell ⟨c, 1, none⟩ (.int .i64 s)).setCell ⟨c, 2, none⟩ (.bool d)).cell? ⟨c, 2, none⟩ = some (.bool d) ∧
    ((((w.setCell ⟨c, 0, none⟩ (.string k)).setCell ⟨c, 1, none⟩ (.int .i64 s)).setCell ⟨c, 2, none⟩ (.bool d)).setCell ⟨c, 3, none⟩ (.string v)).cell? ⟨c, 3, none⟩ = some (.string v) := by
  unfold entObj at h
  have h1 := Joins.block_setCell h (i := 0) (.string k)
  have h2 := Joins.block_setCell h1 (i := 1) (.int .i64 s)
  have h3 := Joins.block_setCell h2 (i := 2) (.bool d)
  have h4 := Joins.block_setCell h3 (i := 3) (.string v)
  rw [Joins.cell_of_block h1, Joins.cell_of_block h2, Joins.cell_of_block h3, Joins.cell_of_block h4]
  simp
theorem infoEn : (Try.prog.info? 28).map (fun i => (i.zero, i.size, i.bytes)) = some (some (.agg #[.string ⟨#[]⟩, .int .i64 0, .bool false, .string ⟨#[]⟩]), 4, 48) := by kernel_rfl
/-- One version in a slice of its own. -/
theorem elems1 {w : World} (e : En) : ElemsAt enShape (w.alloc (entObj e)) (some ⟨w.heap.size, 0, none⟩) [e] := by
  refine .inr ⟨w.heap.size, 0, rfl, by simp, fun i hi j u hu => ?_⟩
  obtain rfl : i = 0 := by simpa using hi
  rw [Joins.cell_of_block (show (w.alloc (entObj e)).heap[w.heap.size]? = some (.cells #[.string e.key, .int .i64 e.seq, .bool e.dead, .string e.val] 28 (0, 0)) from heap_alloc_new w _)]
  match j, hu with
  | 0, hu => exact hu
  | 1, hu => exact hu
  | 2, hu => exact hu
  | 3, hu => exact hu
  | (k + 4), hu => simp [enShape] at hu
theorem own_emptyT (w : World) (e : TypeId) (k base : Nat) (h : base ≤ w.heap.size) : (w.alloc (.cells #[] e)).ownsRow base e k (.slice (some ⟨w.heap.size, 0, none⟩) 0 0) 0 [] :=
  ⟨by simp, .inr ⟨w.heap.size, 0, #[], rfl, h, heap_alloc_new w _, by simp, by simp, by simp, by simp⟩⟩
theorem own_formK {w : World} {B n k : Nat} {e : TypeId} {v : Value} {vs : List Value} (h : w.ownsRow B e k v n vs) (hn : 0 < n) : ∃ g cap, v = .slice (some ⟨g, 0, none⟩) n cap ∧ B ≤ g ∧ g < w.heap.size ∧ n ≤ cap := by
  rcases h.2 with ⟨rfl, h0⟩ | ⟨g, cap, cur, rfl, hB, hg, hle, _⟩
  · omega
  · exact ⟨g, cap, rfl, hB, lt_of_block hg, hle⟩
theorem own_cells1 {w : World} {B n g cap : Nat} {e : TypeId} {vs : List Value} (h : w.ownsRow B e 1 (.slice (some ⟨g, 0, none⟩) n cap) n vs) (hlt : g < w.heap.size) : CellsAt w (some ⟨g, 0, none⟩) vs := by
  refine .inr ⟨g, 0, rfl, hlt, fun j hj => ?_⟩
  have := h.cells (g := g) rfl j vs[j] (by simp [hj])
  rw [Go.WideShapes.add_plain] at this
  rw [this]; simp [hj]
/-- A version stored into a row. -/
theorem stored4 {w : World} {B n g cap k : Nat} {e : TypeId} {ys : List Value} (h : w.ownsRow B e 4 (.slice (some ⟨g, 0, none⟩) n cap) n ys) (hk : k < n) (a b c d : Value) :
    (∃ ys', ((((w.setCell ⟨g, k * 4, none⟩ a).setCell ⟨g, k * 4 + 1, none⟩ b).setCell ⟨g, k * 4 + 2, none⟩ c).setCell ⟨g, k * 4 + 3, none⟩ d).ownsRow B e 4 (.slice (some ⟨g, 0, none⟩) n cap) n ys') ∧
    (∀ j, j < 4 → ∃ v, w.cell? ⟨g, k * 4 + j, none⟩ = some v) ∧ ∀ i, w.frozen? ⟨g, i, none⟩ = false := by
  rcases h.2 with ⟨e1, _⟩ | ⟨g', cap', cur, e1, hB, hg, hle, hcm, hcs, htk⟩
  · cases e1
  · cases e1
    refine ⟨⟨((((cur.setIfInBounds (k * 4) a).setIfInBounds (k * 4 + 1) b).setIfInBounds (k * 4 + 2) c).setIfInBounds (k * 4 + 3) d).toList.take (n * 4), ?_, .inr ⟨g, cap, _, rfl, hB, Joins.block_setCell (Joins.block_setCell (Joins.block_setCell (Joins.block_setCell hg a) b) c) d, hle, hcm, by simpa using hcs, rfl⟩⟩, fun j hj => ?_, fun i => by simp [World.frozen?, hg]⟩
    · have h4 : n * 4 ≤ cap * 4 := Nat.mul_le_mul_right _ hle
      rw [List.length_take, Array.length_toList]
      simp only [Array.size_setIfInBounds]
      omega
    · rw [Joins.cell_of_block hg]
      exact ⟨_, Array.getElem?_eq_getElem (by have h4 : n * 4 ≤ cap * 4 := Nat.mul_le_mul_right _ hle; omega)⟩
theorem set4_block {w : World} {g i1 i2 i3 i4 : Nat} {a b c d : Value} {j : Nat} (h : j ≠ g) : ((((w.setCell ⟨g, i1, none⟩ a).setCell ⟨g, i2, none⟩ b).setCell ⟨g, i3, none⟩ c).setCell ⟨g, i4, none⟩ d).heap[j]? = w.heap[j]? := by
  rw [Below.heap_setCell _ _ _ _ (by simpa using h), Below.heap_setCell _ _ _ _ (by simpa using h), Below.heap_setCell _ _ _ _ (by simpa using h), Below.heap_setCell _ _ _ _ (by simpa using h)]
theorem set4_grown {w : World} {g i1 i2 i3 i4 : Nat} {a b c d : Value} : w.grownBy ((((w.setCell ⟨g, i1, none⟩ a).setCell ⟨g, i2, none⟩ b).setCell ⟨g, i3, none⟩ c).setCell ⟨g, i4, none⟩ d) (some g) :=
  ⟨rfl, rfl, rfl, by simp [World.setCell], fun k hk hr => set4_block (by rintro rfl; exact hr rfl)⟩
theorem all_take {xs : List En} {p : En → Bool} {b : Bool} {k : Nat} (hk : k < xs.length) (h : ∀ e ∈ xs.take k, p e = b) (hy : p (xs.getD k En.zero) = b) : ∀ e ∈ xs.take (k + 1), p e = b := by
  intro e he
  rw [take_at hk] at he
  rcases List.mem_append.1 he with he | he
  · exact h e he
  · simp at he; subst he; exact hy
/-- Where a beginning of a list ends. -/
theorem while_stop {p : En → Bool} {xs : List En} {k : Nat} (hk : k ≤ xs.length) (h : ∀ e ∈ xs.take k, p e = true) (hs : k < xs.length → p (xs.getD k En.zero) = false) : xs.takeWhile p = xs.take k ∧ xs.dropWhile p = xs.drop k := by
  have e : xs = xs.take k ++ xs.drop k := (List.take_append_drop k xs).symm
  have h1 : (xs.take k ++ xs.drop k).takeWhile p = xs.take k ∧ (xs.take k ++ xs.drop k).dropWhile p = xs.drop k := by
    rw [List.takeWhile_append_of_pos h, List.dropWhile_append_of_pos h]
    by_cases hl : k < xs.length
    · have := hs hl
      rw [getD_lt _ _ _ hl] at this
      rw [List.drop_eq_getElem_cons hl, List.takeWhile_cons_of_neg (by rw [this]; simp), List.dropWhile_cons_of_neg (by rw [this]; simp)]
      simp
    · rw [List.drop_of_length_le (by omega)]
      simp
  rw [← e] at h1
  exact h1
theorem elems_take {w : World} {ao : Option Addr} {xs : List En} (h : ElemsAt enShape w ao xs) (k : Nat) : ElemsAt enShape w ao (xs.take k) := by
  rcases h with rfl | ⟨b, off, rfl, hlt, hc⟩
  · exact .inl (by simp)
  · refine .inr ⟨b, off, rfl, hlt, fun i hi j u hu => ?_⟩
    have hi' : i < xs.length := by simp at hi; omega
    rw [List.getElem_take] at hu
    exact hc i hi' j u hu
theorem elems_drop {w : World} {b off : Nat} {xs : List En} (h : ElemsAt enShape w (some ⟨b, off, none⟩) xs) (k : Nat) : ElemsAt enShape w (some ⟨b, off + k * 4, none⟩) (xs.drop k) := by
  rcases h with rfl | ⟨b', off', he, hlt, hc⟩
  · exact .inl (by simp)
  · cases he
    refine .inr ⟨b, off + k * 4, rfl, hlt, fun i hi j u hu => ?_⟩
    have hi' : k + i < xs.length := by simp at hi; omega
    rw [List.getElem_drop] at hu
    have := hc (k + i) hi' j u hu
    rw [show off + k * 4 + i * enShape.sz + j = off + (k + i) * enShape.sz + j by show off + k * 4 + i * 4 + j = off + (k + i) * 4 + j; omega]
    exact this
end Go.Proofs.Ytdaibmafnamfgaa.Mm
