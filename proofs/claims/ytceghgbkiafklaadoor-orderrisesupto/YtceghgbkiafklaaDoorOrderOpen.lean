/-
  Slices of parts that came in, opened into plain lists; the bound on their bulk.
-/
import Derived.Test.YtceghgbkiafklaaDoorRows
import Derived.Test.YtceghgbkiafklaaDoorOrderInts
import Derived.Test.YtceghgbkiafklaaDoorCmOpen
import Derived.Deep.Slices
import Derived.Deep.Strs
import Derived.ProofKit
import Derived.OpenShut
namespace Go.Proofs.YtceghgbkiafklaaDoor.Od
open Go.ChangeShapes Go.WideShapes Go.ChangeAt Go.RowKit Go.Deep
set_option linter.unusedVariables false

theorem cellsPart : Tryd.prog.cellsOf 25 = 3 := by kernel_rfl
theorem cellsInt : Tryd.prog.cellsOf 3 = 1 := by kernel_rfl
theorem cellsString : Tryd.prog.cellsOf 9 = 1 := by kernel_rfl
def ptData {H : Type} (p : Pt) : DataW H := .agg [.lit (.int .i64 p.k), .lit (.int .i64 p.n), .lit (.string p.s.data.toList)]

section
variable {H : Type} {enc : TypeId × Value → H} {w : World} {base : Nat} {spare : Nat → Bool} {held : Bool}
set_option maxRecDepth 100000 in
theorem open_parts {ao : Option Addr} {len cap fuel : Nat} {x : DataW H × List MemPlace} (h : DataW.trod enc Tryd.prog w base spare held fuel 22 [.slice ao len cap] = some x) :
    ∃ ps : List Pt, ps.length = len ∧ PartsAt w ao ps ∧ oks ps ∧ ((len = 0 ∧ x.1 = .nil) ∨ ∃ rest, x.1 = .slice (ps.map ptData) rest) ∧ (ao = none → cap = 0) ∧ len ≤ cap := by
  rcases open_slice Tryd.underlying22 h with ⟨hcs, hx⟩ | ⟨a, len', cap', m, n, D, Pl, hcs, hb, hl, hm, hmm, hx, hel⟩
  · simp at hcs
    obtain ⟨rfl, rfl, rfl⟩ := hcs
    exact ⟨[], rfl, .inl rfl, (fun p hp => by simp at hp), .inl ⟨rfl, by rw [hx]⟩, fun _ => rfl, Nat.le_refl _⟩
  · simp at hcs
    obtain ⟨rfl, rfl, rfl⟩ := hcs
    have hlm : len ≤ m := by rw [hmm]; split <;> omega
    rw [cellsPart] at hel
    have each : ∀ i, i < len → ∃ p : Pt, p.ok ∧ D i = ptData p ∧ w.cell? (a.add (i * 3)) = some (.int .i64 p.k) ∧ w.cell? (a.add (i * 3 + 1)) = some (.int .i64 p.n) ∧ w.cell? (a.add (i * 3 + 2)) = some (.string p.s) := by
      intro i hi
      obtain ⟨cs, hc, ht⟩ := hel i (by omega)
      obtain ⟨_, hlen, hcell⟩ := World.cells?_some hc
      obtain ⟨y0, y1, y2, n', hxy, _, g0, g1, g2⟩ := trod_struct3 Tryd.underlying25 ht
      match cs, hlen with
      | [v0, v1, v2], _ =>
        simp [cellsInt, cellsString] at g0 g1 g2
        obtain ⟨k, e0, rfl, w0⟩ := DataW.trod_int Tryd.underlying3 g0
        obtain ⟨u, e1, rfl, w1⟩ := DataW.trod_int Tryd.underlying3 g1
        obtain ⟨s, e2, rfl, w2⟩ := DataW.trod_string Tryd.underlying9 g2
        simp at e0 e1 e2
        subst e0 e1 e2
        have b0 : -9223372036854775808 ≤ k ∧ k ≤ 9223372036854775807 := by simpa [Lit.wf, IntKind.min, IntKind.max, IntKind.signed, IntKind.bits] using w0
        have b1 : -9223372036854775808 ≤ u ∧ u ≤ 9223372036854775807 := by simpa [Lit.wf, IntKind.min, IntKind.max, IntKind.signed, IntKind.bits] using w1
        have c0 := hcell 0 (by omega)
        have c1 := hcell 1 (by omega)
        have c2 := hcell 2 (by omega)
        rw [add_add] at c0 c1 c2
        simp only [Prod.mk.injEq] at hxy
        exact ⟨⟨k, u, s⟩, ⟨b0, b1⟩, hxy.1, by simpa using c0, by simpa using c1, by simpa using c2⟩
    have : Inhabited Pt := ⟨Pt.zero⟩
    obtain ⟨q, hq⟩ := choose_lt each
    refine ⟨(List.range len).map q, by simp, ?_, ?_, .inr ⟨(List.range (m - len)).map fun j => D (len + j), ?_⟩, (fun h => by cases h), hl⟩
    · rcases Nat.eq_zero_or_pos len with h0 | h0
      · subst h0; exact .inl rfl
      · right
        obtain ⟨b, off, spot⟩ := a
        have hspot : spot = none := by simpa [Addr.add] using World.cell?_spot (hq 0 h0).2.2.1
        subst hspot
        refine ⟨b, off, rfl, World.block_lt_of_cell? w _ (hq 0 h0).2.2.1, fun j hj => ?_⟩
        rw [List.length_map, List.length_range] at hj
        have e : ((List.range len).map q).getD j Pt.zero = q j := by simp [hj]
        rw [e]
        have := (hq j hj).2.2
        rw [add_plain, add_plain, add_plain] at this
        exact ⟨this.1, by rw [Nat.add_assoc]; exact this.2.1, by rw [Nat.add_assoc]; exact this.2.2⟩
    · intro i hi
      obtain ⟨j, hj, rfl⟩ := List.mem_map.1 hi
      exact (hq j (List.mem_range.1 hj)).1
    · rw [hx, List.map_map]
      show DataW.slice _ _ = DataW.slice _ _
      rw [List.map_congr_left (g := ptData ∘ q) fun j hj => (hq j (List.mem_range.1 hj)).2.1]
def intData (n : Int) : DataW H := .lit (.int .i64 n)
theorem open_intl {ao : Option Addr} {len cap fuel : Nat} {x : DataW H × List MemPlace} (h : DataW.trod enc Tryd.prog w base spare held fuel 37 [.slice ao len cap] = some x) :
    ∃ xs : List Int, xs.length = len ∧ Cm.CellsAt w ao (intVals xs) ∧ (∀ i ∈ xs, inI i) ∧ ((len = 0 ∧ x.1 = .nil) ∨ ∃ rest, x.1 = .slice (xs.map intData) rest) ∧ (ao = none → cap = 0) := by
  refine Cm.open_list (Value.int .i64) intData inI Tryd.underlying37 cellsInt (fun n v d pl ht => ?_) h
  obtain ⟨u, e1, e2, w1⟩ := DataW.trod_int Tryd.underlying3 ht
  simp at e1 e2
  have b1 : -9223372036854775808 ≤ u ∧ u ≤ 9223372036854775807 := by simpa [Lit.wf, IntKind.min, IntKind.max, IntKind.signed, IntKind.bits] using w1
  exact ⟨u, e1, e2.1, b1⟩
end
theorem bulk_ints {H : Type} (xs : List Int) : xs.length ≤ Rows.uptoBulkAll (xs.map intData : List (DataW H)) := by
  induction xs with
  | nil => simp
  | cons x r ih =>
    have hb : Rows.uptoBulk (intData x : DataW H) = 1 := by simp [intData, Rows.uptoBulk]
    rw [List.map_cons, List.length_cons]
    simp only [Rows.uptoBulkAll, hb]
    omega
theorem bulk_parts {H : Type} (ps : List Pt) : 4 * ps.length + tot ps ≤ Rows.uptoBulkAll (ps.map ptData : List (DataW H)) := by
  induction ps with
  | nil => simp [tot]
  | cons p r ih =>
    have hb : Rows.uptoBulk (ptData p : DataW H) = p.s.size + 4 := by rw [Lib.size_eq]; simp [ptData, Rows.uptoBulk, Rows.uptoBulkAll]; omega
    rw [tot_cons, List.map_cons, List.length_cons]
    simp only [Rows.uptoBulkAll, hb]
    omega
end Go.Proofs.YtceghgbkiafklaaDoor.Od
