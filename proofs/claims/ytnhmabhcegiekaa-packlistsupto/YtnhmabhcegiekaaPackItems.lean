/-
  The items that the statements of layer 1 take: a slice of structs in memory, opened into a plain list.
-/
import Derived.Test.YtnhmabhcegiekaaPackLives
import Derived.Deep.Slices
import Derived.Deep.Strs
import Derived.ProofKit
import Derived.OpenShut
namespace Go.Proofs.Ytnhmabhcegiekaa.Pk
open Go.ChangeShapes Go.WideShapes Go.ChangeAt Go.RowKit Go.Deep
set_option linter.unusedVariables false

/-- An item: its kind, its number, its text. -/
structure It where
  k : Int
  n : Nat
  s : ByteArray
def It.zero : It := ⟨0, 0, ByteArray.empty⟩
def It.ok (i : It) : Prop := (-9223372036854775808 ≤ i.k ∧ i.k ≤ 9223372036854775807) ∧ i.n < 18446744073709551616 ∧ i.s.size ≤ maxLen

/-- The items lie in memory from that address on. -/
def ItemsAt (w : World) (ao : Option Addr) (its : List It) : Prop :=
  its = [] ∨ ∃ b off, ao = some ⟨b, off, none⟩ ∧ b < w.heap.size ∧ ∀ j, j < its.length →
    w.cell? ⟨b, off + j * 3, none⟩ = some (.int .i64 (its.getD j It.zero).k) ∧ w.cell? ⟨b, off + j * 3 + 1, none⟩ = some (.int .u64 (its.getD j It.zero).n) ∧ w.cell? ⟨b, off + j * 3 + 2, none⟩ = some (.string (its.getD j It.zero).s)

theorem cellsItem : Try.prog.cellsOf 29 = 3 := by kernel_rfl
theorem cellsInt : Try.prog.cellsOf 3 = 1 := by kernel_rfl
theorem cellsU64 : Try.prog.cellsOf 27 = 1 := by kernel_rfl
theorem cellsString : Try.prog.cellsOf 9 = 1 := by kernel_rfl

def itData {H : Type} (i : It) : DataW H := .agg [.lit (.int .i64 i.k), .lit (.int .u64 i.n), .lit (.string i.s.data.toList)]

section
variable {H : Type} {enc : TypeId × Value → H} {w : World} {base : Nat} {spare : Nat → Bool} {held : Bool}

theorem open_items {ao : Option Addr} {len cap fuel : Nat} {x : DataW H × List MemPlace} (h : DataW.trod enc Try.prog w base spare held fuel 22 [.slice ao len cap] = some x) :
    ∃ its : List It, its.length = len ∧ ItemsAt w ao its ∧ (∀ i ∈ its, i.ok) ∧ ((len = 0 ∧ x.1 = .nil) ∨ ∃ rest, x.1 = .slice (its.map itData) rest) := by
  rcases open_slice Try.underlying22 h with ⟨hcs, hx⟩ | ⟨a, len', cap', m, n, D, Pl, hcs, hb, hl, hm, hmm, hx, hel⟩
  · simp at hcs
    obtain ⟨rfl, rfl, rfl⟩ := hcs
    exact ⟨[], rfl, .inl rfl, by simp, .inl ⟨rfl, by rw [hx]⟩⟩
  · simp at hcs
    obtain ⟨rfl, rfl, rfl⟩ := hcs
    have hlm : len ≤ m := by rw [hmm]; split <;> omega
    rw [cellsItem] at hel
    have each : ∀ i, i < len → ∃ it : It, it.ok ∧ D i = itData it ∧ w.cell? (a.add (i * 3)) = some (.int .i64 it.k) ∧ w.cell? (a.add (i * 3 + 1)) = some (.int .u64 it.n) ∧ w.cell? (a.add (i * 3 + 2)) = some (.string it.s) := by
      intro i hi
      obtain ⟨cs, hc, ht⟩ := hel i (by omega)
      obtain ⟨_, hlen, hcell⟩ := World.cells?_some hc
      obtain ⟨y0, y1, y2, n', hxy, _, g0, g1, g2⟩ := trod_struct3 Try.underlying29 ht
      match cs, hlen with
      | [v0, v1, v2], _ =>
        simp [cellsInt, cellsU64, cellsString] at g0 g1 g2
        obtain ⟨k, e0, rfl, w0⟩ := DataW.trod_int Try.underlying3 g0
        obtain ⟨u, e1, rfl, w1⟩ := DataW.trod_int Try.underlying27 g1
        obtain ⟨s, e2, rfl, w2⟩ := DataW.trod_string Try.underlying9 g2
        simp at e0 e1 e2
        subst e0 e1 e2
        have b0 : -9223372036854775808 ≤ k ∧ k ≤ 9223372036854775807 := by simpa [Lit.wf, IntKind.min, IntKind.max, IntKind.signed, IntKind.bits] using w0
        have b1 : 0 ≤ u ∧ u ≤ 18446744073709551615 := by simpa [Lit.wf, IntKind.min, IntKind.max, IntKind.signed, IntKind.bits] using w1
        obtain ⟨u, rfl⟩ := Int.eq_ofNat_of_zero_le b1.1
        have c0 := hcell 0 (by omega)
        have c1 := hcell 1 (by omega)
        have c2 := hcell 2 (by omega)
        rw [add_add] at c0 c1 c2
        simp only [Prod.mk.injEq] at hxy
        exact ⟨⟨k, u, s⟩, ⟨b0, (by show u < _; omega), w2⟩, hxy.1, by simpa using c0, by simpa using c1, by simpa using c2⟩
    have : Inhabited It := ⟨It.zero⟩
    obtain ⟨q, hq⟩ := choose_lt each
    refine ⟨(List.range len).map q, by simp, ?_, ?_, .inr ⟨(List.range (m - len)).map fun j => D (len + j), ?_⟩⟩
    · rcases Nat.eq_zero_or_pos len with h0 | h0
      · subst h0; exact .inl rfl
      · right
        obtain ⟨b, off, spot⟩ := a
        have hspot : spot = none := by simpa [Addr.add] using World.cell?_spot (hq 0 h0).2.2.1
        subst hspot
        refine ⟨b, off, rfl, World.block_lt_of_cell? w _ (hq 0 h0).2.2.1, fun j hj => ?_⟩
        rw [List.length_map, List.length_range] at hj
        have e : ((List.range len).map q).getD j It.zero = q j := by simp [hj]
        rw [e]
        have := (hq j hj).2.2
        rw [add_plain, add_plain, add_plain] at this
        exact ⟨this.1, by rw [Nat.add_assoc]; exact this.2.1, by rw [Nat.add_assoc]; exact this.2.2⟩
    · intro i hi
      obtain ⟨j, hj, rfl⟩ := List.mem_map.1 hi
      exact (hq j (List.mem_range.1 hj)).1
    · rw [hx, List.map_map]
      show DataW.slice _ _ = DataW.slice _ _
      rw [List.map_congr_left (g := itData ∘ q) fun j hj => (hq j (List.mem_range.1 hj)).2.1]
end

/-- Behind a change that leaves what was there. -/
theorem ItemsAt.keep {w w' : World} {ao : Option Addr} {its : List It} (h : ItemsAt w ao its) (hb : ∀ b, b < w.heap.size → w'.heap[b]? = w.heap[b]?) (hs : w.heap.size ≤ w'.heap.size) : ItemsAt w' ao its := by
  rcases h with h | ⟨b, off, rfl, hlt, hc⟩
  · exact .inl h
  · refine .inr ⟨b, off, rfl, by omega, fun j hj => ?_⟩
    have e : ∀ o, w'.cell? ⟨b, o, none⟩ = w.cell? ⟨b, o, none⟩ := fun o => World.cell?_of_block (hb b hlt)
    rw [e, e, e]
    exact hc j hj
theorem ItemsAt.below {w w' : World} {ao : Option Addr} {its : List It} (h : ItemsAt w ao its) (hb : Below w.heap.size w w') : ItemsAt w' ao its := h.keep hb.block hb.size

end Go.Proofs.Ytnhmabhcegiekaa.Pk
