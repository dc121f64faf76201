/-
  Slices of versions that came in, opened into plain lists; the bound on their bulk; a key with a number, by value.
-/
import Derived.Test.YtdaibmafnamfgaaRows
import Derived.Test.YtdaibmafnamfgaaCmOpen
import Derived.Test.YtdaibmafnamfgaaMemMath
import Derived.Deep.Slices
import Derived.Deep.Strs
import Derived.ProofKit
import Derived.OpenShut
namespace Go.Proofs.Ytdaibmafnamfgaa.Mm
open Go.ChangeShapes Go.WideShapes Go.ChangeAt Go.RowKit Go.Deep Cm
set_option linter.unusedVariables false

theorem cellsEn : Try.prog.cellsOf 28 = 4 := by kernel_rfl
theorem cellsInt : Try.prog.cellsOf 3 = 1 := by kernel_rfl
theorem cellsString : Try.prog.cellsOf 9 = 1 := by kernel_rfl
theorem cellsBool : Try.prog.cellsOf 4 = 1 := by kernel_rfl
def enData {H : Type} (e : En) : DataW H := .agg [.lit (.string e.key.data.toList), .lit (.int .i64 e.seq), .lit (.bool e.dead), .lit (.string e.val.data.toList)]
theorem bulk_ens {H : Type} (xs : List En) : xs.length + bytesE xs ≤ Rows.uptoBulkAll (xs.map enData : List (DataW H)) := by
  induction xs with
  | nil => simp [bytesE]
  | cons x r ih =>
    have hb : x.key.size + x.val.size + 1 ≤ Rows.uptoBulk (enData x : DataW H) := by
      rw [Lib.size_eq, Lib.size_eq]
      simp only [enData, Rows.uptoBulk, Rows.uptoBulkAll]
      omega
    rw [bytesE_cons, List.map_cons, List.length_cons]
    simp only [Rows.uptoBulkAll]
    unfold sizeE
    omega

section
variable {H : Type} {enc : TypeId × Value → H} {w : World} {base : Nat} {spare : Nat → Bool} {held : Bool}
set_option maxRecDepth 100000 in
theorem open_entries {ao : Option Addr} {len cap fuel : Nat} {x : DataW H × List MemPlace} (h : DataW.trod enc Try.prog w base spare held fuel 22 [.slice ao len cap] = some x) :
    ∃ ps : List En, ps.length = len ∧ ElemsAt enShape w ao ps ∧ AllOk ps ∧ ps.length + bytesE ps ≤ Rows.uptoBulk x.1 ∧ (ao = none → cap = 0) ∧ len ≤ cap := by
  rcases open_slice Try.underlying22 h with ⟨hcs, hx⟩ | ⟨a, len', cap', m, n, D, Pl, hcs, hb, hl, hm, hmm, hx, hel⟩
  · simp at hcs
    obtain ⟨rfl, rfl, rfl⟩ := hcs
    exact ⟨[], rfl, .inl rfl, (fun p hp => by simp at hp), by simp [bytesE], fun _ => rfl, Nat.le_refl _⟩
  · simp at hcs
    obtain ⟨rfl, rfl, rfl⟩ := hcs
    have hlm : len ≤ m := by rw [hmm]; split <;> omega
    rw [cellsEn] at hel
    have each : ∀ i, i < len → ∃ p : En, p.ok ∧ D i = enData p ∧ w.cell? (a.add (i * 4)) = some (.string p.key) ∧ w.cell? (a.add (i * 4 + 1)) = some (.int .i64 p.seq) ∧ w.cell? (a.add (i * 4 + 2)) = some (.bool p.dead) ∧ w.cell? (a.add (i * 4 + 3)) = some (.string p.val) := by
      intro i hi
      obtain ⟨cs, hc, ht⟩ := hel i (by omega)
      obtain ⟨_, hlen, hcell⟩ := World.cells?_some hc
      obtain ⟨ys, n', _, hxy, _, hyl, hf⟩ := DataW.trod_struct Try.underlying28 ht
      match ys, hyl, cs, hlen with
      | [y0, y1, y2, y3], _, [v0, v1, v2, v3], _ =>
        have g0 := hf 0 _ rfl
        have g1 := hf 1 _ rfl
        have g2 := hf 2 _ rfl
        have g3 := hf 3 _ rfl
        simp [cellsInt, cellsString, cellsBool] at g0 g1 g2 g3
        obtain ⟨k, e0, rfl, w0⟩ := DataW.trod_string Try.underlying9 g0
        obtain ⟨u, e1, rfl, w1⟩ := DataW.trod_int Try.underlying3 g1
        obtain ⟨d, e2, rfl⟩ := DataW.trod_bool Try.underlying4 g2
        obtain ⟨s, e3, rfl, w3⟩ := DataW.trod_string Try.underlying9 g3
        simp at e0 e1 e2 e3
        subst e0 e1 e2 e3
        have b1 : -9223372036854775808 ≤ u ∧ u ≤ 9223372036854775807 := by simpa [Lit.wf, IntKind.min, IntKind.max, IntKind.signed, IntKind.bits] using w1
        have c0 := hcell 0 (by omega)
        have c1 := hcell 1 (by omega)
        have c2 := hcell 2 (by omega)
        have c3 := hcell 3 (by omega)
        rw [add_add] at c0 c1 c2 c3
        simp only [Prod.mk.injEq] at hxy
        exact ⟨⟨k, u, d, s⟩, b1, hxy.1, by simpa using c0, by simpa using c1, by simpa using c2, by simpa using c3⟩
    have : Inhabited En := ⟨En.zero⟩
    obtain ⟨q, hq⟩ := choose_lt each
    have hmap : x.1 = .slice (((List.range len).map q).map enData) ((List.range (m - len)).map fun j => D (len + j)) := by
      rw [hx, List.map_map]
      show DataW.slice _ _ = DataW.slice _ _
      rw [List.map_congr_left (g := enData ∘ q) fun j hj => (hq j (List.mem_range.1 hj)).2.1]
    refine ⟨(List.range len).map q, by simp, ?_, ?_, ?_, (fun h => by cases h), hl⟩
    · rcases Nat.eq_zero_or_pos len with h0 | h0
      · subst h0; exact .inl rfl
      · right
        obtain ⟨b, off, spot⟩ := a
        have hspot : spot = none := by simpa [Addr.add] using World.cell?_spot (hq 0 h0).2.2.1
        subst hspot
        refine ⟨b, off, rfl, World.block_lt_of_cell? w _ (hq 0 h0).2.2.1, fun i hi j u hu => ?_⟩
        rw [List.length_map, List.length_range] at hi
        have e : ((List.range len).map q)[i]'(by simpa using hi) = q i := by simp
        rw [e] at hu
        have := (hq i hi).2.2
        rw [add_plain, add_plain, add_plain, add_plain] at this
        match j, hu with
        | 0, hu => simp [enShape] at hu; subst hu; exact this.1
        | 1, hu => simp [enShape] at hu; subst hu; rw [Nat.add_assoc]; exact this.2.1
        | 2, hu => simp [enShape] at hu; subst hu; rw [Nat.add_assoc]; exact this.2.2.1
        | 3, hu => simp [enShape] at hu; subst hu; rw [Nat.add_assoc]; exact this.2.2.2
        | (t + 4), hu => simp [enShape] at hu
    · intro i hi
      obtain ⟨j, hj, rfl⟩ := List.mem_map.1 hi
      exact (hq j (List.mem_range.1 hj)).1
    · have h1 := bulk_ens (H := H) ((List.range len).map q)
      rw [hmap]
      simp only [Rows.uptoBulk]
      omega
end
end Go.Proofs.Ytdaibmafnamfgaa.Mm
