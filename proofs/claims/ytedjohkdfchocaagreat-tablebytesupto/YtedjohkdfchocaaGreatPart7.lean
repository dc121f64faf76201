/-
  The texts CmOpen, MemOpen.
-/
import Derived.Test.YtedjohkdfchocaaGreatRows
import Derived.Test.YtedjohkdfchocaaGreatPart1
import Derived.Deep.Slices
import Derived.Lib.SmallJoins
import Derived.ProofKit
import Derived.OpenShut
import Derived.Deep.Strs

/-
  Slices of texts that came in, opened into plain lists; the bound on their bulk.
-/
namespace Go.Proofs.YtedjohkdfchocaaGreat.Cm
open Go.ChangeShapes Go.WideShapes Go.ChangeAt Go.RowKit Go.Deep
set_option linter.unusedVariables false

theorem cellsString' : Tryz.prog.cellsOf 9 = 1 := by kernel_rfl

section
variable {H : Type} {enc : TypeId × Value → H} {w : World} {base : Nat} {spare : Nat → Bool} {held : Bool}

theorem open_list {α : Type} [Inhabited α] {ts e : TypeId} (val : α → Value) (dat : α → DataW H) (ok : α → Prop) (hts : Tryz.prog.underlying ts = some (.slice e)) (hce : Tryz.prog.cellsOf e = 1)
    (each : ∀ n v d pl, DataW.trod enc Tryz.prog w base spare held n e [v] = some (d, pl) → ∃ x, v = val x ∧ d = dat x ∧ ok x)
    {ao : Option Addr} {len cap fuel : Nat} {x : DataW H × List MemPlace} (h : DataW.trod enc Tryz.prog w base spare held fuel ts [.slice ao len cap] = some x) :
    ∃ xs : List α, xs.length = len ∧ CellsAt w ao (xs.map val) ∧ (∀ i ∈ xs, ok i) ∧ ((len = 0 ∧ x.1 = .nil) ∨ ∃ rest, x.1 = .slice (xs.map dat) rest) ∧ (ao = none → cap = 0) := by
  rcases open_slice1 hts hce h with ⟨hcs, hx⟩ | ⟨a, len', cap', m, n, V, D, Pl, hcs, hb, hl, hm, hmm, hx, hel⟩
  · simp at hcs
    obtain ⟨rfl, rfl, rfl⟩ := hcs
    exact ⟨[], rfl, .inl rfl, by simp, .inl ⟨rfl, by rw [hx]⟩, fun _ => rfl⟩
  · simp at hcs
    obtain ⟨rfl, rfl, rfl⟩ := hcs
    have hlm : len ≤ m := by rw [hmm]; split <;> omega
    obtain ⟨q, hq⟩ := choose_lt (fun i (hi : i < len) => each n (V i) (D i) (Pl i) (hel i (by omega)).2)
    refine ⟨(List.range len).map q, by simp, ?_, ?_, .inr ⟨(List.range (m - len)).map fun j => D (len + j), ?_⟩, fun h => by cases h⟩
    · rcases Nat.eq_zero_or_pos len with h0 | h0
      · subst h0; exact .inl rfl
      · right
        obtain ⟨b, off, spot⟩ := a
        have hspot : spot = none := by simpa [Addr.add] using World.cell?_spot (hel 0 (by omega)).1
        subst hspot
        refine ⟨b, off, rfl, World.block_lt_of_cell? w _ (hel 0 (by omega)).1, fun j hj => ?_⟩
        rw [List.length_map, List.length_map, List.length_range] at hj
        rw [← add_plain, (hel j (by omega)).1, (hq j hj).1]
        simp [hj]
    · intro i hi
      obtain ⟨j, hj, rfl⟩ := List.mem_map.1 hi
      exact (hq j (List.mem_range.1 hj)).2.2
    · rw [hx, List.map_map]
      show DataW.slice _ _ = DataW.slice _ _
      rw [List.map_congr_left (g := dat ∘ q) fun j hj => (hq j (List.mem_range.1 hj)).2.1]

def strData (s : ByteArray) : DataW H := .lit (.string s.data.toList)

theorem open_strl {ao : Option Addr} {len cap fuel : Nat} {x : DataW H × List MemPlace} (h : DataW.trod enc Tryz.prog w base spare held fuel 52 [.slice ao len cap] = some x) :
    ∃ xs : List ByteArray, xs.length = len ∧ CellsAt w ao (strVals xs) ∧ (∀ i ∈ xs, i.size ≤ maxLen) ∧ ((len = 0 ∧ x.1 = .nil) ∨ ∃ rest, x.1 = .slice (xs.map strData) rest) ∧ (ao = none → cap = 0) := by
  refine open_list Value.string strData (fun s => s.size ≤ maxLen) Tryz.underlying52 cellsString' (fun n v d pl ht => ?_) h
  obtain ⟨u, e1, e2, w1⟩ := DataW.trod_string Tryz.underlying9 ht
  simp at e1 e2
  exact ⟨u, e1, e2.1, w1⟩
end

/-! ### The bound on the bulk -/
/-- A part's bulk, of a datum that is a slice or nil. -/
theorem part {H α : Type} {f : α → DataW H} {xs : List α} {d : DataW H} (hd : (xs.length = 0 ∧ d = .nil) ∨ ∃ rest, d = .slice (xs.map f) rest) : Rows.uptoBulkAll (xs.map f) ≤ Rows.uptoBulk d := by
  rcases hd with ⟨h, _⟩ | ⟨rest, rfl⟩
  · rw [List.eq_nil_of_length_eq_zero h]; simp [Rows.uptoBulkAll]
  · simp only [Rows.uptoBulk]; omega
theorem bulk_strs {H : Type} (xs : List ByteArray) : xs.length + total xs ≤ Rows.uptoBulkAll (xs.map strData : List (DataW H)) := by
  induction xs with
  | nil => simp [total]
  | cons x r ih =>
    have hb : Rows.uptoBulk (strData x : DataW H) = x.size + 1 := by rw [Lib.size_eq]; simp [strData, Rows.uptoBulk]
    simp only [total, List.map_cons, List.sum_cons, List.length_cons, Rows.uptoBulkAll, hb] at ih ⊢
    omega

end Go.Proofs.YtedjohkdfchocaaGreat.Cm

/-
  Slices of versions that came in, opened into plain lists; the bound on their bulk; a key with a number, by value.
-/
namespace Go.Proofs.YtedjohkdfchocaaGreat.Mm
open Go.ChangeShapes Go.WideShapes Go.ChangeAt Go.RowKit Go.Deep Cm
set_option linter.unusedVariables false

theorem cellsEn : Tryz.prog.cellsOf 25 = 4 := by kernel_rfl
theorem cellsInt : Tryz.prog.cellsOf 3 = 1 := by kernel_rfl
theorem cellsString : Tryz.prog.cellsOf 9 = 1 := by kernel_rfl
theorem cellsBool : Tryz.prog.cellsOf 4 = 1 := by kernel_rfl
def enData {H : Type} (e : En) : DataW H := .agg [.lit (.string e.key.data.toList), .lit (.int .i64 e.seq), .lit (.bool e.dead), .lit (.string e.val.data.toList)]
theorem bulk_ens {H : Type} (xs : List En) : xs.length + bytesE xs ≤ Rows.uptoBulkAll (xs.map enData : List (DataW H)) := by
  induction xs with
  | nil => simp [bytesE]
  | cons x r ih =>
    have hb : x.key.size + x.val.size + 1 ≤ Rows.uptoBulk (enData x : DataW H) := by
      rw [Lib.size_eq, Lib.size_eq]
      simp only [enData, Rows.uptoBulk, Rows.uptoBulkAll]
      omega
    rw [bytesE_cons, List.map_cons, List.length_cons]
    simp only [Rows.uptoBulkAll]
    unfold sizeE
    omega

section
variable {H : Type} {enc : TypeId × Value → H} {w : World} {base : Nat} {spare : Nat → Bool} {held : Bool}
set_option maxRecDepth 100000 in
theorem open_entries {ao : Option Addr} {len cap fuel : Nat} {x : DataW H × List MemPlace} (h : DataW.trod enc Tryz.prog w base spare held fuel 22 [.slice ao len cap] = some x) :
    ∃ ps : List En, ps.length = len ∧ ElemsAt enShape w ao ps ∧ AllOk ps ∧ ps.length + bytesE ps ≤ Rows.uptoBulk x.1 ∧ (ao = none → cap = 0) ∧ len ≤ cap := by
  rcases open_slice Tryz.underlying22 h with ⟨hcs, hx⟩ | ⟨a, len', cap', m, n, D, Pl, hcs, hb, hl, hm, hmm, hx, hel⟩
  · simp at hcs
    obtain ⟨rfl, rfl, rfl⟩ := hcs
    exact ⟨[], rfl, .inl rfl, (fun p hp => by simp at hp), by simp [bytesE], fun _ => rfl, Nat.le_refl _⟩
  · simp at hcs
    obtain ⟨rfl, rfl, rfl⟩ := hcs
    have hlm : len ≤ m := by rw [hmm]; split <;> omega
    rw [cellsEn] at hel
    have each : ∀ i, i < len → ∃ p : En, p.ok ∧ D i = enData p ∧ w.cell? (a.add (i * 4)) = some (.string p.key) ∧ w.cell? (a.add (i * 4 + 1)) = some (.int .i64 p.seq) ∧ w.cell? (a.add (i * 4 + 2)) = some (.bool p.dead) ∧ w.cell? (a.add (i * 4 + 3)) = some (.string p.val) := by
      intro i hi
      obtain ⟨cs, hc, ht⟩ := hel i (by omega)
      obtain ⟨_, hlen, hcell⟩ := World.cells?_some hc
      obtain ⟨ys, n', _, hxy, _, hyl, hf⟩ := DataW.trod_struct Tryz.underlying25 ht
      match ys, hyl, cs, hlen with
      | [y0, y1, y2, y3], _, [v0, v1, v2, v3], _ =>
        have g0 := hf 0 _ rfl
        have g1 := hf 1 _ rfl
        have g2 := hf 2 _ rfl
        have g3 := hf 3 _ rfl
        simp [cellsInt, cellsString, cellsBool] at g0 g1 g2 g3
        obtain ⟨k, e0, rfl, w0⟩ := DataW.trod_string Tryz.underlying9 g0
        obtain ⟨u, e1, rfl, w1⟩ := DataW.trod_int Tryz.underlying3 g1
        obtain ⟨d, e2, rfl⟩ := DataW.trod_bool Tryz.underlying4 g2
        obtain ⟨s, e3, rfl, w3⟩ := DataW.trod_string Tryz.underlying9 g3
        simp at e0 e1 e2 e3
        subst e0 e1 e2 e3
        have b1 : -9223372036854775808 ≤ u ∧ u ≤ 9223372036854775807 := by simpa [Lit.wf, IntKind.min, IntKind.max, IntKind.signed, IntKind.bits] using w1
        have c0 := hcell 0 (by omega)
        have c1 := hcell 1 (by omega)
        have c2 := hcell 2 (by omega)
        have c3 := hcell 3 (by omega)
        rw [add_add] at c0 c1 c2 c3
        simp only [Prod.mk.injEq] at hxy
        exact ⟨⟨k, u, d, s⟩, b1, hxy.1, by simpa using c0, by simpa using c1, by simpa using c2, by simpa using c3⟩
    have : Inhabited En := ⟨En.zero⟩
    obtain ⟨q, hq⟩ := choose_lt each
    have hmap : x.1 = .slice (((List.range len).map q).map enData) ((List.range (m - len)).map fun j => D (len + j)) := by
      rw [hx, List.map_map]
      show DataW.slice _ _ = DataW.slice _ _
      rw [List.map_congr_left (g := enData ∘ q) fun j hj => (hq j (List.mem_range.1 hj)).2.1]
    refine ⟨(List.range len).map q, by simp, ?_, ?_, ?_, (fun h => by cases h), hl⟩
    · rcases Nat.eq_zero_or_pos len with h0 | h0
      · subst h0; exact .inl rfl
      · right
        obtain ⟨b, off, spot⟩ := a
        have hspot : spot = none := by simpa [Addr.add] using World.cell?_spot (hq 0 h0).2.2.1
        subst hspot
        refine ⟨b, off, rfl, World.block_lt_of_cell? w _ (hq 0 h0).2.2.1, fun i hi j u hu => ?_⟩
        rw [List.length_map, List.length_range] at hi
        have e : ((List.range len).map q)[i]'(by simpa using hi) = q i := by simp
        rw [e] at hu
        have := (hq i hi).2.2
        rw [add_plain, add_plain, add_plain, add_plain] at this
        match j, hu with
        | 0, hu => simp [enShape] at hu; subst hu; exact this.1
        | 1, hu => simp [enShape] at hu; subst hu; rw [Nat.add_assoc]; exact this.2.1
        | 2, hu => simp [enShape] at hu; subst hu; rw [Nat.add_assoc]; exact this.2.2.1
        | 3, hu => simp [enShape] at hu; subst hu; rw [Nat.add_assoc]; exact this.2.2.2
        | (t + 4), hu => simp [enShape] at hu
    · intro i hi
      obtain ⟨j, hj, rfl⟩ := List.mem_map.1 hi
      exact (hq j (List.mem_range.1 hj)).1
    · have h1 := bulk_ens (H := H) ((List.range len).map q)
      rw [hmap]
      simp only [Rows.uptoBulk]
      omega
end
end Go.Proofs.YtedjohkdfchocaaGreat.Mm
