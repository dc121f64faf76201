/-
  Edits and versions that came in, opened into plain ones; the bound on their bulk; a world that has laid the tables that turn numbers into letters.
-/
import Derived.Test.YtjfanbemihheiaaDoorRows
import Derived.Test.YtjfanbemihheiaaDoorQCmOpen
import Derived.Test.YtjfanbemihheiaaDoorQCmInts
import Derived.Test.YtjfanbemihheiaaDoorQManApply
import Derived.Deep.Slices
import Derived.Deep.Strs
import Derived.ProofKit
import Derived.OpenShut
import Derived.Deep.DeepHandedRow
import Derived.Lib.LaidTab
namespace Go.Proofs.YtjfanbemihheiaaDoor.Ma
open Go.ChangeShapes Go.WideShapes Go.ChangeAt Go.RowKit Go.Deep Cm
set_option linter.unusedVariables false

theorem cellsI : Tryd.prog.cellsOf 3 = 1 := by kernel_rfl
theorem cellsFi : Tryd.prog.cellsOf 28 = 2 := by kernel_rfl
theorem cellsFis : Tryd.prog.cellsOf 22 = 1 := by kernel_rfl
theorem cellsIs : Tryd.prog.cellsOf 34 = 1 := by kernel_rfl
theorem cellsEd : Tryd.prog.cellsOf 36 = 5 := by kernel_rfl
def fiData {H : Type} (f : Fi) : DataW H := .agg [.lit (.int .i64 f.1), .lit (.int .i64 f.2)]
theorem bulk_fis {H : Type} (xs : List Fi) : xs.length ≤ Rows.uptoBulkAll (xs.map fiData : List (DataW H)) := by
  induction xs with
  | nil => simp
  | cons x r ih => simp only [List.map_cons, List.length_cons, Rows.uptoBulkAll, Rows.uptoBulk, fiData] at *; omega
theorem bulk_range {H : Type} (D : Nat → DataW H) (f : Nat → Nat) (n : Nat) (h : ∀ i, i < n → f i ≤ Rows.uptoBulk (D i)) : ((List.range n).map f).sum ≤ Rows.uptoBulkAll ((List.range n).map D) := by
  have gen : ∀ l : List Nat, (∀ i ∈ l, f i ≤ Rows.uptoBulk (D i)) → (l.map f).sum ≤ Rows.uptoBulkAll (l.map D) := by
    intro l
    induction l with
    | nil => simp [Rows.uptoBulkAll]
    | cons x r ih =>
      intro hx
      have h1 := ih fun i hi => hx i (List.mem_cons_of_mem _ hi)
      have h2 := hx x List.mem_cons_self
      simp only [List.map_cons, List.sum_cons, Rows.uptoBulkAll]
      omega
  exact gen _ fun i hi => h i (List.mem_range.1 hi)

section
variable {H : Type} {enc : TypeId × Value → H} {w : World} {base : Nat} {spare : Nat → Bool} {held : Bool}
set_option maxRecDepth 100000 in
theorem open_files {ao : Option Addr} {len cap fuel : Nat} {x : DataW H × List MemPlace} (h : DataW.trod enc Tryd.prog w base spare held fuel 22 [.slice ao len cap] = some x) :
    ∃ ps : List Fi, ps.length = len ∧ ElemsAt fiShape w ao ps ∧ (∀ f ∈ ps, OkF f) ∧ ps.length + 1 ≤ Rows.uptoBulk x.1 ∧ (ao = none → cap = 0) ∧ len ≤ cap := by
  rcases open_slice Tryd.underlying22 h with ⟨hcs, hx⟩ | ⟨a, len', cap', m, n, D, Pl, hcs, hb, hl, hm, hmm, hx, hel⟩
  · simp at hcs
    obtain ⟨rfl, rfl, rfl⟩ := hcs
    exact ⟨[], rfl, .inl rfl, (fun p hp => by simp at hp), by rw [hx]; simp [Rows.uptoBulk], fun _ => rfl, Nat.le_refl _⟩
  · simp at hcs
    obtain ⟨rfl, rfl, rfl⟩ := hcs
    have hlm : len ≤ m := by rw [hmm]; split <;> omega
    rw [cellsFi] at hel
    have each : ∀ i, i < len → ∃ p : Fi, OkF p ∧ D i = fiData p ∧ w.cell? (a.add (i * 2)) = some (.int .i64 p.1) ∧ w.cell? (a.add (i * 2 + 1)) = some (.int .i64 p.2) := by
      intro i hi
      obtain ⟨cs, hc, ht⟩ := hel i (by omega)
      obtain ⟨_, hlen, hcell⟩ := World.cells?_some hc
      obtain ⟨ys, n', _, hxy, _, hyl, hf⟩ := DataW.trod_struct Tryd.underlying28 ht
      match ys, hyl, cs, hlen with
      | [y0, y1], _, [v0, v1], _ =>
        have g0 := hf 0 _ rfl
        have g1 := hf 1 _ rfl
        simp [cellsI] at g0 g1
        obtain ⟨k, e0, rfl, w0⟩ := DataW.trod_int Tryd.underlying3 g0
        obtain ⟨u, e1, rfl, w1⟩ := DataW.trod_int Tryd.underlying3 g1
        simp at e0 e1
        subst e0 e1
        have b0 : -9223372036854775808 ≤ k ∧ k ≤ 9223372036854775807 := by simpa [Lit.wf, IntKind.min, IntKind.max, IntKind.signed, IntKind.bits] using w0
        have b1 : -9223372036854775808 ≤ u ∧ u ≤ 9223372036854775807 := by simpa [Lit.wf, IntKind.min, IntKind.max, IntKind.signed, IntKind.bits] using w1
        have c0 := hcell 0 (by omega)
        have c1 := hcell 1 (by omega)
        rw [add_add] at c0 c1
        simp only [Prod.mk.injEq] at hxy
        exact ⟨(k, u), ⟨b0, b1⟩, hxy.1, by simpa using c0, by simpa using c1⟩
    have : Inhabited Fi := ⟨(0, 0)⟩
    obtain ⟨q, hq⟩ := choose_lt each
    have hmap : x.1 = .slice (((List.range len).map q).map fiData) ((List.range (m - len)).map fun j => D (len + j)) := by
      rw [hx, List.map_map]
      show DataW.slice _ _ = DataW.slice _ _
      rw [List.map_congr_left (g := fiData ∘ q) fun j hj => (hq j (List.mem_range.1 hj)).2.1]
    refine ⟨(List.range len).map q, by simp, ?_, ?_, ?_, (fun h => by cases h), hl⟩
    · rcases Nat.eq_zero_or_pos len with h0 | h0
      · subst h0; exact .inl rfl
      · right
        obtain ⟨b, off, spot⟩ := a
        have hspot : spot = none := by simpa [Addr.add] using World.cell?_spot (hq 0 h0).2.2.1
        subst hspot
        refine ⟨b, off, rfl, World.block_lt_of_cell? w _ (hq 0 h0).2.2.1, fun i hi j u hu => ?_⟩
        rw [List.length_map, List.length_range] at hi
        have e : ((List.range len).map q)[i]'(by simpa using hi) = q i := by simp
        rw [e] at hu
        have := (hq i hi).2.2
        rw [add_plain, add_plain] at this
        match j, hu with
        | 0, hu => simp [fiShape] at hu; subst hu; exact this.1
        | 1, hu => simp [fiShape] at hu; subst hu; rw [Nat.add_assoc]; exact this.2
        | (t + 2), hu => simp [fiShape] at hu
    · intro i hi
      obtain ⟨j, hj, rfl⟩ := List.mem_map.1 hi
      exact (hq j (List.mem_range.1 hj)).1
    · have h1 := bulk_fis (H := H) ((List.range len).map q)
      rw [hmap]
      simp only [Rows.uptoBulk]
      omega
/-- A value of a slice's type that was read is a slice. -/
theorem trod_form {t e : TypeId} {fuel : Nat} {v : Value} {x : DataW H × List MemPlace} (ht : Tryd.prog.underlying t = some (.slice e)) (h : DataW.trod enc Tryd.prog w base spare held fuel t [v] = some x) : ∃ a l c, v = .slice a l c := by
  rcases open_slice ht h with ⟨hcs, hx⟩ | ⟨a, len', cap', m, n, D, Pl, hcs, _⟩
  · simp at hcs; exact ⟨_, _, _, hcs⟩
  · simp at hcs; exact ⟨_, _, _, hcs⟩
set_option maxRecDepth 100000 in
/-- The five cells of an edit. -/
theorem open_edit5 {fuel : Nat} {v0 v1 v2 v3 v4 : Value} {x : DataW H × List MemPlace} (h : DataW.trod enc Tryd.prog w base spare held fuel 36 [v0, v1, v2, v3, v4] = some x) (hbu : Rows.uptoBulk x.1 ≤ 50000000000) :
    ∃ e : Ei, v0 = e.a ∧ v1 = e.d ∧ v2 = .int .i64 e.e.wal ∧ v3 = .int .i64 e.e.next ∧ v4 = .int .i64 e.e.seq ∧ EiAt w e ∧ e.e.add.length + e.e.del.length + 1 ≤ Rows.uptoBulk x.1 := by
  obtain ⟨ys, n', _, hxy, _, hyl, hf⟩ := DataW.trod_struct Tryd.underlying36 h
  match ys, hyl with
  | [y0, y1, y2, y3, y4], _ =>
    have g0 := hf 0 _ rfl
    have g1 := hf 1 _ rfl
    have g2 := hf 2 _ rfl
    have g3 := hf 3 _ rfl
    have g4 := hf 4 _ rfl
    simp [cellsI, cellsFis, cellsIs] at g0 g1 g2 g3 g4
    obtain ⟨aa, la, ca, rfl⟩ := trod_form Tryd.underlying22 g0
    obtain ⟨ad, ld, cd, rfl⟩ := trod_form Tryd.underlying34 g1
    obtain ⟨fs, rfl, f1, f2, f3, f4, _⟩ := open_files g0
    obtain ⟨ns, rfl, n1, n2, n3, n4⟩ := open_intl g1
    obtain ⟨p, e2, rfl, w2⟩ := DataW.trod_int Tryd.underlying3 g2
    obtain ⟨q, e3, rfl, w3⟩ := DataW.trod_int Tryd.underlying3 g3
    obtain ⟨r, e4, rfl, w4⟩ := DataW.trod_int Tryd.underlying3 g4
    simp at e2 e3 e4
    subst e2 e3 e4
    have b2 : -9223372036854775808 ≤ p ∧ p ≤ 9223372036854775807 := by simpa [Lit.wf, IntKind.min, IntKind.max, IntKind.signed, IntKind.bits] using w2
    have b3 : -9223372036854775808 ≤ q ∧ q ≤ 9223372036854775807 := by simpa [Lit.wf, IntKind.min, IntKind.max, IntKind.signed, IntKind.bits] using w3
    have b4 : -9223372036854775808 ≤ r ∧ r ≤ 9223372036854775807 := by simpa [Lit.wf, IntKind.min, IntKind.max, IntKind.signed, IntKind.bits] using w4
    have l1 : ns.length + 1 ≤ Rows.uptoBulk y1.1 := by
      rcases n3 with ⟨h0, hd⟩ | ⟨rest, hd⟩
      · rw [hd, h0]; simp [Rows.uptoBulk]
      · have := bulk_ints (H := H) ns
        rw [hd]; simp only [Rows.uptoBulk]; omega
    have hx1 : Rows.uptoBulk y0.1 + Rows.uptoBulk y1.1 ≤ Rows.uptoBulk x.1 := by rw [hxy]; simp only [List.map_cons, Rows.uptoBulk, Rows.uptoBulkAll]; omega
    exact ⟨⟨aa, ca, ad, cd, ⟨fs, ns, p, q, r⟩⟩, rfl, rfl, rfl, rfl, rfl, ⟨f1, n1, f4, n4, ⟨f2, n2, b2, b3, b4⟩, by show fs.length + ns.length ≤ _; omega⟩, by show fs.length + ns.length + 1 ≤ _; omega⟩
theorem cellsVe : Tryd.prog.cellsOf 24 = 4 := by kernel_rfl
set_option maxRecDepth 100000 in
/-- A version by value. -/
theorem open_ver {b0 : Nat} {r : Reach} {v : Value} {d : DataW H} {p : List MemPlace} (hval : Value.okWide Tryd.prog w r b0 24 v) (h : DataW.Trod enc Tryd.prog w base spare held 24 v d p) :
    ∃ (ao : Option Addr) (cap : Nat) (x : Ve), v = veV (.slice ao x.files.length cap) x ∧ ElemsAt fiShape w ao x.files ∧ (∀ f ∈ x.files, OkF f) ∧ x.files.length + 1 ≤ Rows.uptoBulk d ∧ (ao = none → cap = 0) := by
  obtain ⟨cs, rfl, hsz⟩ := okWide_struct Tryd.underlying24 hval
  rw [cellsVe] at hsz
  obtain ⟨l⟩ := cs
  obtain ⟨v0, v1, v2, v3, rfl⟩ : ∃ c0 c1 c2 c3, l = [c0, c1, c2, c3] := by
    match l, hsz with
    | [c0, c1, c2, c3], _ => exact ⟨c0, c1, c2, c3, rfl⟩
  obtain ⟨fuel, hf⟩ := h
  obtain ⟨ys, n', _, hxy, _, hyl, hf⟩ := DataW.trod_struct Tryd.underlying24 hf
  match ys, hyl with
  | [y0, y1, y2, y3], _ =>
    have g0 := hf 0 _ rfl
    have g1 := hf 1 _ rfl
    have g2 := hf 2 _ rfl
    have g3 := hf 3 _ rfl
    simp [cellsI, cellsFis, Value.cells] at g0 g1 g2 g3
    obtain ⟨aa, la, ca, rfl⟩ := trod_form Tryd.underlying22 g0
    obtain ⟨fs, rfl, f1, f2, f3, f4, _⟩ := open_files g0
    obtain ⟨a, e2, rfl, w2⟩ := DataW.trod_int Tryd.underlying3 g1
    obtain ⟨b, e3, rfl, w3⟩ := DataW.trod_int Tryd.underlying3 g2
    obtain ⟨c, e4, rfl, w4⟩ := DataW.trod_int Tryd.underlying3 g3
    simp at e2 e3 e4
    subst e2 e3 e4
    simp only [Prod.mk.injEq] at hxy
    refine ⟨aa, ca, ⟨fs, a, b, c⟩, rfl, f1, f2, ?_, f4⟩
    rw [hxy.1]
    simp only [List.map_cons, Rows.uptoBulk, Rows.uptoBulkAll]
    omega
theorem bulk_mem {D : Nat → DataW H} {n i : Nat} (hi : i < n) : Rows.uptoBulk (D i) ≤ Rows.uptoBulkAll ((List.range n).map D) := by
  have gen : ∀ l : List Nat, i ∈ l → Rows.uptoBulk (D i) ≤ Rows.uptoBulkAll (l.map D) := by
    intro l
    induction l with
    | nil => intro h; cases h
    | cons x r ih =>
      intro h
      simp only [List.map_cons, Rows.uptoBulkAll]
      rcases List.mem_cons.1 h with rfl | h
      · omega
      · have := ih h; omega
  exact gen _ (List.mem_range.2 hi)
set_option maxRecDepth 100000 in
theorem open_edits {ao : Option Addr} {len cap fuel : Nat} {x : DataW H × List MemPlace} (h : DataW.trod enc Tryd.prog w base spare held fuel 25 [.slice ao len cap] = some x) (hbu : Rows.uptoBulk x.1 ≤ 10000000000) :
    ∃ xs : List Ei, xs.length = len ∧ ElemsAt eiShape w ao xs ∧ (∀ e ∈ xs, EiAt w e) ∧ (xs.map fun e => e.e.add.length + e.e.del.length + 1).sum ≤ Rows.uptoBulk x.1 ∧ (ao = none → cap = 0) ∧ len ≤ cap := by
  rcases open_slice Tryd.underlying25 h with ⟨hcs, hx⟩ | ⟨a, len', cap', m, n, D, Pl, hcs, hb, hl, hm, hmm, hx, hel⟩
  · simp at hcs
    obtain ⟨rfl, rfl, rfl⟩ := hcs
    exact ⟨[], rfl, .inl rfl, (fun p hp => by simp at hp), by simp, fun _ => rfl, Nat.le_refl _⟩
  · simp at hcs
    obtain ⟨rfl, rfl, rfl⟩ := hcs
    have hlm : len ≤ m := by rw [hmm]; split <;> omega
    rw [cellsEd] at hel
    have hx1 : Rows.uptoBulkAll ((List.range len).map D) + 1 ≤ Rows.uptoBulk x.1 := by rw [hx]; simp only [Rows.uptoBulk]; omega
    have each : ∀ i, i < len → ∃ p : Ei, (EiAt w p ∧ p.e.add.length + p.e.del.length + 1 ≤ Rows.uptoBulk (D i)) ∧ (w.cell? (a.add (i * 5)) = some p.a ∧ w.cell? (a.add (i * 5 + 1)) = some p.d ∧ w.cell? (a.add (i * 5 + 2)) = some (.int .i64 p.e.wal) ∧ w.cell? (a.add (i * 5 + 3)) = some (.int .i64 p.e.next) ∧ w.cell? (a.add (i * 5 + 4)) = some (.int .i64 p.e.seq)) := by
      intro i hi
      obtain ⟨cs, hc, ht⟩ := hel i (by omega)
      obtain ⟨_, hlen, hcell⟩ := World.cells?_some hc
      match cs, hlen with
      | [v0, v1, v2, v3, v4], _ =>
        have hbi : Rows.uptoBulk (D i) ≤ 50000000000 := by have := bulk_mem (D := D) hi; omega
        obtain ⟨e, rfl, rfl, rfl, rfl, rfl, he, hbe⟩ := open_edit5 ht hbi
        have c0 := hcell 0 (by omega)
        have c1 := hcell 1 (by omega)
        have c2 := hcell 2 (by omega)
        have c3 := hcell 3 (by omega)
        have c4 := hcell 4 (by omega)
        rw [add_add] at c0 c1 c2 c3 c4
        exact ⟨e, ⟨he, hbe⟩, by simpa using c0, by simpa using c1, by simpa using c2, by simpa using c3, by simpa using c4⟩
    have : Inhabited Ei := ⟨Ei.zero⟩
    obtain ⟨q, hq⟩ := choose_lt each
    refine ⟨(List.range len).map q, by simp, ?_, ?_, ?_, (fun h => by cases h), hl⟩
    · rcases Nat.eq_zero_or_pos len with h0 | h0
      · subst h0; exact .inl rfl
      · right
        obtain ⟨b, off, spot⟩ := a
        have hspot : spot = none := by simpa [Addr.add] using World.cell?_spot (hq 0 h0).2.1
        subst hspot
        refine ⟨b, off, rfl, World.block_lt_of_cell? w _ (hq 0 h0).2.1, fun i hi j u hu => ?_⟩
        rw [List.length_map, List.length_range] at hi
        have e : ((List.range len).map q)[i]'(by simpa using hi) = q i := by simp
        rw [e] at hu
        have := (hq i hi).2
        rw [add_plain, add_plain, add_plain, add_plain, add_plain] at this
        match j, hu with
        | 0, hu => simp [eiShape] at hu; subst hu; exact this.1
        | 1, hu => simp [eiShape] at hu; subst hu; rw [Nat.add_assoc]; exact this.2.1
        | 2, hu => simp [eiShape] at hu; subst hu; rw [Nat.add_assoc]; exact this.2.2.1
        | 3, hu => simp [eiShape] at hu; subst hu; rw [Nat.add_assoc]; exact this.2.2.2.1
        | 4, hu => simp [eiShape] at hu; subst hu; rw [Nat.add_assoc]; exact this.2.2.2.2
        | (t + 5), hu => simp [eiShape] at hu
    · intro i hi
      obtain ⟨j, hj, rfl⟩ := List.mem_map.1 hi
      exact (hq j (List.mem_range.1 hj)).1.1
    · have h1 := bulk_range D (fun i => (q i).e.add.length + (q i).e.del.length + 1) len fun i hi => (hq i hi).1.2
      rw [List.map_map]
      show ((List.range len).map fun i => (q i).e.add.length + (q i).e.del.length + 1).sum ≤ _
      omega
end

theorem edits_bulk (xs : List Ei) : addsum (xs.map (·.e)) + xs.length ≤ (xs.map fun e => e.e.add.length + e.e.del.length + 1).sum := by
  induction xs with
  | nil => simp [addsum]
  | cons x r ih => simp only [addsum, List.map_cons, List.sum_cons, List.length_cons, List.map_map] at *; omega
/-! ### A world for the witness -/
def litVal : DataW Unit → Value
  | .lit (.int k n) => .int k n
  | _ => .int .u8 0
def flatVals : DataW Unit → List Value
  | .agg l => l.map litVal
  | _ => []
def layObj (d : DataW Unit) : Obj → Obj
  | .cells _ t frozen => .cells (flatVals d).toArray t frozen
  | o => o
def laid (w : World) : World := { w with heap := ((w.heap.modify 1 (layObj Rows.laid_math_bits_deBruijn32tab)).modify 2 (layObj Rows.laid_math_bits_deBruijn64tab)).modify 0 (layObj Rows.laid_internal_strconv_uint64pow10) }
end Go.Proofs.YtjfanbemihheiaaDoor.Ma
