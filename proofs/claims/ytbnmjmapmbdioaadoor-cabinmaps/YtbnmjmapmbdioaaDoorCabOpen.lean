/-
  Rows and seats that came in, opened into plain ones; a world that has laid the tables that turn numbers into letters.
-/
import Derived.Test.YtbnmjmapmbdioaaDoorRows
import Derived.Test.YtbnmjmapmbdioaaDoorCabParse
import Derived.Deep.Slices
import Derived.Deep.Strs
import Derived.ProofKit
import Derived.OpenShut
import Derived.Deep.DeepHandedRow
import Derived.Lib.LaidTab
import Derived.Stop.LaidErr
import Derived.LaidSub
namespace Go.Proofs.YtbnmjmapmbdioaaDoor.Cb
open Go.ChangeShapes Go.WideShapes Go.ChangeAt Go.RowKit Go.Deep Cm
set_option linter.unusedVariables false

theorem cellsRw : Tryd.prog.cellsOf 25 = 5 := by kernel_rfl
theorem cellsSe : Tryd.prog.cellsOf 38 = 2 := by kernel_rfl
theorem cellsInt : Tryd.prog.cellsOf 3 = 1 := by kernel_rfl
theorem cellsU8 : Tryd.prog.cellsOf 5 = 1 := by kernel_rfl
theorem cellsString : Tryd.prog.cellsOf 9 = 1 := by kernel_rfl
theorem cellsBool : Tryd.prog.cellsOf 4 = 1 := by kernel_rfl
theorem bytesRw : Tryd.prog.bytesOf 25 = 48 := by kernel_rfl
def rwData {H : Type} (r : Rw) : DataW H := .agg [.lit (.int .i64 r.num), .lit (.int .i64 r.cab), .lit (.int .i64 r.zone), .lit (.bool r.exit), .lit (.string r.seats.data.toList)]
section
variable {H : Type} {enc : TypeId × Value → H} {w : World} {base : Nat} {spare : Nat → Bool} {held : Bool}
set_option maxRecDepth 100000 in
theorem open_rows {ao : Option Addr} {len cap fuel : Nat} {x : DataW H × List MemPlace} (h : DataW.trod enc Tryd.prog w base spare held fuel 22 [.slice ao len cap] = some x) :
    ∃ ps : List Rw, ps.length = len ∧ ElemsAt rwShape w ao ps ∧ (∀ r ∈ ps, r.ok) ∧ ((len = 0 ∧ x.1 = .nil) ∨ ∃ rest, x.1 = .slice (ps.map rwData) rest) ∧ (ao = none → cap = 0) ∧ len ≤ cap := by
  rcases open_slice Tryd.underlying22 h with ⟨hcs, hx⟩ | ⟨a, len', cap', m, n, D, Pl, hcs, hb, hl, hm, hmm, hx, hel⟩
  · simp at hcs
    obtain ⟨rfl, rfl, rfl⟩ := hcs
    exact ⟨[], rfl, .inl rfl, (fun p hp => by simp at hp), .inl ⟨rfl, by rw [hx]⟩, fun _ => rfl, Nat.le_refl _⟩
  · simp at hcs
    obtain ⟨rfl, rfl, rfl⟩ := hcs
    have hlm : len ≤ m := by rw [hmm]; split <;> omega
    rw [cellsRw] at hel
    have each : ∀ i, i < len → ∃ p : Rw, p.ok ∧ D i = rwData p ∧ w.cell? (a.add (i * 5)) = some (.int .i64 p.num) ∧ w.cell? (a.add (i * 5 + 1)) = some (.int .i64 p.cab) ∧ w.cell? (a.add (i * 5 + 2)) = some (.int .i64 p.zone) ∧ w.cell? (a.add (i * 5 + 3)) = some (.bool p.exit) ∧ w.cell? (a.add (i * 5 + 4)) = some (.string p.seats) := by
      intro i hi
      obtain ⟨cs, hc, ht⟩ := hel i (by omega)
      obtain ⟨_, hlen, hcell⟩ := World.cells?_some hc
      obtain ⟨ys, n', _, hxy, _, hyl, hf⟩ := DataW.trod_struct Tryd.underlying25 ht
      match ys, hyl, cs, hlen with
      | [y0, y1, y2, y3, y4], _, [v0, v1, v2, v3, v4], _ =>
        have g0 := hf 0 _ rfl
        have g1 := hf 1 _ rfl
        have g2 := hf 2 _ rfl
        have g3 := hf 3 _ rfl
        have g4 := hf 4 _ rfl
        simp [cellsInt, cellsString, cellsBool] at g0 g1 g2 g3 g4
        obtain ⟨u0, e0, rfl, w0⟩ := DataW.trod_int Tryd.underlying3 g0
        obtain ⟨u1, e1, rfl, w1⟩ := DataW.trod_int Tryd.underlying3 g1
        obtain ⟨u2, e2, rfl, w2⟩ := DataW.trod_int Tryd.underlying3 g2
        obtain ⟨d, e3, rfl⟩ := DataW.trod_bool Tryd.underlying4 g3
        obtain ⟨s, e4, rfl, w4⟩ := DataW.trod_string Tryd.underlying9 g4
        simp at e0 e1 e2 e3 e4
        subst e0 e1 e2 e3 e4
        have b0 : -9223372036854775808 ≤ u0 ∧ u0 ≤ 9223372036854775807 := by simpa [Lit.wf, IntKind.min, IntKind.max, IntKind.signed, IntKind.bits] using w0
        have c0 := hcell 0 (by omega)
        have c1 := hcell 1 (by omega)
        have c2 := hcell 2 (by omega)
        have c3 := hcell 3 (by omega)
        have c4 := hcell 4 (by omega)
        rw [add_add] at c0 c1 c2 c3 c4
        simp only [Prod.mk.injEq] at hxy
        exact ⟨⟨u0, u1, u2, d, s⟩, ⟨w4, b0⟩, hxy.1, by simpa using c0, by simpa using c1, by simpa using c2, by simpa using c3, by simpa using c4⟩
    have : Inhabited Rw := ⟨Rw.zero⟩
    obtain ⟨q, hq⟩ := choose_lt each
    have hmap : x.1 = .slice (((List.range len).map q).map rwData) ((List.range (m - len)).map fun j => D (len + j)) := by
      rw [hx, List.map_map]
      show DataW.slice _ _ = DataW.slice _ _
      rw [List.map_congr_left (g := rwData ∘ q) fun j hj => (hq j (List.mem_range.1 hj)).2.1]
    refine ⟨(List.range len).map q, by simp, ?_, ?_, .inr ⟨_, hmap⟩, (fun h => by cases h), hl⟩
    · rcases Nat.eq_zero_or_pos len with h0 | h0
      · subst h0; exact .inl rfl
      · right
        obtain ⟨b, off, spot⟩ := a
        have hspot : spot = none := by simpa [Addr.add] using World.cell?_spot (hq 0 h0).2.2.1
        subst hspot
        refine ⟨b, off, rfl, World.block_lt_of_cell? w _ (hq 0 h0).2.2.1, fun i hi j u hu => ?_⟩
        rw [List.length_map, List.length_range] at hi
        have e : ((List.range len).map q)[i]'(by simpa using hi) = q i := by simp
        rw [e] at hu
        have := (hq i hi).2.2
        rw [add_plain, add_plain, add_plain, add_plain, add_plain] at this
        match j, hu with
        | 0, hu => simp [rwShape] at hu; subst hu; exact this.1
        | 1, hu => simp [rwShape] at hu; subst hu; rw [Nat.add_assoc]; exact this.2.1
        | 2, hu => simp [rwShape] at hu; subst hu; rw [Nat.add_assoc]; exact this.2.2.1
        | 3, hu => simp [rwShape] at hu; subst hu; rw [Nat.add_assoc]; exact this.2.2.2.1
        | 4, hu => simp [rwShape] at hu; subst hu; rw [Nat.add_assoc]; exact this.2.2.2.2
        | (t + 5), hu => simp [rwShape] at hu
    · intro i hi
      obtain ⟨j, hj, rfl⟩ := List.mem_map.1 hi
      exact (hq j (List.mem_range.1 hj)).1
set_option maxRecDepth 100000 in
theorem open_seat {b0 : Nat} {r : Reach} {v : Value} {d : DataW H} {p : List MemPlace} (hval : Value.okWide Tryd.prog w r b0 38 v) (h : DataW.Trod enc Tryd.prog w base spare held 38 v d p) :
    ∃ a : Int × Int, v = sev a ∧ 0 ≤ a.2 ∧ a.2 ≤ 255 := by
  obtain ⟨cs, rfl, hsz⟩ := okWide_struct Tryd.underlying38 hval
  rw [cellsSe] at hsz
  obtain ⟨l⟩ := cs
  obtain ⟨c0, c1, rfl⟩ : ∃ c0 c1, l = [c0, c1] := by
    match l, hsz with
    | [c0, c1], _ => exact ⟨c0, c1, rfl⟩
  obtain ⟨fuel, hf⟩ := h
  obtain ⟨y0, y1, n, hx, _, g0, g1⟩ := trod_struct2 Tryd.underlying38 hf
  simp [cellsInt, cellsU8, Value.cells] at g0 g1
  obtain ⟨k, e0, rfl, w0⟩ := DataW.trod_int Tryd.underlying3 g0
  obtain ⟨u, e1, rfl, w1⟩ := DataW.trod_int Tryd.underlying5 g1
  simp at e0 e1
  subst e0 e1
  have b1 : 0 ≤ u ∧ u ≤ 255 := by simpa [Lit.wf, IntKind.min, IntKind.max, IntKind.signed, IntKind.bits] using w1
  exact ⟨(k, u), rfl, b1.1, b1.2⟩
end

/-! ### What is laid; a world for the witness -/
def litVal : DataW Unit → Value
  | .lit (.int k n) => .int k n
  | _ => .int .u8 0
def flatVals : DataW Unit → List Value
  | .agg l => l.map litVal
  | _ => []
def layObj (d : DataW Unit) : Obj → Obj
  | .cells _ t frozen => .cells (flatVals d).toArray t frozen
  | o => o
def laid (w : World) : World := { w with heap := ((w.heap.modify 3 (layObj Rows.laid_math_bits_deBruijn32tab)).modify 4 (layObj Rows.laid_math_bits_deBruijn64tab)).modify 2 (layObj Rows.laid_internal_strconv_uint64pow10) }
/-- The rows' first three variables. -/
def three : List (String × DataW Unit) := Rows.cabinMapsUptoRow.laid
theorem pow_of {W : World} (h : laidMetH Tryd.prog three W) : Pow W := by
  have h1 : laidMet Tryd.prog three W := by
    have := (laidMetH_iff.1 h).1
    exact this
  have hp := laidMet.tail (laidMet.tail h1)
  exact Lib.tabIs_of_head (k := .u64) (zs := Lib.pow10Tab) (g := 2) (by kernel_rfl) (by kernel_rfl) Tryd.underlying95 Tryd.underlying81 (by kernel_rfl) (by kernel_rfl) hp
/-- The name that the errors' own type goes by. -/
def esName : String := match (Rows.laid_strconv_ErrRange (H := Unit)) with
  | .iface nm _ => nm
  | _ => ""
theorem rowES (u : TypeId) (h : Tryd.prog.typeName? 3 u = some esName) : u = 101 :=
  typeName_ptr_named (nm := "errors.errorString") (by kernel_rfl) (by kernel_rfl) (by decide) u (h.trans (congrArg some (by kernel_rfl)))
theorem met_of {W : World} (h : laidMetH Tryd.prog Rows.cabinLabelsRow.laid W) : Pow W ∧ Errs W := by
  have h1 : laidMet Tryd.prog Rows.cabinLabelsRow.laid W := by
    have := (laidMetH_iff.1 h).1
    exact this
  have hp := laidMet.tail (laidMet.tail h1)
  have hr := hp.tail
  obtain ⟨a1, s1, q1, _, _, _⟩ := laid_sentinel hr (g := 1) (by kernel_rfl) (by kernel_rfl) Tryd.underlying67 rowES Tryd.underlying101 Tryd.underlying103 rfl rfl Tryd.underlying9 (by kernel_rfl) (by kernel_rfl)
  obtain ⟨a2, s2, q2, _, _, _⟩ := laid_sentinel hr.tail (g := 0) (by kernel_rfl) (by kernel_rfl) Tryd.underlying67 rowES Tryd.underlying101 Tryd.underlying103 rfl rfl Tryd.underlying9 (by kernel_rfl) (by kernel_rfl)
  refine ⟨?_, ⟨_, _, q2⟩, ⟨_, _, q1⟩⟩
  exact Lib.tabIs_of_head (k := .u64) (zs := Lib.pow10Tab) (g := 2) (by kernel_rfl) (by kernel_rfl) Tryd.underlying95 Tryd.underlying81 (by kernel_rfl) (by kernel_rfl) hp
def errText (t : List UInt8) : Obj := .cells #[.string ⟨t.toArray⟩] 103 (0, 0)
def putErr (b : Nat) : Obj → Obj
  | .cells _ t frozen => .cells #[.iface 101 (.pointer (some ⟨b, 0, none⟩))] t frozen
  | o => o
def errAt (v b : Nat) (w : World) : World := { w with heap := w.heap.modify v (putErr b) }
/-- The three tables and the two errors, in two blocks more. -/
def laidN (w : World) : World :=
  errAt 1 w.heap.size (errAt 0 (w.heap.size + 1) (laid ((w.alloc (errText [118, 97, 108, 117, 101, 32, 111, 117, 116, 32, 111, 102, 32, 114, 97, 110, 103, 101])).alloc (errText [105, 110, 118, 97, 108, 105, 100, 32, 115, 121, 110, 116, 97, 120]))))
end Go.Proofs.YtbnmjmapmbdioaaDoor.Cb
