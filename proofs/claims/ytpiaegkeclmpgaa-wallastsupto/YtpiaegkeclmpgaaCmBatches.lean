/-
  For all layers: slices of slices of texts that came in, and slices of structs of two numbers, opened into plain lists; the bound on their bulk.
-/
import Derived.Test.YtpiaegkeclmpgaaCmOpen
import Derived.Test.YtpiaegkeclmpgaaCmRows
import Derived.Deep.SlicePairs
namespace Go.Proofs.Ytpiaegkeclmpgaa.Cm
open Go.ChangeShapes Go.WideShapes Go.ChangeAt Go.RowKit Go.Deep
set_option linter.unusedVariables false

/-- A slice of texts as a value. -/
structure Bt where
  ao : Option Addr
  cap : Nat
  xs : List ByteArray
def Bt.zero : Bt := ⟨none, 0, []⟩
def Bt.val (b : Bt) : Value := .slice b.ao b.xs.length b.cap
def Bt.at_ (w : World) (b : Bt) : Prop := CellsAt w b.ao (strVals b.xs) ∧ (b.ao = none → b.cap = 0) ∧ b.xs.length ≤ b.cap
def Bt.weight (b : Bt) : Nat := b.xs.length + total b.xs + 1
def weights (bs : List Bt) : Nat := (bs.map Bt.weight).sum
theorem cellsStrings' : Try.prog.cellsOf 22 = 1 := by kernel_rfl
theorem cellsFate' : Try.prog.cellsOf 52 = 2 := by kernel_rfl
theorem cellsInt2' : Try.prog.cellsOf 3 = 1 := by kernel_rfl
def pairShape : Shape (Int × Int) := ⟨2, fun f => [.int .i64 f.1, .int .i64 f.2], by decide, fun _ => rfl, fun a u hu => by simp at hu; rcases hu with rfl | rfl <;> rfl⟩
def pairData {H : Type} (f : Int × Int) : DataW H := .agg [.lit (.int .i64 f.1), .lit (.int .i64 f.2)]

section
variable {H : Type} {enc : TypeId × Value → H} {w : World} {base : Nat} {spare : Nat → Bool} {held : Bool}
theorem open_batches {ao : Option Addr} {len cap fuel : Nat} {x : DataW H × List MemPlace} (h : DataW.trod enc Try.prog w base spare held fuel 45 [.slice ao len cap] = some x) :
    ∃ bs : List Bt, bs.length = len ∧ CellsAt w ao (bs.map Bt.val) ∧ (∀ b ∈ bs, b.at_ w) ∧ weights bs ≤ Rows.uptoBulk x.1 ∧ (ao = none → cap = 0) := by
  have : Inhabited (Bt × DataW H) := ⟨(Bt.zero, .nil)⟩
  obtain ⟨ys, h1, h2, h3, h4, h5⟩ := open_list (fun y : Bt × DataW H => y.1.val) (fun y => y.2) (fun y => y.1.at_ w ∧ y.1.weight ≤ Rows.uptoBulk y.2) Try.underlying45 cellsStrings' (fun n v d pl ht => by
    have hv : ∃ a l c, v = .slice a l c ∧ l ≤ c := by
      rcases open_slice1 Try.underlying22 cellsString' ht with ⟨hcs, _⟩ | ⟨a, l, c, _, _, _, _, _, hcs, _, hlc, _⟩
      · simp at hcs; exact ⟨_, _, _, hcs, Nat.le_refl _⟩
      · simp at hcs; exact ⟨_, _, _, hcs, hlc⟩
    obtain ⟨a, l, c, rfl, hlc⟩ := hv
    obtain ⟨xs, rfl, q1, q2, q3, q4⟩ := open_strl ht
    have b1 : Rows.uptoBulkAll (xs.map strData : List (DataW H)) + 1 ≤ Rows.uptoBulk d := by
      rcases q3 with ⟨h0, hd⟩ | ⟨rest, hd⟩
      · have hd : d = .nil := hd
        rw [List.eq_nil_of_length_eq_zero h0, hd]; simp [Rows.uptoBulkAll, Rows.uptoBulk]
      · have hd : d = .slice (xs.map strData) rest := hd
        rw [hd]; simp only [Rows.uptoBulk]; omega
    have b2 := bulk_strs (H := H) xs
    exact ⟨(⟨a, c, xs⟩, d), rfl, rfl, ⟨q1, q4, hlc⟩, by show xs.length + total xs + 1 ≤ Rows.uptoBulk d; omega⟩) h
  refine ⟨ys.map Prod.fst, by simpa using h1, by rw [List.map_map]; exact h2, fun b hb => by obtain ⟨y, hy, rfl⟩ := List.mem_map.1 hb; exact (h3 y hy).1, ?_, h5⟩
  have h6 : weights (ys.map Prod.fst) ≤ Rows.uptoBulkAll (ys.map fun y => y.2) := by
    clear h1 h2 h4
    induction ys with
    | nil => simp [weights]
    | cons y r ih =>
      have := ih fun z hz => h3 z (List.mem_cons_of_mem _ hz)
      have := (h3 y List.mem_cons_self).2
      simp only [weights, List.map_cons, List.sum_cons, Rows.uptoBulkAll] at *
      omega
  have h7 : Rows.uptoBulkAll (ys.map fun y => y.2) ≤ Rows.uptoBulk x.1 := by
    rcases h4 with ⟨h0, _⟩ | ⟨rest, hd⟩
    · rw [List.eq_nil_of_length_eq_zero (h1.trans h0)]; simp [Rows.uptoBulkAll]
    · rw [hd]; simp only [Rows.uptoBulk]; omega
  omega
set_option maxRecDepth 100000 in
theorem open_pairs {ao : Option Addr} {len cap fuel : Nat} {x : DataW H × List MemPlace} (h : DataW.trod enc Try.prog w base spare held fuel 46 [.slice ao len cap] = some x) :
    ∃ fs : List (Int × Int), fs.length = len ∧ ElemsAt pairShape w ao fs ∧ (∀ f ∈ fs, -9223372036854775808 ≤ f.1 ∧ f.1 ≤ 9223372036854775807) ∧ fs.length ≤ Rows.uptoBulk x.1 ∧ (ao = none → cap = 0) := by
  rcases open_slice_pairs Try.underlying46 Try.underlying52 cellsFate' rfl rfl cellsInt2' cellsInt2' h with ⟨hcs, hx⟩ | ⟨a, len', cap', m, n, V0, V1, D0, D1, P0, P1, hcs, hb, hl, hm, hmm, hx, hel⟩
  · simp at hcs
    obtain ⟨rfl, rfl, rfl⟩ := hcs
    exact ⟨[], rfl, .inl rfl, (fun p hp => by simp at hp), by simp, fun _ => rfl⟩
  · simp at hcs
    obtain ⟨rfl, rfl, rfl⟩ := hcs
    have hlm : len ≤ m := by rw [hmm]; split <;> omega
    have each : ∀ i, i < len → ∃ f : Int × Int, (-9223372036854775808 ≤ f.1 ∧ f.1 ≤ 9223372036854775807) ∧ w.cell? (a.add (i * 2)) = some (.int .i64 f.1) ∧ w.cell? (a.add (i * 2 + 1)) = some (.int .i64 f.2) := by
      intro i hi
      obtain ⟨c0, c1, t0, t1⟩ := hel i (by omega)
      obtain ⟨k, e0, _, w0⟩ := DataW.trod_int Try.underlying3 t0
      obtain ⟨u, e1, _, w1⟩ := DataW.trod_int Try.underlying3 t1
      simp at e0 e1
      have b0 : -9223372036854775808 ≤ k ∧ k ≤ 9223372036854775807 := by simpa [Lit.wf, IntKind.min, IntKind.max, IntKind.signed, IntKind.bits] using w0
      exact ⟨(k, u), b0, by rw [c0, e0], by rw [c1, e1]⟩
    obtain ⟨q, hq⟩ := choose_lt each
    refine ⟨(List.range len).map q, by simp, ?_, ?_, ?_, fun h => by cases h⟩
    · rcases Nat.eq_zero_or_pos len with h0 | h0
      · subst h0; exact .inl rfl
      · right
        obtain ⟨b, off, spot⟩ := a
        have hspot : spot = none := by simpa [Addr.add] using World.cell?_spot (hq 0 h0).2.1
        subst hspot
        refine ⟨b, off, rfl, World.block_lt_of_cell? w _ (hq 0 h0).2.1, fun i hi j u hu => ?_⟩
        have hi' : i < len := by simpa using hi
        have he : ((List.range len).map q)[i] = q i := by simp
        rw [he] at hu
        have := (hq i hi').2
        rw [add_plain, add_plain] at this
        match j, hu with
        | 0, hu => simp [pairShape] at hu; subst hu; exact this.1
        | 1, hu => simp [pairShape] at hu; subst hu; exact this.2
        | (n + 2), hu => simp [pairShape] at hu
    · intro f hf
      obtain ⟨j, hj, rfl⟩ := List.mem_map.1 hf
      exact (hq j (List.mem_range.1 hj)).1
    · rw [hx]
      simp only [Rows.uptoBulk, List.length_map, List.length_range]
      have : ∀ (l : List Nat), l.length ≤ Rows.uptoBulkAll (l.map fun i => (.agg [D0 i, D1 i] : DataW H)) := fun l => by
        induction l with
        | nil => simp
        | cons y r ih =>
          simp only [List.map_cons, Rows.uptoBulkAll, Rows.uptoBulk, List.length_cons]
          omega
      have := this (List.range len)
      rw [List.length_range] at this
      omega
end
end Go.Proofs.Ytpiaegkeclmpgaa.Cm
