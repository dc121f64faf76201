/-
  An array of four bytes that came in, by value, opened.
-/
import Derived.Test.YtckcoleaoleadaaCmHeap
import Derived.Laws.IdiomArrays
import Derived.ProofKit
import Derived.OpenShut
namespace Go.Proofs.Ytckcoleaoleadaa.Cm
open Go.ChangeShapes Go.WideShapes Go.ChangeAt Go.RowKit
set_option linter.unusedVariables false

theorem cellsByte' : Try.prog.cellsOf 5 = 1 := by kernel_rfl
theorem cellsBytes4' : Try.prog.cellsOf 41 = 4 := by kernel_rfl
theorem byte_lit {x : Int} (h : (Lit.int .u8 x).wf = true) : ∃ b : UInt8, x = (b.toNat : Int) := by
  have b1 : 0 ≤ x ∧ x ≤ 255 := by simpa [Lit.wf, IntKind.min, IntKind.max, IntKind.signed, IntKind.bits] using h
  refine ⟨UInt8.ofNat x.toNat, ?_⟩
  simp
  omega
theorem open_bytes4 {H : Type} {enc : TypeId × Value → H} {W : World} {base b0 : Nat} {spare : Nat → Bool} {held : Bool} {r : Reach} {v : Value} {d : DataW H} {p : List MemPlace} (hval : Value.okWide Try.prog W r b0 41 v) (h : DataW.Trod enc Try.prog W base spare held 41 v d p) :
    ∃ b0 b1 b2 b3 : UInt8, v = .agg #[B8 b0, B8 b1, B8 b2, B8 b3] := by
  obtain ⟨cs, rfl, hsz, _⟩ : ∃ cs, v = .agg cs ∧ cs.size = Try.prog.cellsOf 41 ∧ Row.okWide Try.prog W r b0 41 cs := by
    simpa [Value.okWide, Try.underlying41] using hval
  rw [cellsBytes4'] at hsz
  obtain ⟨l⟩ := cs
  obtain ⟨c0, c1, c2, c3, rfl⟩ : ∃ c0 c1 c2 c3, l = [c0, c1, c2, c3] := by
    match l, hsz with
    | [c0, c1, c2, c3], _ => exact ⟨c0, c1, c2, c3, rfl⟩
  obtain ⟨fuel, hf⟩ := h
  obtain ⟨y0, y1, y2, y3, m, hx, hy0, hy1, hy2, hy3⟩ := trod_array4 Try.underlying41 cellsByte' hf
  obtain ⟨x0, e0, rfl, w0⟩ := DataW.trod_int Try.underlying5 hy0
  obtain ⟨x1, e1, rfl, w1⟩ := DataW.trod_int Try.underlying5 hy1
  obtain ⟨x2, e2, rfl, w2⟩ := DataW.trod_int Try.underlying5 hy2
  obtain ⟨x3, e3, rfl, w3⟩ := DataW.trod_int Try.underlying5 hy3
  simp at e0 e1 e2 e3
  subst e0 e1 e2 e3
  obtain ⟨a0, rfl⟩ := byte_lit w0
  obtain ⟨a1, rfl⟩ := byte_lit w1
  obtain ⟨a2, rfl⟩ := byte_lit w2
  obtain ⟨a3, rfl⟩ := byte_lit w3
  exact ⟨a0, a1, a2, a3, rfl⟩

end Go.Proofs.Ytckcoleaoleadaa.Cm
