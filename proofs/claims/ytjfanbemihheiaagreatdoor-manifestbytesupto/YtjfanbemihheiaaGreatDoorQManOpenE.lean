/-
  An edit that came in by value, opened into a plain one.
-/
import Derived.Test.YtjfanbemihheiaaGreatDoorQManOpen
namespace Go.Proofs.YtjfanbemihheiaaGreatDoor.Ma
open Go.ChangeShapes Go.WideShapes Go.ChangeAt Go.RowKit Go.Deep Cm
set_option linter.unusedVariables false

section
variable {H : Type} {enc : TypeId × Value → H} {w : World} {base : Nat} {spare : Nat → Bool} {held : Bool}
set_option maxRecDepth 100000 in
theorem open_edit {b0 : Nat} {r : Reach} {v : Value} {d : DataW H} {p : List MemPlace} (hval : Value.okWide Tryz.prog w r b0 30 v) (h : DataW.Trod enc Tryz.prog w base spare held 30 v d p) (hbu : Rows.uptoBulk d ≤ 50000000000) :
    ∃ x : Ei, v = edV (.slice x.aa x.e.add.length x.ca) (.slice x.ad x.e.del.length x.cd) x.e ∧ EiAt w x ∧ x.e.add.length + x.e.del.length + 1 ≤ Rows.uptoBulk d := by
  obtain ⟨cs, rfl, hsz⟩ := okWide_struct Tryz.underlying30 hval
  rw [cellsEd] at hsz
  obtain ⟨l⟩ := cs
  obtain ⟨v0, v1, v2, v3, v4, rfl⟩ : ∃ c0 c1 c2 c3 c4, l = [c0, c1, c2, c3, c4] := by
    match l, hsz with
    | [c0, c1, c2, c3, c4], _ => exact ⟨c0, c1, c2, c3, c4, rfl⟩
  obtain ⟨fuel, hf⟩ := h
  obtain ⟨x, rfl, rfl, rfl, rfl, rfl, h1, h2⟩ := open_edit5 (by simpa [Value.cells] using hf) hbu
  exact ⟨x, rfl, h1, h2⟩
end
end Go.Proofs.YtjfanbemihheiaaGreatDoor.Ma
