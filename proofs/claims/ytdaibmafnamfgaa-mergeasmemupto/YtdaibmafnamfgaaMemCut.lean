/-
  What a table owns, cut to a moment: what it owned then, and whatever comes later.
-/
import Derived.Test.YtdaibmafnamfgaaMemNew
namespace Go.Proofs.Ytdaibmafnamfgaa.Mm
open Go.RowKit Cm
set_option linter.unusedVariables false

/-- What S owned at w, and whatever comes behind w'. -/
def Cut (S : Nat → Prop) (w w' : World) (k : Nat) : Prop := (S k ∧ k < w.heap.size) ∨ w'.heap.size ≤ k
theorem Cut.new {S : Nat → Prop} {w w' : World} {k : Nat} (h : w'.heap.size ≤ k) : Cut S w w' k := .inr h
theorem Cut.lo {S : Nat → Prop} {w w' : World} {B k : Nat} (hS : ∀ k, S k → B ≤ k) (hB : B ≤ w'.heap.size) (h : Cut S w w' k) : B ≤ k := h.elim (fun e => hS k e.1) (Nat.le_trans hB)
theorem Cut.out {S : Nat → Prop} {w w' : World} {k : Nat} (h1 : w.heap.size ≤ k) (h2 : k < w'.heap.size) : ¬ Cut S w w' k := fun h => h.elim (fun e => by omega) (fun e => by omega)
theorem Cut.not {S : Nat → Prop} {w w' : World} {k : Nat} (h1 : ¬ S k) (h2 : k < w'.heap.size) : ¬ Cut S w w' k := fun h => h.elim (fun e => h1 e.1) (fun e => by omega)
theorem Tab.cutTo {S : Nat → Prop} {w w' : World} {b : Nat} {vs : List En} (h : Tab w S b vs) (hb : Below w.heap.size w w') : Tab w' (Cut S w w') b vs :=
  Tab.mono ((h.mono (T := fun k => S k ∧ k < w.heap.size) fun k e hk => ⟨e, hk⟩).below hb) fun k e _ => .inl e
end Go.Proofs.Ytdaibmafnamfgaa.Mm
