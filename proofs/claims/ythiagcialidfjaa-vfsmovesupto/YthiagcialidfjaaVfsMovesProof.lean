/-
  A file that is given another name has its bytes there, synced as they were, and other files are untouched: the law VfsMoves answers true for every input of at most 1048576 values and letters.
-/
import Derived.Test.YthiagcialidfjaaRows
import Derived.Test.YthiagcialidfjaaVfsMovesWalk
import Derived.JoinedCond
import Derived.Carry
import Derived.ShutString
import Derived.ProofKit
import Derived.OpenShut
namespace Go.Proofs.Ythiagcialidfjaa.vfsMoves
open Go.ChangeShapes Go.WideShapes Go.ChangeAt Go.RowKit
open Go.ChangeMaps (open_string shut_string)
set_option linter.unusedVariables false

theorem own : ownKnob Try.prog.godebug = none := by kernel_rfl
theorem laidOut : laidOutB Try.prog = true := by kernel_rfl

theorem contract (H : Type) (enc : TypeId × Value → H) (W : World) (base : Nat) (args : Array Value) (ds gs : List (DataW H)) (before : List MemPlace)
    (hval : ∀ (j : Nat) t v, Try.f6.params[j]? = some t → args[j]? = some v → Value.okWide Try.prog W .any base t v)
    (hW : DataW.Whole enc Try.prog Try.f6.params.toList Rows.vfsMovesSpec.vars false W args.toList ds gs before) (hk : Rows.uptoSmall H (ds ++ gs) = true) :
    Calls Try.prog 6 args W fun e W' => ∃ v, e = .returned v ∧ Rows.vfsMovesSpec.post enc Try.prog Try.f6 false true false false W args v W' := by
  have hW' := hW
  obtain ⟨p, q, hA0, hV, rfl, hfz, hnd⟩ := hW
  have hA : DataW.TrodAll enc Try.prog W 0 (fun _ => true) true Try.f6.params.toList args.toList ds p := hA0
  rw [Try.params6] at hA hval
  obtain ⟨v0, vs0, d0, ds0, p0, q0, hargs, rfl, rfl, h0, r0⟩ := trodAll_cons hA
  obtain ⟨v1, vs1, d1, ds1, p1, q1, rfl, rfl, rfl, h1, r1⟩ := trodAll_cons r0
  obtain ⟨v2, vs2, d2, ds2, p2, q2, rfl, rfl, rfl, h2, r2⟩ := trodAll_cons r1
  obtain ⟨rfl, rfl, rfl⟩ := trodAll_nil r2
  obtain rfl : args = #[v0, v1, v2] := by cases args; simp_all
  obtain ⟨rfl, rfl⟩ := trodVars_none hV
  obtain ⟨T0, rfl, rfl, rfl, hT0⟩ := open_string Try.underlying9 (hval 0 9 v0 rfl rfl) h0
  have t0 : T0.size ≤ 9223372036854775807 := by have := hT0; unfold maxLen at this; omega
  have l0 : T0.size + 1 ≤ Rows.uptoBulk (.lit (.string T0.data.toList) : DataW H) := by rw [Lib.size_eq]; simp [Rows.uptoBulk]
  obtain ⟨T1, rfl, rfl, rfl, hT1⟩ := open_string Try.underlying9 (hval 1 9 v1 rfl rfl) h1
  have t1 : T1.size ≤ 9223372036854775807 := by have := hT1; unfold maxLen at this; omega
  have l1 : T1.size + 1 ≤ Rows.uptoBulk (.lit (.string T1.data.toList) : DataW H) := by rw [Lib.size_eq]; simp [Rows.uptoBulk]
  obtain ⟨T2, rfl, rfl, rfl, hT2⟩ := open_string Try.underlying9 (hval 2 9 v2 rfl rfl) h2
  have t2 : T2.size ≤ 9223372036854775807 := by have := hT2; unfold maxLen at this; omega
  have l2 : T2.size + 1 ≤ Rows.uptoBulk (.lit (.string T2.data.toList) : DataW H) := by rw [Lib.size_eq]; simp [Rows.uptoBulk]
  have hb := of_decide_eq_true hk
  simp only [List.append_nil, Rows.uptoBulkAll] at hb
  clear hA0 hk
  refine (Vf.moves_walk T0 T1 T2 W (by omega)).mono fun e W' ⟨he, bel⟩ => ?_
  subst he
  exact ⟨_, rfl, _, _, _, [], _, [], hW', trodAll_mk1 (shut_bool Try.underlying4 _), (trodAll_cons_mk (shut_string Try.underlying9 hT0) (trodAll_cons_mk (shut_string Try.underlying9 hT1) (trodAll_cons_mk (shut_string Try.underlying9 hT2) trodAll_mk0))), rfl, bel.frame _, fun h => by cases h⟩

set_option maxRecDepth 100000 in
theorem lifted (os : Os) (started : os.Started) (H : Type) (enc : TypeId × Value → H) (F : Stop.Interp) :
    ReturnsInHanded {} Try.checked os 6 .any ((Rows.OpenSpec.upto Rows.vfsMovesSpec).pre6 enc Try.prog Try.f6 Rows.vfsMovesUptoRow.domain false) (((Rows.OpenSpec.upto Rows.vfsMovesSpec).at F).post enc Try.prog Try.f6 false true false false) := by
  refine returnsInHanded_of_cond (C := Try.checked) (s := Rows.OpenSpec.upto Rows.vfsMovesSpec) (k := Rows.uptoSmall) rfl own started (by kernel_rfl) Try.func6
    (OpenSpec.witness (enc := enc) (C := Try.checked) (s := Rows.OpenSpec.upto Rows.vfsMovesSpec) (k := Rows.uptoSmall) rfl false ⟨#[], #[.string ⟨#[]⟩, .string ⟨#[]⟩, .string ⟨#[]⟩], []⟩ 8 (by kernel_rfl) (by kernel_rfl) (by kernel_rfl)
      (x := ([.lit (.string []), .lit (.string []), .lit (.string [])], [], [])) (by kernel_rfl) rfl (by kernel_rfl)) ?_
  intro W base args ds gs before hval hW _ hk _
  exact contract H enc W base args ds gs before hval hW hk

theorem over : Rows.vfsMovesUptoRow.holds Try.pinned (Rows.OpenSpec.upto Rows.vfsMovesSpec) :=
  OpenClaim.holds_of_cond 6 Try.f6 rfl rfl rfl rfl rfl rfl rfl ⟨rfl, rfl, rfl, rfl, rfl⟩ rfl rfl rfl rfl rfl (by kernel_rfl) Try.func6 (by kernel_rfl)
    (of_decide_eq_true (by kernel_rfl)) (by unfold Func.isWrapper; first | (rw [if_pos (by decide +kernel)]; kernel_rfl) | (rw [if_neg (by decide +kernel)]; exact ⟨rfl, rfl⟩))
    (fun os started H enc _ F => lifted os started H enc F)
end Go.Proofs.Ythiagcialidfjaa.vfsMoves

namespace Go.Proofs.Ythiagcialidfjaa
theorem vfsMoves_holds : Rows.VfsMovesUptoSaid := vfsMoves.over
end Go.Proofs.Ythiagcialidfjaa
