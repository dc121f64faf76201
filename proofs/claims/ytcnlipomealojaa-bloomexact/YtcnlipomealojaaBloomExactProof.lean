/-
  Proved: whatever keys, filter and key are handed in, the statement BloomExact answers true (filters and what they say of keys are, bit by bit, what the document says; the list stays), and the arguments stay. Conditions: none.
-/
import Derived.Test.YtcnlipomealojaaRows
import Derived.Test.YtcnlipomealojaaCmOpen
import Derived.Test.YtcnlipomealojaaBloomExactWalk
import Derived.SizedLaws
import Derived.Carry
import Derived.ShutString
import Derived.ProofKit
import Derived.OpenShut
namespace Go.Proofs.Ytcnlipomealojaa.bloomExact
open Go.ChangeShapes Go.WideShapes Go.ChangeAt Go.RowKit
open Go.ChangeMaps (open_string shut_string)
set_option linter.unusedVariables false

theorem own : ownKnob Try.prog.godebug = none := by kernel_rfl
theorem laidOut : laidOutB Try.prog = true := by kernel_rfl

theorem bytesStr : Try.prog.bytesOf 9 = 16 := by kernel_rfl

set_option maxRecDepth 100000 in
theorem lifted (os : Os) (started : os.Started) (H : Type) (enc : TypeId × Value → H) :
    ReturnsInHanded {} Try.checked os 3 .any (Rows.bloomExactSpec.pre6 enc Try.prog Try.f3 Rows.bloomExactRow.domain false) (Rows.bloomExactSpec.post enc Try.prog Try.f3 false true false false) := by
  refine returnsInHanded_of_change_sized (C := Try.checked) own started (by kernel_rfl) Try.func3
    (ChangeSpec.witness6 (enc := enc) (C := Try.checked) false ⟨#[], #[.slice none 0 0, .string ⟨#[]⟩, .string ⟨#[]⟩], []⟩ 8 (by kernel_rfl) (by kernel_rfl) (by kernel_rfl) (by kernel_rfl)) ?_
  intro W base args ds gs before hval0 hW hcnd hsz0 _
  have hval : ∀ (j : Nat) t v, Try.f3.params[j]? = some t → args[j]? = some v → Value.okWide Try.prog W .any base t v := hval0
  have hsz : (DataW.weightsEach Try.prog (Try.f3.params.toList ++ Rows.bloomExactSpec.plain.varTypes Try.prog) (ds ++ gs)).all (· ≤ reachBytes) = true := hsz0
  have hW' := hW
  obtain ⟨p, q, hA0, hV, rfl, hfz, hnd⟩ := hW
  have hA : DataW.TrodAll enc Try.prog W 0 (fun _ => true) true Try.f3.params.toList args.toList ds p := hA0
  rw [Try.params3] at hA hval hsz
  obtain ⟨v0, vs0, d0, ds0, p0, q0, hargs, rfl, rfl, h0, r0⟩ := trodAll_cons hA
  obtain ⟨v1, vs1, d1, ds1, p1, q1, rfl, rfl, rfl, h1, r1⟩ := trodAll_cons r0
  obtain ⟨v2, vs2, d2, ds2, p2, q2, rfl, rfl, rfl, h2, r2⟩ := trodAll_cons r1
  obtain ⟨rfl, rfl, rfl⟩ := trodAll_nil r2
  obtain rfl : args = #[v0, v1, v2] := by cases args; simp_all
  obtain ⟨rfl, rfl⟩ := trodVars_none hV
  obtain ⟨a0, len0, cap0, rfl⟩ := okWide_slice Try.underlying22 (hval 0 22 v0 rfl rfl)
  have k0 := h0
  have lt0 : ∀ x ∈ p0, x.block < W.heap.size := by obtain ⟨m, hm⟩ := k0; exact DataW.trod_lt m _ _ _ hm
  obtain ⟨f0, hf0⟩ := h0
  obtain ⟨xs0, rfl, c0, ok0, hd0, n0⟩ := Cm.open_strl (by simpa [Value.cells] using hf0)
  have z0 : xs0.length ≤ 8796093021952 := by
    rcases hd0 with hd | ⟨rest, hd⟩
    · omega
    · subst hd
      have := sized_slice hsz (j := 0) rfl rfl Try.underlying22
      rw [bytesStr] at this
      simp only [List.length_map, reachBytes] at this
      omega
  have s0 : ∀ x ∈ xs0, x.size ≤ 9223372036854775807 := fun x hx => by have := ok0 x hx; unfold maxLen at this; omega
  obtain ⟨T1, rfl, rfl, rfl, hT1⟩ := open_string Try.underlying9 (hval 1 9 v1 rfl rfl) h1
  have t1 : T1.size ≤ 9223372036854775807 := by have := hT1; unfold maxLen at this; omega
  have z1 : T1.size ≤ 140737488351232 := by
    have := sized_string hsz (j := 1) rfl rfl
    rw [Lib.size_eq]
    simpa [reachBytes] using this
  obtain ⟨T2, rfl, rfl, rfl, hT2⟩ := open_string Try.underlying9 (hval 2 9 v2 rfl rfl) h2
  have t2 : T2.size ≤ 9223372036854775807 := by have := hT2; unfold maxLen at this; omega
  have z2 : T2.size ≤ 140737488351232 := by
    have := sized_string hsz (j := 2) rfl rfl
    rw [Lib.size_eq]
    simpa [reachBytes] using this
  clear hA0 hd0 hsz hsz0 hval0
  refine (Bl.exact_walk a0 cap0 xs0 T1 T2 W c0 n0 z0 s0 z1 z2).mono fun e W' ⟨he, bel⟩ => ?_
  subst he
  exact ⟨_, rfl, _, _, _, [], _, [], hW', trodAll_mk1 (shut_bool Try.underlying4 _), (trodAll_cons_mk (Below.trod laidOut (by kernel_rfl) (of_decide_eq_true (by kernel_rfl)) k0 bel lt0) (trodAll_cons_mk (shut_string Try.underlying9 hT1) (trodAll_cons_mk (shut_string Try.underlying9 hT2) trodAll_mk0))), rfl, bel.frame _, fun h => by cases h⟩

theorem over : Rows.bloomExactRow.holds Try.pinned (OpenSpec.ofChange Rows.bloomExactSpec) :=
  OpenClaim.holds_of_wide 3 Try.f3 rfl rfl rfl rfl rfl rfl rfl ⟨rfl, rfl, rfl, rfl, rfl⟩ rfl rfl rfl rfl rfl (by kernel_rfl) Try.func3 (by kernel_rfl)
    (of_decide_eq_true (by kernel_rfl)) (by unfold Func.isWrapper; first | (rw [if_pos (by decide +kernel)]; kernel_rfl) | (rw [if_neg (by decide +kernel)]; exact ⟨rfl, rfl⟩))
    (fun os started H enc _ => lifted os started H enc)
end Go.Proofs.Ytcnlipomealojaa.bloomExact

namespace Go.Proofs.Ytcnlipomealojaa
theorem bloomExact_holds : Rows.BloomExactSaid := bloomExact.over
end Go.Proofs.Ytcnlipomealojaa
