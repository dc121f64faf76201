/-
  Proved: whatever lists of numbers, whole numbers and texts are handed in, of bulk at most 1048576 together, the statement PackLists answers true (the calls that take many things write just what one thing after the other would), and the lists stay. Condition: the bound on the bulk.
-/
import Derived.Test.YtnhmabhcegiekaaPackOpen
import Derived.Test.YtnhmabhcegiekaaPackListsWalk
import Derived.JoinedCond
import Derived.Carry
namespace Go.Proofs.Ytnhmabhcegiekaa.packLists
open Go.ChangeShapes Go.WideShapes Go.ChangeAt Go.RowKit
set_option linter.unusedVariables false

theorem own : ownKnob Try.prog.godebug = none := by kernel_rfl
theorem laidOut : laidOutB Try.prog = true := by kernel_rfl

/-- A part's bulk, of a datum that is a slice or nil. -/
theorem part {H α : Type} {f : α → DataW H} {xs : List α} {d : DataW H} (hd : (xs.length = 0 ∧ d = .nil) ∨ ∃ rest, d = .slice (xs.map f) rest) : Rows.uptoBulkAll (xs.map f) ≤ Rows.uptoBulk d := by
  rcases hd with ⟨h, _⟩ | ⟨rest, rfl⟩
  · rw [List.eq_nil_of_length_eq_zero h]; simp [Rows.uptoBulkAll]
  · simp only [Rows.uptoBulk]; omega

theorem contract (H : Type) (enc : TypeId × Value → H) (W : World) (base : Nat) (args : Array Value) (ds gs : List (DataW H)) (before : List MemPlace)
    (hval : ∀ (j : Nat) t v, Try.f7.params[j]? = some t → args[j]? = some v → Value.okWide Try.prog W .any base t v)
    (hW : DataW.Whole enc Try.prog Try.f7.params.toList Rows.packListsSpec.vars false W args.toList ds gs before) (hk : Rows.uptoSmall H (ds ++ gs) = true) :
    Calls Try.prog 7 args W fun e W' => ∃ v, e = .returned v ∧ Rows.packListsSpec.post enc Try.prog Try.f7 false true false false W args v W' := by
  have hW' := hW
  obtain ⟨p, q, hA0, hV, rfl, hfz, hnd⟩ := hW
  have hA : DataW.TrodAll enc Try.prog W 0 (fun _ => true) true Try.f7.params.toList args.toList ds p := hA0
  rw [Try.params7] at hA hval
  obtain ⟨v0, vs0, d0, ds0, p0, q0, hargs, rfl, rfl, h0, r0⟩ := trodAll_cons hA
  obtain ⟨v1, vs1, d1, ds1, p1, q1, rfl, rfl, rfl, h1, r1⟩ := trodAll_cons r0
  obtain ⟨v2, vs2, d2, ds2, p2, q2, rfl, rfl, rfl, h2, r2⟩ := trodAll_cons r1
  obtain ⟨rfl, rfl, rfl⟩ := trodAll_nil r2
  obtain rfl : args = #[v0, v1, v2] := by cases args; simp_all
  obtain ⟨rfl, rfl⟩ := trodVars_none hV
  obtain ⟨a0, len0, cap0, rfl⟩ := okWide_slice Try.underlying57 (hval 0 57 v0 rfl rfl)
  obtain ⟨a1, len1, cap1, rfl⟩ := okWide_slice Try.underlying58 (hval 1 58 v1 rfl rfl)
  obtain ⟨a2, len2, cap2, rfl⟩ := okWide_slice Try.underlying59 (hval 2 59 v2 rfl rfl)
  have k0 := h0
  have k1 := h1
  have k2 := h2
  have lt0 : ∀ x ∈ p0, x.block < W.heap.size := by obtain ⟨m, hm⟩ := k0; exact DataW.trod_lt m _ _ _ hm
  have lt1 : ∀ x ∈ p1, x.block < W.heap.size := by obtain ⟨m, hm⟩ := k1; exact DataW.trod_lt m _ _ _ hm
  have lt2 : ∀ x ∈ p2, x.block < W.heap.size := by obtain ⟨m, hm⟩ := k2; exact DataW.trod_lt m _ _ _ hm
  obtain ⟨f0, hf0⟩ := h0
  obtain ⟨f1, hf1⟩ := h1
  obtain ⟨f2, hf2⟩ := h2
  obtain ⟨ns, rfl, cN, okN, hd0, nN⟩ := Pk.open_nums (by simpa [Value.cells] using hf0)
  obtain ⟨is, rfl, cI, okI, hd1, nI⟩ := Pk.open_intl (by simpa [Value.cells] using hf1)
  obtain ⟨ss, rfl, cS, okS, hd2, nS⟩ := Pk.open_strl (by simpa [Value.cells] using hf2)
  have hb := of_decide_eq_true hk
  simp only [List.append_nil, Rows.uptoBulkAll] at hb
  have b0 : Rows.uptoBulkAll (ns.map Pk.numData) ≤ Rows.uptoBulk d0 := part hd0
  have b1 : Rows.uptoBulkAll (is.map Pk.intData) ≤ Rows.uptoBulk d1 := part hd1
  have b2 : Rows.uptoBulkAll (ss.map Pk.strData) ≤ Rows.uptoBulk d2 := part hd2
  have l0 := Pk.bulk_lits (H := H) Pk.numData ns (fun x => by simp [Pk.numData, Rows.uptoBulk])
  have l1 := Pk.bulk_lits (H := H) Pk.intData is (fun x => by simp [Pk.intData, Rows.uptoBulk])
  have l2 := Pk.bulk_strs (H := H) ss
  have m2 : ∀ k, k ≤ ss.length → (ss.getD k ByteArray.empty).size ≤ 1048576 := fun k _ => by have := l2.2.2 k; omega
  clear hA0 hd0 hd1 hd2 hk
  refine (Pk.lists_walk a0 a1 a2 cap0 cap1 cap2 ns is ss W cN cI cS nN nI nS okN okI (by omega) (by omega) (by omega) (by omega) m2).mono fun e W' ⟨he, bel⟩ => ?_
  subst he
  exact ⟨_, rfl, _, _, _, [], _, [], hW', trodAll_mk1 (shut_bool Try.underlying4 _), (trodAll_cons_mk (Below.trod laidOut (by kernel_rfl) (of_decide_eq_true (by kernel_rfl)) k0 bel lt0) (trodAll_cons_mk (Below.trod laidOut (by kernel_rfl) (of_decide_eq_true (by kernel_rfl)) k1 bel lt1) (trodAll_cons_mk (Below.trod laidOut (by kernel_rfl) (of_decide_eq_true (by kernel_rfl)) k2 bel lt2) trodAll_mk0))), rfl, bel.frame _, fun h => by cases h⟩

set_option maxRecDepth 100000 in
theorem lifted (os : Os) (started : os.Started) (H : Type) (enc : TypeId × Value → H) (F : Stop.Interp) :
    ReturnsInHanded {} Try.checked os 7 .any ((Rows.OpenSpec.upto Rows.packListsSpec).pre6 enc Try.prog Try.f7 Rows.packListsUptoRow.domain false) (((Rows.OpenSpec.upto Rows.packListsSpec).at F).post enc Try.prog Try.f7 false true false false) := by
  refine returnsInHanded_of_cond (C := Try.checked) (s := Rows.OpenSpec.upto Rows.packListsSpec) (k := Rows.uptoSmall) rfl own started (by kernel_rfl) Try.func7
    (OpenSpec.witness (enc := enc) (C := Try.checked) (s := Rows.OpenSpec.upto Rows.packListsSpec) (k := Rows.uptoSmall) rfl false ⟨#[], #[.slice none 0 0, .slice none 0 0, .slice none 0 0], []⟩ 8 (by kernel_rfl) (by kernel_rfl) (by kernel_rfl)
      (x := ([.nil, .nil, .nil], [], [])) (by kernel_rfl) rfl (by kernel_rfl)) ?_
  intro W base args ds gs before hval hW _ hk _
  exact contract H enc W base args ds gs before hval hW hk

theorem over : Rows.packListsUptoRow.holds Try.pinned (Rows.OpenSpec.upto Rows.packListsSpec) :=
  OpenClaim.holds_of_cond 7 Try.f7 rfl rfl rfl rfl rfl rfl rfl ⟨rfl, rfl, rfl, rfl, rfl⟩ rfl rfl rfl rfl rfl (by kernel_rfl) Try.func7 (by kernel_rfl)
    (of_decide_eq_true (by kernel_rfl)) (by unfold Func.isWrapper; first | (rw [if_pos (by decide +kernel)]; kernel_rfl) | (rw [if_neg (by decide +kernel)]; exact ⟨rfl, rfl⟩))
    (fun os started H enc _ F => lifted os started H enc F)
end Go.Proofs.Ytnhmabhcegiekaa.packLists

namespace Go.Proofs.Ytnhmabhcegiekaa
theorem packLists_holds : Rows.PackListsUptoSaid := packLists.over
end Go.Proofs.Ytnhmabhcegiekaa
