/-
  The texts TableRefKeys.
-/
import Derived.Test.YtedjohkdfchocaaQTableRefBlocks
import Derived.BigQuiet

/-
  The document's answer for layer 9: the keys, each once.
-/
namespace Go.Proofs.Ytedjohkdfchocaa.Tb
open Go.RowKit Cm Mm Bk
set_option linter.unusedVariables false

theorem infoStrR : (Try.prog.info? 9).map (fun i => (i.zero, i.size, i.bytes)) = some (some (.string ⟨#[]⟩), 1, 16) := by kernel_rfl
theorem strVals_snoc (xs : List ByteArray) (x : ByteArray) : strVals (xs ++ [x]) = strVals xs ++ [.string x] := by simp [strVals]
set_option maxRecDepth 100000 in
set_option maxHeartbeats 1000000 in
theorem keysR_any (ao : Option Addr) (ca : Nat) (es : List En) (w : World) (hx : ElemsAt enShape w ao es) (hl : es.length ≤ 1000000000) :
    Calls Try.prog 27 #[.slice ao es.length ca] w fun e w' => (∃ v, e = .returned v ∧ w'.ownsRow w.heap.size 9 1 v (keysE es).length (strVals (keysE es))) ∧ Below w.heap.size w w' := by
  obtain ⟨i0, hi, hz0, hz1, hz2⟩ := info_parts infoStrR
  have HX : Hid (∀ X, Below w.heap.size w X → ElemsAt enShape X ao es) := fun X hb => hx.later hb
  clear hx
  go_enter Try.func27, Try.ntmps27
  go_wp2
  go_loopw [3, 8] (fun v i wr => ∃ k m : Nat, i = .int .i64 k ∧ k ≤ es.length ∧ m ≤ k ∧ Hid (m = (ks es k).length) ∧ Hid (wr.ownsRow w.heap.size 9 1 v m (strVals (ks es k))) ∧ Hid (Below w.heap.size w wr)) (fun _ i _ => es.length - (intOf i).toNat)
  case atStart => exact ⟨0, 0, rfl, by omega, by omega, rfl, World.ownsRow_nil _ _ _ _, Below.refl _ _⟩
  case round =>
    obtain ⟨k, m, rfl, hk, hmk, HM, HO, HB⟩ := hrel
    by_cases hlt : k < es.length
    · have hsz := HB.out.size
      obtain ⟨pb, off, rfl, c0, c1, c2, c3⟩ := elem_cells (HX.out wr HB.out) hlt
      have hk0 : (0 : Int) ≤ (k : Int) := by omega
      have hk1 : (k : Int) < (es.length : Int) := by omega
      obtain ⟨X, hX⟩ : ∃ X, X = wr.alloc (entObj (es.getD k En.zero)) := ⟨_, rfl⟩
      have q3 : X.heap[wr.heap.size]? = some (entObj (es.getD k En.zero)) := by rw [hX]; exact heap_alloc_new _ _
      obtain ⟨n0, n1, n2, n3, _⟩ := ent_cells q3
      have HBX : Hid (Below w.heap.size w X) := by rw [hX]; exact HB.out.alloc hsz _
      have hszX : w.heap.size ≤ X.heap.size := HBX.out.size
      have HOX : Hid (X.ownsRow w.heap.size 9 1 u3 m (strVals (ks es k))) := by rw [hX]; exact World.ownsRow.alloc HO.out _
      have HKN : Hid (fresh es k = true → ks es (k + 1) = ks es k ++ [(es.getD k En.zero).key]) := fun h => ks_new h
      have HKO : Hid (fresh es k = false → ks es (k + 1) = ks es k) := fun h => ks_old h
      have HF : Hid (fresh es k = (decide (k = 0) || !decide ((es.getD (k - 1) En.zero).key = (es.getD k En.zero).key))) := rfl
      have HP : Hid (∀ j, j + 1 = k → X.cell? ⟨pb, off + j * 4, none⟩ = some (.string (es.getD (k - 1) En.zero).key)) := fun j hj => by
        obtain ⟨p2, o2, e2, d0, _⟩ := elem_cells (HX.out X HBX.out) (k := j) (by omega)
        cases e2
        rw [d0]
        congr 4
        omega
      unfold entObj at hX
      clear q3 HO HB HX
      generalize es.getD k En.zero = y at *
      generalize es.getD (k - 1) En.zero = z at *
      rw [hX] at n0 n1 n2 n3
      by_cases hz : k = 0
      · have hb0 : ((k : Int) == 0) = true := by simp; omega
        have HKS : Hid (ks es (k + 1) = ks es k ++ [y.key]) := HKN.out (by rw [HF.out, hz]; rfl)
        clear HKN HKO HF HP hz
        go_wp2_with fail
        go_quiet (fail)
        rw [← hX]
        have HOY : Hid ((X.drewN nq).ownsRow w.heap.size 9 1 u3 m (strVals (ks es k))) := HOX.out
        have HBY : Hid (Below w.heap.size w (X.drewN nq)) := HBX.out.trans ⟨rfl, rfl, rfl, Nat.le_refl _, fun _ _ => rfl⟩
        have hszY : w.heap.size ≤ (X.drewN nq).heap.size := hszX
        have y0 : (X.drewN nq).cell? ⟨wr.heap.size, 0, none⟩ = some (.string y.key) := by rw [← hX] at n0; exact n0
        clear n0 n1 n2 n3 c0 c1 c2 c3 HOX HBX hX hszX
        generalize X.drewN nq = Y at *
        go_wp2_with (at_builtin; refine wpList_append_any _ rfl _ _ 24 rfl w.heap.size 9 i0 _ 16 Try.underlying24 hi hz0 hz1 hz2 rfl u3 m (strVals (ks es k)) rfl (World.ownsRow.alloc HOY.out _) (some ⟨Y.heap.size, 0, none⟩) 1 1 [.string y.key] rfl (by simp) rfl (cell_slice Y (.string y.key) 9) (by intro u hu; simp at hu; subst hu; rfl) ?d1 ?d2 ?d3 ?_)
        case d1 => unfold maxLen; omega
        case d2 => omega
        case d3 => simp; omega
        intro v3 w3 hown3 hgrow3 hat3
        have HO3 : Hid (w3.ownsRow w.heap.size 9 1 v3 (m + 1) (strVals (ks es (k + 1)))) := by rw [HKS.out, strVals_snoc]; exact hown3
        have HB3 : Hid (Below w.heap.size w w3) := (HBY.out.alloc hszY _).grown hgrow3 (by simp; omega) (fun j hj => (World.ownsRow.lt HOY.out j hj).1)
        clear hown3 hgrow3 hat3 HOY HBY
        go_wp2
        go_roundw
        case rel => exact ⟨k + 1, m + 1, by go_num, by omega, by omega, (by show m + 1 = _; rw [HKS.out, List.length_append, ← HM.out]; rfl), HO3, HB3⟩
        case measure => simp [intOf]; omega
      · obtain ⟨j, hj⟩ : ∃ j, j + 1 = k := ⟨k - 1, by omega⟩
        have hb0 : ((k : Int) == 0) = false := by simp; omega
        have d0 := HP.out j hj
        rw [hX] at d0
        have hj0 : (0 : Int) ≤ (j : Int) := by omega
        have hj1 : (j : Int) < (es.length : Int) := by omega
        have hw : IntKind.i64.wrap ((k : Int) - 1) = (j : Int) := wrap_nat (by omega) (by omega)
        have hdk : decide (k = 0) = false := by simp; omega
        rw [hdk] at HF
        clear hz HP hj hdk
        have hbk := beq_toList z.key y.key
        by_cases hzy : z.key = y.key
        · have HKS : Hid (ks es (k + 1) = ks es k) := HKO.out (by rw [HF.out, decide_eq_true hzy]; rfl)
          rw [decide_eq_true hzy] at hbk
          clear HKN HKO HF hzy
          go_wp2_with fail
          go_quiet (fail)
          rw [← hX]
          have HOY : Hid ((X.drewN nq).ownsRow w.heap.size 9 1 u3 m (strVals (ks es (k + 1)))) := by rw [HKS.out]; exact HOX.out
          have HBY : Hid (Below w.heap.size w (X.drewN nq)) := HBX.out.trans ⟨rfl, rfl, rfl, Nat.le_refl _, fun _ _ => rfl⟩
          clear n0 n1 n2 n3 c0 c1 c2 c3 HOX HBX hX hszX
          generalize X.drewN nq = Y at *
          go_wp2
          go_roundw
          case rel => exact ⟨k + 1, m, by go_num, by omega, by omega, (by show m = _; rw [HKS.out]; exact HM.out), HOY, HBY⟩
          case measure => simp [intOf]; omega
        · have HKS : Hid (ks es (k + 1) = ks es k ++ [y.key]) := HKN.out (by rw [HF.out, decide_eq_false hzy]; rfl)
          rw [decide_eq_false hzy] at hbk
          clear HKN HKO HF hzy
          go_wp2_with fail
          go_quiet (fail)
          rw [← hX]
          have HOY : Hid ((X.drewN nq).ownsRow w.heap.size 9 1 u3 m (strVals (ks es k))) := HOX.out
          have HBY : Hid (Below w.heap.size w (X.drewN nq)) := HBX.out.trans ⟨rfl, rfl, rfl, Nat.le_refl _, fun _ _ => rfl⟩
          have hszY : w.heap.size ≤ (X.drewN nq).heap.size := hszX
          have y0 : (X.drewN nq).cell? ⟨wr.heap.size, 0, none⟩ = some (.string y.key) := by rw [← hX] at n0; exact n0
          clear n0 n1 n2 n3 c0 c1 c2 c3 HOX HBX hX hszX
          generalize X.drewN nq = Y at *
          go_wp2_with (at_builtin; refine wpList_append_any _ rfl _ _ 24 rfl w.heap.size 9 i0 _ 16 Try.underlying24 hi hz0 hz1 hz2 rfl u3 m (strVals (ks es k)) rfl (World.ownsRow.alloc HOY.out _) (some ⟨Y.heap.size, 0, none⟩) 1 1 [.string y.key] rfl (by simp) rfl (cell_slice Y (.string y.key) 9) (by intro u hu; simp at hu; subst hu; rfl) ?d1 ?d2 ?d3 ?_)
          case d1 => unfold maxLen; omega
          case d2 => omega
          case d3 => simp; omega
          intro v3 w3 hown3 hgrow3 hat3
          have HO3 : Hid (w3.ownsRow w.heap.size 9 1 v3 (m + 1) (strVals (ks es (k + 1)))) := by rw [HKS.out, strVals_snoc]; exact hown3
          have HB3 : Hid (Below w.heap.size w w3) := (HBY.out.alloc hszY _).grown hgrow3 (by simp; omega) (fun j hj => (World.ownsRow.lt HOY.out j hj).1)
          clear hown3 hgrow3 hat3 HOY HBY
          go_wp2
          go_roundw
          case rel => exact ⟨k + 1, m + 1, by go_num, by omega, by omega, (by show m + 1 = _; rw [HKS.out, List.length_append, ← HM.out]; rfl), HO3, HB3⟩
          case measure => simp [intOf]; omega
    · obtain rfl : k = es.length := by omega
      have HE : Hid (wr.ownsRow w.heap.size 9 1 u3 (keysE es).length (strVals (keysE es))) := by
        have h := HM.out
        have h2 := HO.out
        rw [h] at h2
        exact h2
      clear HM HO HX
      go_wp2
      go_ret
      exact ⟨⟨_, rfl, HE.out⟩, HB.out⟩
end Go.Proofs.Ytedjohkdfchocaa.Tb
