/-
  The texts TableRefBlocks, TableRefKeys.
-/
import Derived.Test.YtedjohkdfchocaaGreatQTableMath
import Derived.Test.YtedjohkdfchocaaGreatPart1
import Derived.BigQuiet

/-
  The document's answer for layer 9: the versions eight by eight; their keys, each once.
-/
namespace Go.Proofs.YtedjohkdfchocaaGreat.Tb
open Go.RowKit Cm Mm Bk
set_option linter.unusedVariables false

def slv (b off : Nat) (es : List En) (ca j : Nat) : Value := .slice (some ⟨b, off + 8 * j * 4, none⟩) (chunk es j).length (ca - 8 * j)
def slvs (b off : Nat) (es : List En) (ca k : Nat) : List Value := (List.range k).map (slv b off es ca)
theorem slvs_succ (b off : Nat) (es : List En) (ca k : Nat) : slvs b off es ca (k + 1) = slvs b off es ca k ++ [slv b off es ca k] := by simp [slvs, List.range_succ]
theorem infoSl : (Tryz.prog.info? 22).map (fun i => (i.zero, i.size, i.bytes)) = some (some (.slice none 0 0), 1, 24) := by kernel_rfl
theorem cell_slice (w : World) (v : Value) (t : TypeId) : CellsAt (w.alloc (.cells #[v] t)) (some ⟨w.heap.size, 0, none⟩) [v] := by
  refine .inr ⟨w.heap.size, 0, rfl, by simp, fun j hj => ?_⟩
  rw [Joins.cell_of_block (heap_alloc_new w (.cells #[v] t)), Nat.zero_add]
  obtain rfl : j = 0 := by simpa using hj
  rfl
set_option maxRecDepth 100000 in
set_option maxHeartbeats 1000000 in
theorem blocksR_any (ao : Option Addr) (b off ca : Nat) (es : List En) (w : World) (hao : 0 < es.length → ao = some ⟨b, off, none⟩) (hca : es.length ≤ ca) (hl : es.length ≤ 1000000000) :
    Calls Tryz.prog 21 #[.slice ao es.length ca] w fun e w' => (∃ v, e = .returned v ∧ w'.ownsRow w.heap.size 22 1 v (nch es) (slvs b off es ca (nch es))) ∧ Below w.heap.size w w' := by
  obtain ⟨i0, hi, hz0, hz1, hz2⟩ := info_parts infoSl
  go_enter Tryz.func21, Tryz.ntmps21
  go_wp2
  go_loopw [0, 3] (fun l v wr => ∃ (k m c : Nat) (lo : Option Addr), l = .slice lo m c ∧ k ≤ nch es ∧ m ≤ c ∧ m ≤ 1000000000 ∧ Hid (m = es.length - 8 * k ∧ (8 * k ≤ es.length → c = ca - 8 * k) ∧ (8 * k < es.length → lo = some ⟨b, off + 8 * k * 4, none⟩)) ∧ Hid (wr.ownsRow w.heap.size 22 1 v k (slvs b off es ca k)) ∧ Hid (Below w.heap.size w wr)) (fun l _ _ => match l with | .slice _ n _ => n | _ => 0)
  case atStart => exact ⟨0, es.length, ca, ao, rfl, Nat.zero_le _, hca, hl, ⟨by omega, fun _ => by omega, fun h => by simpa using hao h⟩, World.ownsRow_nil _ _ _ _, Below.refl _ _⟩
  case round =>
    obtain ⟨k, m, c, lo, rfl, hk, hmc, hm9, HM, HO, HB⟩ := hrel
    have hsz := HB.out.size
    by_cases hlt : 0 < m
    · have hk8 : 8 * k < es.length := by have := HM.out.1; omega
      have hkn := nch_of hk8
      obtain rfl := HM.out.2.2 hk8
      obtain ⟨n, hn⟩ : ∃ n, n = (chunk es k).length := ⟨_, rfl⟩
      have hn1 : n = min m 8 := by rw [hn, chunk_len]; have := HM.out.1; omega
      have hmin : min (m : Int) 8 = (n : Int) := by omega
      have HSV : Hid (slv b off es ca k = .slice (some ⟨b, off + 8 * k * 4, none⟩) n c) := by show _ = _; unfold slv; rw [hn, HM.out.2.1 (by omega)]
      have hn0 : (0 : Int) ≤ (n : Int) := by omega
      have hn2 : (n : Int) ≤ (c : Int) := by omega
      have hn3 : (n : Int) ≤ (m : Int) := by omega
      have hm0 : (0 : Int) < (m : Int) := by omega
      have ho := World.ownsRow.alloc HO.out (.cells #[.slice (some ⟨b, off + 8 * k * 4, none⟩) n c] 22)
      have HOA : Hid _ := ho
      have hcl := cell_slice wr (.slice (some ⟨b, off + 8 * k * 4, none⟩) n c) 22
      have HN : Hid _ := slvs_succ b off es ca k
      have hkb : k ≤ 1000000000 := by unfold nch at hk; omega
      have HNN : Hid (n = min m 8) := hn1
      have HNX : Hid (m - n = es.length - 8 * (k + 1) ∧ (8 * (k + 1) ≤ es.length → c - n = ca - 8 * (k + 1)) ∧ (8 * (k + 1) < es.length → n = 8)) := by
        have h1 := HM.out.1
        have h2 := HM.out.2.1 (by omega)
        exact ⟨by omega, fun _ => by omega, fun _ => by omega⟩
      clear ho hn hn1 HO HM HNN
      go_wp2_with (at_builtin; refine wpList_append_any _ rfl _ _ 56 rfl w.heap.size 22 i0 _ 24 Tryz.underlying56 hi hz0 hz1 hz2 rfl u3 k (slvs b off es ca k) rfl HOA.out (some ⟨wr.heap.size, 0, none⟩) 1 1 [.slice (some ⟨b, off + 8 * k * 4, none⟩) n c] rfl (by simp) rfl hcl (by intro u hu; simp at hu; subst hu; rfl) ?d1 ?d2 ?d3 ?_)
      case d1 => unfold maxLen; omega
      case d2 => omega
      case d3 => simp; omega
      intro v3 w3 hown3 hgrow3 hat3
      have HO3 : Hid (w3.ownsRow w.heap.size 22 1 v3 (k + 1) (slvs b off es ca (k + 1))) := by rw [HN.out, HSV.out]; exact hown3
      have HB3 : Hid (Below w.heap.size w w3) := (HB.out.alloc hsz _).grown hgrow3 (by simp; omega) (fun j hj => (World.ownsRow.lt HOA.out j hj).1)
      clear hown3 hgrow3 hat3 hcl HOA HB HN HSV
      by_cases hcn : c = n
      · have hmn : m = n := by omega
        subst hcn
        subst hmn
        go_wp2
        go_roundw
        case rel => exact ⟨k + 1, _, _, _, rfl, by omega, by omega, by omega, ⟨by have := HNX.out.1; omega, fun h => by have := HNX.out.2.1 h; omega, fun h => by have := HNX.out.1; omega⟩, HO3, HB3⟩
        case measure => simp; omega
      · go_wp2
        go_roundw
        case rel => exact ⟨k + 1, _, _, _, rfl, by omega, by omega, by omega, ⟨HNX.out.1, HNX.out.2.1, fun h => by have h8 := HNX.out.2.2 h; rw [h8]; congr 2; omega⟩, HO3, HB3⟩
        case measure => simp; omega
    · have hkn : k = nch es := by
        have := HM.out.1
        unfold nch at *
        omega
      have HO' : Hid (wr.ownsRow w.heap.size 22 1 u3 (nch es) (slvs b off es ca (nch es))) := by rw [← hkn]; exact HO.out
      obtain rfl : m = 0 := by omega
      clear HO HM hkn
      go_wp2
      go_ret
      exact ⟨⟨_, rfl, HO'.out⟩, HB.out⟩
end Go.Proofs.YtedjohkdfchocaaGreat.Tb

/-
  The document's answer for layer 9: the keys, each once.
-/
namespace Go.Proofs.YtedjohkdfchocaaGreat.Tb
open Go.RowKit Cm Mm Bk
set_option linter.unusedVariables false

theorem infoStrR : (Tryz.prog.info? 9).map (fun i => (i.zero, i.size, i.bytes)) = some (some (.string ⟨#[]⟩), 1, 16) := by kernel_rfl
theorem strVals_snoc (xs : List ByteArray) (x : ByteArray) : strVals (xs ++ [x]) = strVals xs ++ [.string x] := by simp [strVals]
set_option maxRecDepth 100000 in
set_option maxHeartbeats 1000000 in
theorem keysR_any (ao : Option Addr) (ca : Nat) (es : List En) (w : World) (hx : ElemsAt enShape w ao es) (hl : es.length ≤ 1000000000) :
    Calls Tryz.prog 26 #[.slice ao es.length ca] w fun e w' => (∃ v, e = .returned v ∧ w'.ownsRow w.heap.size 9 1 v (keysE es).length (strVals (keysE es))) ∧ Below w.heap.size w w' := by
  obtain ⟨i0, hi, hz0, hz1, hz2⟩ := info_parts infoStrR
  have HX : Hid (∀ X, Below w.heap.size w X → ElemsAt enShape X ao es) := fun X hb => hx.later hb
  clear hx
  go_enter Tryz.func26, Tryz.ntmps26
  go_wp2
  go_loopw [3, 8] (fun v i wr => ∃ k m : Nat, i = .int .i64 k ∧ k ≤ es.length ∧ m ≤ k ∧ Hid (m = (ks es k).length) ∧ Hid (wr.ownsRow w.heap.size 9 1 v m (strVals (ks es k))) ∧ Hid (Below w.heap.size w wr)) (fun _ i _ => es.length - (intOf i).toNat)
  case atStart => exact ⟨0, 0, rfl, by omega, by omega, rfl, World.ownsRow_nil _ _ _ _, Below.refl _ _⟩
  case round =>
    obtain ⟨k, m, rfl, hk, hmk, HM, HO, HB⟩ := hrel
    by_cases hlt : k < es.length
    · have hsz := HB.out.size
      obtain ⟨pb, off, rfl, c0, c1, c2, c3⟩ := elem_cells (HX.out wr HB.out) hlt
      have hk0 : (0 : Int) ≤ (k : Int) := by omega
      have hk1 : (k : Int) < (es.length : Int) := by omega
      obtain ⟨X, hX⟩ : ∃ X, X = wr.alloc (entObj (es.getD k En.zero)) := ⟨_, rfl⟩
      have q3 : X.heap[wr.heap.size]? = some (entObj (es.getD k En.zero)) := by rw [hX]; exact heap_alloc_new _ _
      obtain ⟨n0, n1, n2, n3, _⟩ := ent_cells q3
      have HBX : Hid (Below w.heap.size w X) := by rw [hX]; exact HB.out.alloc hsz _
      have hszX : w.heap.size ≤ X.heap.size := HBX.out.size
      have HOX : Hid (X.ownsRow w.heap.size 9 1 u3 m (strVals (ks es k))) := by rw [hX]; exact World.ownsRow.alloc HO.out _
      have HKN : Hid (fresh es k = true → ks es (k + 1) = ks es k ++ [(es.getD k En.zero).key]) := fun h => ks_new h
      have HKO : Hid (fresh es k = false → ks es (k + 1) = ks es k) := fun h => ks_old h
      have HF : Hid (fresh es k = (decide (k = 0) || !decide ((es.getD (k - 1) En.zero).key = (es.getD k En.zero).key))) := rfl
      have HP : Hid (∀ j, j + 1 = k → X.cell? ⟨pb, off + j * 4, none⟩ = some (.string (es.getD (k - 1) En.zero).key)) := fun j hj => by
        obtain ⟨p2, o2, e2, d0, _⟩ := elem_cells (HX.out X HBX.out) (k := j) (by omega)
        cases e2
        rw [d0]
        congr 4
        omega
      unfold entObj at hX
      clear q3 HO HB HX
      generalize es.getD k En.zero = y at *
      generalize es.getD (k - 1) En.zero = z at *
      rw [hX] at n0 n1 n2 n3
      by_cases hz : k = 0
      · have hb0 : ((k : Int) == 0) = true := by simp; omega
        have HKS : Hid (ks es (k + 1) = ks es k ++ [y.key]) := HKN.out (by rw [HF.out, hz]; rfl)
        clear HKN HKO HF HP hz
        go_wp2_with fail
        go_quiet (fail)
        rw [← hX]
        have HOY : Hid ((X.drewN nq).ownsRow w.heap.size 9 1 u3 m (strVals (ks es k))) := HOX.out
        have HBY : Hid (Below w.heap.size w (X.drewN nq)) := HBX.out.trans ⟨rfl, rfl, rfl, Nat.le_refl _, fun _ _ => rfl⟩
        have hszY : w.heap.size ≤ (X.drewN nq).heap.size := hszX
        have y0 : (X.drewN nq).cell? ⟨wr.heap.size, 0, none⟩ = some (.string y.key) := by rw [← hX] at n0; exact n0
        clear n0 n1 n2 n3 c0 c1 c2 c3 HOX HBX hX hszX
        generalize X.drewN nq = Y at *
        go_wp2_with (at_builtin; refine wpList_append_any _ rfl _ _ 52 rfl w.heap.size 9 i0 _ 16 Tryz.underlying52 hi hz0 hz1 hz2 rfl u3 m (strVals (ks es k)) rfl (World.ownsRow.alloc HOY.out _) (some ⟨Y.heap.size, 0, none⟩) 1 1 [.string y.key] rfl (by simp) rfl (cell_slice Y (.string y.key) 9) (by intro u hu; simp at hu; subst hu; rfl) ?d1 ?d2 ?d3 ?_)
        case d1 => unfold maxLen; omega
        case d2 => omega
        case d3 => simp; omega
        intro v3 w3 hown3 hgrow3 hat3
        have HO3 : Hid (w3.ownsRow w.heap.size 9 1 v3 (m + 1) (strVals (ks es (k + 1)))) := by rw [HKS.out, strVals_snoc]; exact hown3
        have HB3 : Hid (Below w.heap.size w w3) := (HBY.out.alloc hszY _).grown hgrow3 (by simp; omega) (fun j hj => (World.ownsRow.lt HOY.out j hj).1)
        clear hown3 hgrow3 hat3 HOY HBY
        go_wp2
        go_roundw
        case rel => exact ⟨k + 1, m + 1, by go_num, by omega, by omega, (by show m + 1 = _; rw [HKS.out, List.length_append, ← HM.out]; rfl), HO3, HB3⟩
        case measure => simp [intOf]; omega
      · obtain ⟨j, hj⟩ : ∃ j, j + 1 = k := ⟨k - 1, by omega⟩
        have hb0 : ((k : Int) == 0) = false := by simp; omega
        have d0 := HP.out j hj
        rw [hX] at d0
        have hj0 : (0 : Int) ≤ (j : Int) := by omega
        have hj1 : (j : Int) < (es.length : Int) := by omega
        have hw : IntKind.i64.wrap ((k : Int) - 1) = (j : Int) := wrap_nat (by omega) (by omega)
        have hdk : decide (k = 0) = false := by simp; omega
        rw [hdk] at HF
        clear hz HP hj hdk
        have hbk := beq_toList z.key y.key
        by_cases hzy : z.key = y.key
        · have HKS : Hid (ks es (k + 1) = ks es k) := HKO.out (by rw [HF.out, decide_eq_true hzy]; rfl)
          rw [decide_eq_true hzy] at hbk
          clear HKN HKO HF hzy
          go_wp2_with fail
          go_quiet (fail)
          rw [← hX]
          have HOY : Hid ((X.drewN nq).ownsRow w.heap.size 9 1 u3 m (strVals (ks es (k + 1)))) := by rw [HKS.out]; exact HOX.out
          have HBY : Hid (Below w.heap.size w (X.drewN nq)) := HBX.out.trans ⟨rfl, rfl, rfl, Nat.le_refl _, fun _ _ => rfl⟩
          clear n0 n1 n2 n3 c0 c1 c2 c3 HOX HBX hX hszX
          generalize X.drewN nq = Y at *
          go_wp2
          go_roundw
          case rel => exact ⟨k + 1, m, by go_num, by omega, by omega, (by show m = _; rw [HKS.out]; exact HM.out), HOY, HBY⟩
          case measure => simp [intOf]; omega
        · have HKS : Hid (ks es (k + 1) = ks es k ++ [y.key]) := HKN.out (by rw [HF.out, decide_eq_false hzy]; rfl)
          rw [decide_eq_false hzy] at hbk
          clear HKN HKO HF hzy
          go_wp2_with fail
          go_quiet (fail)
          rw [← hX]
          have HOY : Hid ((X.drewN nq).ownsRow w.heap.size 9 1 u3 m (strVals (ks es k))) := HOX.out
          have HBY : Hid (Below w.heap.size w (X.drewN nq)) := HBX.out.trans ⟨rfl, rfl, rfl, Nat.le_refl _, fun _ _ => rfl⟩
          have hszY : w.heap.size ≤ (X.drewN nq).heap.size := hszX
          have y0 : (X.drewN nq).cell? ⟨wr.heap.size, 0, none⟩ = some (.string y.key) := by rw [← hX] at n0; exact n0
          clear n0 n1 n2 n3 c0 c1 c2 c3 HOX HBX hX hszX
          generalize X.drewN nq = Y at *
          go_wp2_with (at_builtin; refine wpList_append_any _ rfl _ _ 52 rfl w.heap.size 9 i0 _ 16 Tryz.underlying52 hi hz0 hz1 hz2 rfl u3 m (strVals (ks es k)) rfl (World.ownsRow.alloc HOY.out _) (some ⟨Y.heap.size, 0, none⟩) 1 1 [.string y.key] rfl (by simp) rfl (cell_slice Y (.string y.key) 9) (by intro u hu; simp at hu; subst hu; rfl) ?d1 ?d2 ?d3 ?_)
          case d1 => unfold maxLen; omega
          case d2 => omega
          case d3 => simp; omega
          intro v3 w3 hown3 hgrow3 hat3
          have HO3 : Hid (w3.ownsRow w.heap.size 9 1 v3 (m + 1) (strVals (ks es (k + 1)))) := by rw [HKS.out, strVals_snoc]; exact hown3
          have HB3 : Hid (Below w.heap.size w w3) := (HBY.out.alloc hszY _).grown hgrow3 (by simp; omega) (fun j hj => (World.ownsRow.lt HOY.out j hj).1)
          clear hown3 hgrow3 hat3 HOY HBY
          go_wp2
          go_roundw
          case rel => exact ⟨k + 1, m + 1, by go_num, by omega, by omega, (by show m + 1 = _; rw [HKS.out, List.length_append, ← HM.out]; rfl), HO3, HB3⟩
          case measure => simp [intOf]; omega
    · obtain rfl : k = es.length := by omega
      have HE : Hid (wr.ownsRow w.heap.size 9 1 u3 (keysE es).length (strVals (keysE es))) := by
        have h := HM.out
        have h2 := HO.out
        rw [h] at h2
        exact h2
      clear HM HO HX
      go_wp2
      go_ret
      exact ⟨⟨_, rfl, HE.out⟩, HB.out⟩
end Go.Proofs.YtedjohkdfchocaaGreat.Tb
