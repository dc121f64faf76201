/-
  The document's answer for layer 10: what may be left out.
-/
import Derived.Test.YtdaibmafnamfgaaMergeRefView
namespace Go.Proofs.Ytdaibmafnamfgaa.Mg
open Go.RowKit Go.Shelf Cm Mm
set_option linter.unusedVariables false

def lv : List En → Bool
  | [] => false
  | x :: l => (x :: l).any (fun f => decide (f.key = x.key) && !f.dead)
def lk : List En → ByteArray
  | [] => ⟨#[]⟩
  | x :: _ => x.key
theorem lv_self (x : En) (l : List En) : lv (x :: l) = (!x.dead || l.any (fun f => decide (f.key = x.key) && !f.dead)) := by
  show ((x :: l).any (fun f => decide (f.key = x.key) && !f.dead)) = _
  rw [List.any_cons]; simp
theorem st_lv (x : En) (l : List En) : st (x :: l) = if lv (x :: l) then x :: st l else st l := by rw [lv_self]; rfl
theorem lv_new {x : En} {l : List En} (hs : Sorted (x :: l)) (h : l = [] ∨ lk l ≠ x.key) : lv (x :: l) = !x.dead := by
  rw [lv_self]
  suffices hq : l.any (fun f => decide (f.key = x.key) && !f.dead) = false by rw [hq, Bool.or_false]
  rw [List.any_eq_false]
  intro f hf hc
  simp only [Bool.and_eq_true, decide_eq_true_eq] at hc
  cases l with
  | nil => cases hf
  | cons y l =>
    rcases h with h | h
    · cases h
    · unfold Sorted at hs
      rw [List.pairwise_cons, List.pairwise_cons] at hs
      have hxy := hs.1 y List.mem_cons_self
      rcases List.mem_cons.1 hf with rfl | hf
      · exact h hc.1
      · exact h (squeeze hxy (hs.2.1 f hf) hc.1.symm).1.symm
theorem lv_same {x : En} {l : List En} (h : l ≠ []) (hk : lk l = x.key) : lv (x :: l) = (lv l || !x.dead) := by
  cases l with
  | nil => exact absurd rfl h
  | cons y l =>
    have hy : y.key = x.key := hk
    rw [lv_self x]
    show _ = ((y :: l).any (fun f => decide (f.key = y.key) && !f.dead) || !x.dead)
    rw [hy, Bool.or_comm]
theorem own_later {w w' : World} {B : Nat} {e : TypeId} {v : Value} {n : Nat} {xs : List Value} {s : Nat} (h : w.ownsRow B e s v n xs) (hb : Below w.heap.size w w') : w'.ownsRow B e s v n xs := by
  refine ⟨h.1, ?_⟩
  rcases h.2 with h | ⟨g, cap, cur, h1, h2, h3, h4⟩
  · exact .inl h
  · exact .inr ⟨g, cap, cur, h1, h2, (hb.block g (Array.getElem?_eq_some_iff.1 h3).1).trans h3, h4⟩
theorem own_one {w : World} {B : Nat} (x : En) (hB : B ≤ w.heap.size) : (w.alloc (entObj x)).ownsRow B 28 4 (.slice (some ⟨w.heap.size, 0, none⟩) 1 1) 1 (enShape.vals [x]) :=
  ⟨rfl, .inr ⟨w.heap.size, 1, _, rfl, hB, heap_alloc_new w _, Nat.le_refl _, by decide, rfl, rfl⟩⟩

set_option maxRecDepth 100000 in
set_option maxHeartbeats 4000000 in
theorem trimR_any (b : Bool) (ao so : Option Addr) (c sc : Nat) (l : List En) (seen : List Int) (w : World) (hx : Lies w ao c l) (hs : CellsAt w so (seen.map (Value.int .i64))) (hl : l.length ≤ 10000000000) (hsl : seen.length ≤ 10000000000) :
    Calls Try.prog 15 #[.slice ao l.length c, .bool b, .slice so seen.length sc] w (MLies w (trim b seen (merged l))) := by
  obtain ⟨i0, hi, hz0, hz1, hz2⟩ := info_parts infoEn
  have HMG : Hid _ := m1R hx hl
  have HSX : Hid (∀ X, Below w.heap.size w X → CellsAt X so (seen.map (Value.int .i64))) := fun X hX => hs.keep (fun b hb => hX.block b hb) hX.size
  have hml := merged_len l
  have HST : Hid (Sorted (merged l)) := merged_sorted l
  clear hx hs
  generalize hM : merged l = M at *
  have hMl : M.length ≤ 10000000000 := by omega
  clear hM hml
  obtain ⟨sl, hsq⟩ : ∃ k, k = seen.length := ⟨_, rfl⟩
  have HSL : Hid _ := hsq
  rw [← hsq] at hsl ⊢
  clear hsq
  go_enter Try.func15, Try.ntmps15
  go_wp2_with fail
  refine (show Calls _ _ _ _ _ from HMG.out).mono ?_
  rintro e w1 ⟨am, cm, rfl, hy1, hb1⟩
  have HY : Hid (∀ X, Below w1.heap.size w1 X → ElemsAt enShape X am M) := fun X hX => hy1.elems.later hX
  have HW1 : Hid _ := hb1
  obtain ⟨k, hk⟩ : ∃ k, k = M.length := ⟨_, rfl⟩
  have HK : Hid _ := hk
  rw [← hk] at hMl ⊢
  clear hy1 hb1 hk HMG hl
  go_wp2
  go_loopw [8, 20] (fun vo vi wr => ∃ (i q : Nat) (acc : List En), vi = .int .i64 i ∧ i ≤ k ∧ q ≤ i ∧ Hid (acc.length = q) ∧ Hid (acc = tr seen none (M.take i)) ∧ Hid (wr.ownsRow w1.heap.size 28 4 vo q (enShape.vals acc)) ∧ Hid (Below w1.heap.size w1 wr)) (fun _ vi _ => k - (intOf vi).toNat)
  case atStart => exact ⟨0, 0, [], rfl, by omega, by omega, rfl, rfl, World.ownsRow_nil _ _ _ _, Below.refl _ _⟩
  case round =>
    obtain ⟨i, q, acc, rfl, hik, hqi, HQ, HA, HO, HB⟩ := hrel
    by_cases hlt : i < k
    · have hlt' : (i : Int) < (k : Int) := by omega
      have hil : i < M.length := by have := HK.out; omega
      obtain ⟨pb, off, rfl, c0, c1, c2, c3⟩ := elem_cells (HY.out wr HB.out) (k := i) hil
      have HBn : Hid (Below w1.heap.size w1 (wr.alloc (entObj (M.getD i En.zero)))) := HB.out.alloc HB.out.size _
      have hn := neededR_any (some ⟨pb, off, none⟩) so cm sc M seen i (wr.alloc (entObj (M.getD i En.zero))) (HY.out _ HBn.out) (HSX.out _ (HW1.out.trans (HBn.out.mono HW1.out.size))) hil (by have := HK.out; omega) (by have := HSL.out; omega)
      rw [← HK.out, ← HSL.out] at hn
      have htk := tr_take (seen := seen) (g := M) hil
      rw [← HA.out] at htk
      generalize keepB seen (prev M i) (M.getD i En.zero) = kb at hn htk
      have HTK : Hid _ := htk
      have HN : Hid _ := hn
      have HOn : Hid ((wr.alloc (entObj (M.getD i En.zero))).ownsRow w1.heap.size 28 4 _ q (enShape.vals acc)) := World.ownsRow.alloc HO.out _
      have HBX : Hid (∀ X, Below (wr.alloc (entObj (M.getD i En.zero))).heap.size (wr.alloc (entObj (M.getD i En.zero))) X → X.heap[wr.heap.size]? = some (entObj (M.getD i En.zero))) := fun X hX => (hX.block _ (by simp)).trans (heap_alloc_new wr _)
      clear hil hn htk HO HB HA
      generalize M.getD i En.zero = x at *
      unfold entObj at HBn HN
      cases kb with
      | false =>
        have HA2 : Hid (acc = tr seen none (M.take (i + 1))) := by rw [HTK.out]; show _ = _; simp
        clear HTK
        go_wp2_with fail
        refine (show Calls _ _ _ _ _ from HN.out).mono ?_
        rintro e w2 ⟨rfl, hb2⟩
        have HB2 : Hid (Below w1.heap.size w1 w2) := HBn.out.trans (hb2.mono HBn.out.size)
        have HO2 : Hid (w2.ownsRow w1.heap.size 28 4 _ q (enShape.vals acc)) := own_later HOn.out hb2
        clear hb2 HN HBn HOn HBX c0 c1 c2 c3
        go_wp2
        go_roundw
        case rel => exact ⟨i + 1, q, acc, by go_num, by omega, by omega, HQ, HA2, HO2, HB2⟩
        case measure => simp [intOf]; omega
      | true =>
        have HA2 : Hid (acc ++ [x] = tr seen none (M.take (i + 1))) := by rw [HTK.out]; exact hid_rfl
        clear HTK
        go_wp2_with fail
        refine (show Calls _ _ _ _ _ from HN.out).mono ?_
        rintro e w2 ⟨rfl, hb2⟩
        have HB2 : Hid (Below w1.heap.size w1 w2) := HBn.out.trans (hb2.mono HBn.out.size)
        have HO2 : Hid (w2.ownsRow w1.heap.size 28 4 _ q (enShape.vals acc)) := own_later HOn.out hb2
        obtain ⟨b0, b1, b2, b3, _⟩ := ent_cells (HBX.out w2 hb2)
        have helm : ElemsAt enShape (w2.alloc (entObj x)) (some ⟨w2.heap.size, 0, none⟩) [x] := elems1 x
        unfold entObj at helm
        have hws : w1.heap.size ≤ w2.heap.size := HB2.out.size
        clear hb2 HN HBn HOn HBX c0 c1 c2 c3
        go_wp2_with (at_builtin; refine wpList_append_rows (F := enShape) _ rfl _ _ 22 rfl w1.heap.size 28 i0 _ 48 Try.underlying22 hi hz0 hz1 hz2 rfl _ q acc rfl (World.ownsRow.alloc HO2.out _) (some ⟨w2.heap.size, 0, none⟩) 1 1 [x] rfl (by simp) rfl helm ?c1 ?c2 ?c3 ?_)
        case c1 => unfold maxLen; omega
        case c2 => omega
        case c3 => first | omega | (simp; omega)
        intro v6 w6 hown6 hgrow6 hat6
        have HB6 : Hid (Below w1.heap.size w1 w6) := (HB2.out.alloc hws _).grown hgrow6 (by simp; omega) (fun k hk => (World.ownsRow.lt HO2.out k hk).1)
        have HO6 : Hid (w6.ownsRow w1.heap.size 28 4 v6 (q + 1) (enShape.vals (acc ++ [x]))) := hown6
        clear hown6 hgrow6 hat6 HO2 HB2 helm b0 b1 b2 b3
        go_wp2
        go_roundw
        case rel => exact ⟨i + 1, q + 1, acc ++ [x], by go_num, by omega, by omega, by have := HQ.out; show _ = _; simp; omega, HA2, HO6, HB6⟩
        case measure => simp [intOf]; omega
    · have hik2 : i = k := by omega
      subst hik2
      have hlt' : ¬ (i : Int) < (i : Int) := by omega
      have HE : Hid (acc = tr seen none M) := by
        have := HA.out
        rw [HK.out, List.take_length] at this
        exact this
      have hsO : Sorted acc := by rw [HE.out]; exact HST.out.sublist (tr_sub seen none M)
      have ho := HO.out
      rw [← HQ.out] at ho
      obtain ⟨ar, cr, e1, hyr⟩ := Lies.of (B := w1.heap.size) ho
      rw [HQ.out] at e1
      subst e1
      have HY2 : Hid _ := hyr
      have HBf : Hid (Below w.heap.size w wr) := HW1.out.trans (HB.out.mono HW1.out.size)
      have HSO : Hid _ := hsO
      clear ho hyr HO HB HY hlt HA hsO HST HSX
      cases b with
      | false =>
        go_wp2
        go_ret
        have HQ2 : q = (trim false seen M).length := by rw [show trim false seen M = tr seen none M from rfl, ← HE.out, HQ.out]
        have HY3 := HY2.out
        rw [HE.out] at HY3
        exact ⟨ar, cr, by rw [← HQ2]; rfl, HY3, HBf.out⟩
      | true =>
        have HTR : Hid (trim true seen M = st acc) := by rw [HE.out]; exact hid_rfl
        have HOX : Hid (∀ X, Below wr.heap.size wr X → ElemsAt enShape X ar acc) := fun X hX => HY2.out.elems.later hX
        have HWF : Hid (∀ X, Below wr.heap.size wr X → Below w.heap.size w X) := fun X hX => HBf.out.trans (hX.mono HBf.out.size)
        have hqb : q ≤ 10000000000 := by omega
        clear HE HY2 HBf HW1 HK HSL hqi hik hMl hsl
        generalize acc = O at *
        generalize wr = wo at *
        go_wp2
        go_loopw [11, 12, 13, 14] (fun vr vl va vi wr => ∃ (j r : Nat) (z : Int) (R : List En), vi = .int .i64 z ∧ vl = .string (lk (O.drop j)) ∧ va = .bool (lv (O.drop j)) ∧ z + 1 = (j : Int) ∧ j ≤ q ∧ r + j ≤ q ∧ Hid (R.length = r) ∧ Hid (R = st (O.drop j)) ∧ Hid (wr.ownsRow wo.heap.size 28 4 vr r (enShape.vals R)) ∧ Hid (Below wo.heap.size wo wr)) (fun _ _ _ vi _ => (intOf vi + 1).toNat)
        case atStart =>
          have h0 : O.drop q = [] := by rw [← HQ.out, List.drop_length]
          exact ⟨q, 0, (q : Int) - 1, [], by go_num, by rw [h0]; rfl, by rw [h0]; rfl, by omega, by omega, by omega, rfl, by rw [h0]; exact hid_rfl, World.ownsRow_nil _ _ _ _, Below.refl _ _⟩
        case round =>
          obtain ⟨j, r, z, R, rfl, rfl, rfl, hzj, hjq, hrj, HR, HRS, HO, HB⟩ := hrel
          have ho := HO.out
          rw [← HR.out] at ho
          obtain ⟨ar2, cr2, e2, hn2, hx2, _, _⟩ := own_lens ho
          rw [HR.out] at e2
          subst e2
          have HN2 : Hid _ := hn2
          have HX2 : Hid (∀ X, Below wr.heap.size wr X → ElemsAt enShape X ar2 R) := fun X hX => hx2.later hX
          have HO0 : Hid _ := HO.out
          clear ho hn2 hx2 HO
          by_cases hj0 : j = 0
          · have hz : z = -1 := by omega
            subst hz
            have hneg : ¬ (0 : Int) ≤ -1 := by omega
            have HF : Hid (R = trim true seen M) := by rw [HTR.out, HRS.out, hj0, List.drop_zero]; exact hid_rfl
            clear hj0 hzj HRS HTR
            go_wp2
            go_ret
            have hx3 := HX2.out _ (Below.refl _ _)
            exact ⟨ar2, cr2, by rw [← HF.out, HR.out]; rfl, ⟨by rw [← HF.out]; exact hx3, HN2.out⟩, HWF.out _ HB.out⟩
          · obtain ⟨j', hj'⟩ : ∃ j', j' + 1 = j := ⟨j - 1, by omega⟩
            subst hj'
            have hz : z = (j' : Int) := by omega
            subst hz
            clear hj0 hzj
            have hz0' : (0 : Int) ≤ (j' : Int) := by omega
            have hj1 : (j' : Int) < (q : Int) := by omega
            have hjO : j' < O.length := by have := HQ.out; omega
            obtain ⟨qb, qoff, rfl, c0, c1, c2, c3⟩ := elem_cells (HOX.out wr HB.out) (k := j') hjO
            obtain ⟨n', hn'⟩ : ∃ n', n' + 1 = q := ⟨q - 1, by omega⟩
            have wn : IntKind.i64.wrap ((q : Int) - 1) = (n' : Int) := wrap_nat (by omega) (by omega)
            have hdr : O.drop j' = O.getD j' En.zero :: O.drop (j' + 1) := drop_next hjO
            have hsD : Sorted (O.getD j' En.zero :: O.drop (j' + 1)) := by rw [← hdr]; exact HSO.out.sublist (List.drop_sublist _ _)
            have HSD : Hid _ := hsD
            have HLK : Hid (lk (O.drop j') = (O.getD j' En.zero).key) := by rw [hdr]; exact hid_rfl
            have hst := st_lv (O.getD j' En.zero) (O.drop (j' + 1))
            rw [← hdr, ← HRS.out] at hst
            have HSTL : Hid _ := hst
            have HDR : Hid _ := hdr
            have HD0 : Hid (j' + 1 = q → O.drop (j' + 1) = []) := fun h => by rw [h, ← HQ.out, List.drop_length]
            have HD1 : Hid (j' + 1 < q → O.drop (j' + 1) ≠ []) := fun h h2 => by
              have := List.drop_eq_nil_iff.1 h2
              have := HQ.out
              omega
            clear hjO hsD hst hdr HRS
            by_cases hjn : j' + 1 = q
            · have hjb : ((j' : Int) == (n' : Int)) = true := by simp; omega
              have hV : lv (O.drop j') = !(O.getD j' En.zero).dead := by rw [HDR.out]; exact lv_new HSD.out (.inl (HD0.out hjn))
              have HVq : Hid _ := hV
              clear hV HSD HDR HD0 HD1 hjn
              generalize O.getD j' En.zero = x at *
              generalize lk (O.drop (j' + 1)) = ky at *
              generalize lv (O.drop (j' + 1)) = bl at *
              cases hd : x.dead
              · rw [hd] at c2 HVq
                have HL : Hid (lv (O.drop j') = true) := by rw [HVq.out]; exact hid_rfl
                have HS2 : Hid (x :: R = st (O.drop j')) := by rw [HSTL.out, HL.out]; exact hid_rfl
                have hone : (wr.alloc (entObj x)).ownsRow wo.heap.size 28 4 (.slice (some ⟨wr.heap.size, 0, none⟩) 1 1) 1 (enShape.vals [x]) := own_one x HB.out.size
                have hx2 : ElemsAt enShape (wr.alloc (entObj x)) ar2 R := HX2.out _ ((Below.refl _ _).alloc (Nat.le_refl _) _)
                unfold entObj at hone hx2
                rw [hd] at hone hx2
                have HONE : Hid _ := hone
                have hws : wo.heap.size ≤ wr.heap.size := HB.out.size
                clear HVq HSTL HX2 hone
                go_wp2_with (at_builtin; refine wpList_append_rows (F := enShape) _ rfl _ _ 22 rfl wo.heap.size 28 i0 _ 48 Try.underlying22 hi hz0 hz1 hz2 rfl (.slice (some ⟨wr.heap.size, 0, none⟩) 1 1) 1 [x] rfl HONE.out ar2 r cr2 R rfl HN2.out HR.out hx2 ?c1 ?c2 ?c3 ?_)
                case c1 => unfold maxLen; omega
                case c2 => first | omega | (unfold maxLen; omega)
                case c3 => first | omega | (simp; omega)
                intro v6 w6 hown6 hgrow6 hat6
                have HB6 : Hid (Below wo.heap.size wo w6) := (HB.out.alloc hws _).grown hgrow6 (by simp; omega) (fun k hk => (World.ownsRow.lt HONE.out k hk).1)
                have HO6 : Hid (w6.ownsRow wo.heap.size 28 4 v6 (r + 1) (enShape.vals (x :: R))) := by
                  have h := hown6
                  rw [Nat.add_comm 1 r] at h
                  exact h
                clear hown6 hgrow6 hat6 HONE hx2 c0 c1 c2 c3 HN2
                go_wp2
                go_roundw
                case rel => exact ⟨j', r + 1, (j' : Int) - 1, x :: R, by go_num, by rw [HLK.out], by rw [HL.out], by omega, by omega, by omega, by have := HR.out; show _ = _; simp; omega, HS2, HO6, HB6⟩
                case measure => first | (simp [intOf]; done) | (simp [intOf]; omega)
              · rw [hd] at c2 HVq
                have HL : Hid (lv (O.drop j') = false) := by rw [HVq.out]; exact hid_rfl
                have HS2 : Hid (R = st (O.drop j')) := by rw [HSTL.out, HL.out]; exact hid_rfl
                clear HVq HSTL HN2 HX2
                go_wp2
                go_roundw
                case rel => exact ⟨j', r, (j' : Int) - 1, R, by go_num, by rw [HLK.out], by rw [HL.out], by omega, by omega, by omega, HR, HS2, HO0.out, HB⟩
                case measure => first | (simp [intOf]; done) | (simp [intOf]; omega)
            · have hjn2 : j' + 1 < q := by omega
              have hjb : ((j' : Int) == (n' : Int)) = false := by simp; omega
              by_cases hke : (O.getD j' En.zero).key = lk (O.drop (j' + 1))
              · have hV : lv (O.drop j') = (lv (O.drop (j' + 1)) || !(O.getD j' En.zero).dead) := by rw [HDR.out]; exact lv_same (HD1.out hjn2) hke.symm
                have HVq : Hid _ := hV
                have HLK2 : Hid (lk (O.drop (j' + 1)) = lk (O.drop j')) := by rw [HLK.out]; exact hke.symm
                clear hV HSD HDR HD0 HD1 hjn HLK
                generalize O.getD j' En.zero = x at *
                generalize lk (O.drop (j' + 1)) = ky at *
                generalize lv (O.drop (j' + 1)) = bl at *
                have hbk := beq_toList x.key ky
                rw [decide_eq_true hke] at hbk
                clear hke
                cases bl with
                | true =>
                  have HL : Hid (lv (O.drop j') = true) := by rw [HVq.out]; exact hid_rfl
                  have HS2 : Hid (x :: R = st (O.drop j')) := by rw [HSTL.out, HL.out]; exact hid_rfl
                  have hone : (wr.alloc (entObj x)).ownsRow wo.heap.size 28 4 (.slice (some ⟨wr.heap.size, 0, none⟩) 1 1) 1 (enShape.vals [x]) := own_one x HB.out.size
                  have hx2 : ElemsAt enShape (wr.alloc (entObj x)) ar2 R := HX2.out _ ((Below.refl _ _).alloc (Nat.le_refl _) _)
                  unfold entObj at hone hx2
                  have HONE : Hid _ := hone
                  have hws : wo.heap.size ≤ wr.heap.size := HB.out.size
                  clear HVq HSTL HX2 hone
                  go_wp2_with (at_builtin; refine wpList_append_rows (F := enShape) _ rfl _ _ 22 rfl wo.heap.size 28 i0 _ 48 Try.underlying22 hi hz0 hz1 hz2 rfl (.slice (some ⟨wr.heap.size, 0, none⟩) 1 1) 1 [x] rfl HONE.out ar2 r cr2 R rfl HN2.out HR.out hx2 ?c1 ?c2 ?c3 ?_)
                  case c1 => unfold maxLen; omega
                  case c2 => first | omega | (unfold maxLen; omega)
                  case c3 => first | omega | (simp; omega)
                  intro v6 w6 hown6 hgrow6 hat6
                  have HB6 : Hid (Below wo.heap.size wo w6) := (HB.out.alloc hws _).grown hgrow6 (by simp; omega) (fun k hk => (World.ownsRow.lt HONE.out k hk).1)
                  have HO6 : Hid (w6.ownsRow wo.heap.size 28 4 v6 (r + 1) (enShape.vals (x :: R))) := by
                    have h := hown6
                    rw [Nat.add_comm 1 r] at h
                    exact h
                  clear hown6 hgrow6 hat6 HONE hx2 c0 c1 c2 c3 HN2
                  go_wp2
                  go_roundw
                  case rel => exact ⟨j', r + 1, (j' : Int) - 1, x :: R, by go_num, by rw [HLK2.out], by rw [HL.out], by omega, by omega, by omega, by have := HR.out; show _ = _; simp; omega, HS2, HO6, HB6⟩
                  case measure => first | (simp [intOf]; done) | (simp [intOf]; omega)
                | false =>
                  cases hd : x.dead
                  · rw [hd] at c2 HVq
                    have HL : Hid (lv (O.drop j') = true) := by rw [HVq.out]; exact hid_rfl
                    have HS2 : Hid (x :: R = st (O.drop j')) := by rw [HSTL.out, HL.out]; exact hid_rfl
                    have hone : (wr.alloc (entObj x)).ownsRow wo.heap.size 28 4 (.slice (some ⟨wr.heap.size, 0, none⟩) 1 1) 1 (enShape.vals [x]) := own_one x HB.out.size
                    have hx2 : ElemsAt enShape (wr.alloc (entObj x)) ar2 R := HX2.out _ ((Below.refl _ _).alloc (Nat.le_refl _) _)
                    unfold entObj at hone hx2
                    rw [hd] at hone hx2
                    have HONE : Hid _ := hone
                    have hws : wo.heap.size ≤ wr.heap.size := HB.out.size
                    clear HVq HSTL HX2 hone
                    go_wp2_with (at_builtin; refine wpList_append_rows (F := enShape) _ rfl _ _ 22 rfl wo.heap.size 28 i0 _ 48 Try.underlying22 hi hz0 hz1 hz2 rfl (.slice (some ⟨wr.heap.size, 0, none⟩) 1 1) 1 [x] rfl HONE.out ar2 r cr2 R rfl HN2.out HR.out hx2 ?c1 ?c2 ?c3 ?_)
                    case c1 => unfold maxLen; omega
                    case c2 => first | omega | (unfold maxLen; omega)
                    case c3 => first | omega | (simp; omega)
                    intro v6 w6 hown6 hgrow6 hat6
                    have HB6 : Hid (Below wo.heap.size wo w6) := (HB.out.alloc hws _).grown hgrow6 (by simp; omega) (fun k hk => (World.ownsRow.lt HONE.out k hk).1)
                    have HO6 : Hid (w6.ownsRow wo.heap.size 28 4 v6 (r + 1) (enShape.vals (x :: R))) := by
                      have h := hown6
                      rw [Nat.add_comm 1 r] at h
                      exact h
                    clear hown6 hgrow6 hat6 HONE hx2 c0 c1 c2 c3 HN2
                    go_wp2
                    go_roundw
                    case rel => exact ⟨j', r + 1, (j' : Int) - 1, x :: R, by go_num, by rw [HLK2.out], by rw [HL.out], by omega, by omega, by omega, by have := HR.out; show _ = _; simp; omega, HS2, HO6, HB6⟩
                    case measure => first | (simp [intOf]; done) | (simp [intOf]; omega)
                  · rw [hd] at c2 HVq
                    have HL : Hid (lv (O.drop j') = false) := by rw [HVq.out]; exact hid_rfl
                    have HS2 : Hid (R = st (O.drop j')) := by rw [HSTL.out, HL.out]; exact hid_rfl
                    clear HVq HSTL HN2 HX2
                    go_wp2
                    go_roundw
                    case rel => exact ⟨j', r, (j' : Int) - 1, R, by go_num, by rw [HLK2.out], by rw [HL.out], by omega, by omega, by omega, HR, HS2, HO0.out, HB⟩
                    case measure => first | (simp [intOf]; done) | (simp [intOf]; omega)
              · have hV : lv (O.drop j') = !(O.getD j' En.zero).dead := by rw [HDR.out]; exact lv_new HSD.out (.inr fun h => hke h.symm)
                have HVq : Hid _ := hV
                clear hV HSD HDR HD0 HD1 hjn
                generalize O.getD j' En.zero = x at *
                generalize lk (O.drop (j' + 1)) = ky at *
                generalize lv (O.drop (j' + 1)) = bl at *
                have hbk := beq_toList x.key ky
                rw [decide_eq_false hke] at hbk
                clear hke
                cases hd : x.dead
                · rw [hd] at c2 HVq
                  have HL : Hid (lv (O.drop j') = true) := by rw [HVq.out]; exact hid_rfl
                  have HS2 : Hid (x :: R = st (O.drop j')) := by rw [HSTL.out, HL.out]; exact hid_rfl
                  have hone : (wr.alloc (entObj x)).ownsRow wo.heap.size 28 4 (.slice (some ⟨wr.heap.size, 0, none⟩) 1 1) 1 (enShape.vals [x]) := own_one x HB.out.size
                  have hx2 : ElemsAt enShape (wr.alloc (entObj x)) ar2 R := HX2.out _ ((Below.refl _ _).alloc (Nat.le_refl _) _)
                  unfold entObj at hone hx2
                  rw [hd] at hone hx2
                  have HONE : Hid _ := hone
                  have hws : wo.heap.size ≤ wr.heap.size := HB.out.size
                  clear HVq HSTL HX2 hone
                  go_wp2_with (at_builtin; refine wpList_append_rows (F := enShape) _ rfl _ _ 22 rfl wo.heap.size 28 i0 _ 48 Try.underlying22 hi hz0 hz1 hz2 rfl (.slice (some ⟨wr.heap.size, 0, none⟩) 1 1) 1 [x] rfl HONE.out ar2 r cr2 R rfl HN2.out HR.out hx2 ?c1 ?c2 ?c3 ?_)
                  case c1 => unfold maxLen; omega
                  case c2 => first | omega | (unfold maxLen; omega)
                  case c3 => first | omega | (simp; omega)
                  intro v6 w6 hown6 hgrow6 hat6
                  have HB6 : Hid (Below wo.heap.size wo w6) := (HB.out.alloc hws _).grown hgrow6 (by simp; omega) (fun k hk => (World.ownsRow.lt HONE.out k hk).1)
                  have HO6 : Hid (w6.ownsRow wo.heap.size 28 4 v6 (r + 1) (enShape.vals (x :: R))) := by
                    have h := hown6
                    rw [Nat.add_comm 1 r] at h
                    exact h
                  clear hown6 hgrow6 hat6 HONE hx2 c0 c1 c2 c3 HN2
                  go_wp2
                  go_roundw
                  case rel => exact ⟨j', r + 1, (j' : Int) - 1, x :: R, by go_num, by rw [HLK.out], by rw [HL.out], by omega, by omega, by omega, by have := HR.out; show _ = _; simp; omega, HS2, HO6, HB6⟩
                  case measure => first | (simp [intOf]; done) | (simp [intOf]; omega)
                · rw [hd] at c2 HVq
                  have HL : Hid (lv (O.drop j') = false) := by rw [HVq.out]; exact hid_rfl
                  have HS2 : Hid (R = st (O.drop j')) := by rw [HSTL.out, HL.out]; exact hid_rfl
                  clear HVq HSTL HN2 HX2
                  go_wp2
                  go_roundw
                  case rel => exact ⟨j', r, (j' : Int) - 1, R, by go_num, by rw [HLK.out], by rw [HL.out], by omega, by omega, by omega, HR, HS2, HO0.out, HB⟩
                  case measure => first | (simp [intOf]; done) | (simp [intOf]; omega)
end Go.Proofs.Ytdaibmafnamfgaa.Mg
