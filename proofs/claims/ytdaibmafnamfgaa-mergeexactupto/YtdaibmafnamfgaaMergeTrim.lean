/-
  Package merge: Trim.
-/
import Derived.Test.YtdaibmafnamfgaaMergeNeeded
namespace Go.Proofs.Ytdaibmafnamfgaa.Mg
open Go.RowKit Go.Shelf Cm Mm
set_option linter.unusedVariables false

theorem flatMap_len {b : Bool} {ns : List Int} : ∀ (gs : List (List En)), (gs.flatMap (tg b ns)).length ≤ gs.flatten.length
  | [] => Nat.le_refl _
  | g :: gs => by
    rw [List.flatMap_cons, List.flatten_cons, List.length_append, List.length_append]
    have h1 := flatMap_len (b := b) (ns := ns) gs
    have h2 : (tg b ns g).length ≤ g.length := (trim_sub b ns g).length_le
    omega
theorem one_sub {a g : List En} (h : One g) (hs : a.Sublist g) : One a := fun x hx y hy => h x (hs.subset hx) y (hs.subset hy)
theorem sortI_perm (zs : List Int) : (sortI zs).Perm zs := List.mergeSort_perm _ _
theorem sortI_sorted (zs : List Int) : (sortI zs).Pairwise (· ≤ ·) := by
  have := List.pairwise_mergeSort (le := fun x y : Int => decide (x ≤ y)) (by intro a b c h1 h2; simp at *; omega) (by intro a b; simp; omega) zs
  rw [List.pairwise_iff_getElem] at this ⊢
  exact fun i j hi hj hij => of_decide_eq_true (this i j hi hj hij)
theorem trim_perm {a b : List Int} (h : a.Perm b) (bt : Bool) (l : List En) : trim bt a l = trim bt b l := by unfold trim; rw [tr_perm h]
theorem nums_at {w : World} {so : Option Addr} {sc : Nat} {seen : List Int} (h : CellsAt w so (seen.map (Value.int .i64))) : NumsAt (w.alloc (.cells #[.slice so seen.length sc] 32)) w.heap.size seen := by
  refine ⟨so, sc, ?_, h.keep (fun b hb => Below.heap_alloc _ _ b hb) (by simp)⟩
  rw [Joins.cell_of_block (show (w.alloc (.cells #[.slice so seen.length sc] 32)).heap[w.heap.size]? = some (.cells #[.slice so seen.length sc] 32 (0, 0)) from heap_alloc_new w _)]; rfl

set_option maxRecDepth 100000 in
set_option maxHeartbeats 2000000 in
theorem trimF_any (ao : Option Addr) (c : Nat) (l : List En) (so : Option Addr) (sc : Nat) (seen : List Int) (w : World) (hx : ElemsAt enShape w ao l) (hnil : ao = none → c = 0) (hl : l.length ≤ 1000000000000) (hsn : CellsAt w so (seen.map (Value.int .i64))) (hsl : seen.length ≤ 1000000000000) :
    Calls Try.prog 14 #[.slice ao l.length c, .bool false, .slice so seen.length sc] w (MAns w (trim false seen (merged l))) := by
  obtain ⟨i0, hi, hz0, hz1, hz2⟩ := info_parts infoEn
  have hw1 : Below w.heap.size w (w.alloc (.cells #[.slice so seen.length sc] 32)) := (Below.refl _ _).alloc (Nat.le_refl _) _
  have hso := sorted_any w.heap.size seen hsl _ (nums_at (sc := sc) hsn)
  rw [← trim_perm (sortI_perm seen)]
  have hnl : (sortI seen).length ≤ 1000000000000 := by rw [(sortI_perm seen).length_eq]; exact hsl
  have hns := sortI_sorted seen
  generalize sortI seen = ns at *
  have HNS : Hid (ns.Pairwise (· ≤ ·) ∧ ns.length ≤ 1000000000000) := ⟨hns, hnl⟩
  obtain ⟨m, hm⟩ : ∃ m, m = l.length := ⟨_, rfl⟩
  have HM : Hid _ := hm
  have HLL : Hid (l.length ≤ 1000000000000) := hl
  have HX : Hid (∀ X, Below w.heap.size w X → ElemsAt enShape X ao l) := fun X hX => hx.later hX
  have HNIL : Hid _ := hnil
  have HSO : Hid _ := hso
  have HW1 : Hid _ := hw1
  obtain ⟨sl, hslq⟩ : ∃ sl, sl = seen.length := ⟨_, rfl⟩
  rw [← hslq] at HSO HW1 ⊢
  rw [← hm]
  clear hx hnil hl hsn hsl hso hw1 hns hnl hm hslq
  go_enter Try.func14, Try.ntmps14
  go_wp2_with fail
  refine (values_any _ _ _ _).mono ?_
  rintro e w1 ⟨rfl, rfl⟩
  go_wp2_with fail
  refine (show Calls _ _ _ _ _ from HSO.out).mono ?_
  rintro e w2 ⟨v2, rfl, ho2, hb2⟩
  have HN2 : Hid _ := NumRow.of_own ho2
  have HB2 : Hid (Below w.heap.size w w2) := HW1.out.trans (hb2.mono HW1.out.size)
  have hmg := merge_any _ 1 [l] _ (lists1 w2 ao c l (HX.out w2 HB2.out) HNIL.out) (by simp) (by simpa using HLL.out)
  rw [show [l].flatten = l by simp] at hmg
  have HB3 : Hid (Below w2.heap.size w2 (w2.alloc (.cells #[.slice ao l.length c] 22))) := (Below.refl _ _).alloc (Nat.le_refl _) _
  have HMG : Hid _ := hmg
  rw [← HM.out] at HMG HB3
  clear hmg ho2 hb2 HSO HW1 HX HNIL
  go_wp2_with fail
  refine (show Calls _ _ _ _ _ from HMG.out).mono ?_
  rintro e w3 ⟨v, rfl, hO, hb3⟩
  have HG : Hid _ := groups_any hO hb3 HLL.out
  clear hO hb3 HMG
  go_wp2_with fail
  refine (show Calls _ _ _ _ _ from HG.out).mono ?_
  rintro e w4 ⟨go, gc, gs, rfl, hL, hfl, hgd, hgl, hgg, hb4⟩
  obtain ⟨k, hk⟩ : ∃ k, k = gs.length := ⟨_, rfl⟩
  have HK : Hid _ := hk
  rw [← hk]
  have hkm : k ≤ 1000000000000 := by have := HLL.out; omega
  have HGG : Hid _ := hgg
  have HGD : Hid _ := hgd
  have HFL : Hid (trim false ns (merged l) = gs.flatMap (tg false ns)) := by rw [← hfl]; exact trim_groups hgd
  have HLEN : Hid (∀ i, ((gs.take i).flatMap (tg false ns)).length ≤ 1000000000000) := fun i => by
    have h1 := flatMap_len (b := false) (ns := ns) (gs.take i)
    have h2 := flat_le gs i
    have h3 := merged_len l
    have h4 := HLL.out
    rw [hfl] at h2
    omega
  have HLS : Hid (∀ X, Below w4.heap.size w4 X → Lists X go gs) := fun X hX => hL.later hX
  have hb24 : Below w2.heap.size w2 w4 := HB3.out.trans (hb4.mono HB3.out.size)
  have HB4 : Hid (∀ X, Below w4.heap.size w4 X → Below w2.heap.size w2 X) := fun X hX => hb24.trans (hX.mono hb24.size)
  have HN4 : Hid (∀ X, Below w4.heap.size w4 X → NumRow X v2 ns) := fun X hX => NumRow.later (w := w2) HN2.out (HB4.out X hX)
  have HWS : Hid (w.heap.size ≤ w4.heap.size) := Nat.le_trans HB2.out.size hb24.size
  clear hk hgg hfl hL hgd hgl hb4 HG HB3 hb24 HN2
  go_wp2
  go_loopw [8, 20] (fun v vi wr => ∃ (i q : Nat) (acc : List En), vi = .int .i64 i ∧ i ≤ k ∧ q ≤ 1000000000000 ∧ Hid (acc.length = q) ∧ Hid (acc = (gs.take i).flatMap (tg false ns)) ∧ Hid (wr.ownsRow w4.heap.size 28 4 v q (enShape.vals acc)) ∧ Hid (Below w4.heap.size w4 wr)) (fun _ vi _ => k - (intOf vi).toNat)
  case atStart => exact ⟨0, 0, [], rfl, by omega, by omega, rfl, rfl, World.ownsRow_nil _ _ _ _, Below.refl _ _⟩
  case round =>
    obtain ⟨i, q, acc, rfl, hik, hq, HQ, HA, HO, HB⟩ := hrel
    by_cases hlt : i < k
    · have hlt' : (i : Int) < (k : Int) := by omega
      obtain ⟨gb, goff, p, cc, rfl, hgb, hcell, hpn, hel⟩ := HLS.out wr HB.out i (by have := HK.out; omega)
      have hmem : gs.getD i [] ∈ gs := by
        rw [List.getD_eq_getElem?_getD, List.getElem?_eq_getElem (by have := HK.out; omega)]; exact List.getElem_mem _
      have hgl : (gs.getD i []).length ≤ 1000000000000 := by
        have h2 := HGG.out _ hmem
        have h3 := HLL.out
        omega
      have hone := HGD.out.1 _ hmem
      have HI : Hid _ := needed_any p cc (gs.getD i []) HNS.out.1 HNS.out.2 wr hel (HN4.out wr HB.out) hone hgl
      have hfn : (gs.take (i + 1)).flatMap (tg false ns) = acc ++ tg false ns (gs.getD i []) := by rw [HA.out]; exact flatMap_next (by have := HK.out; omega)
      have HLE : Hid (q + (tg false ns (gs.getD i [])).length ≤ 1000000000000) := by
        have := HLEN.out (i + 1)
        rw [hfn, List.length_append, HQ.out] at this
        exact this
      have HFN : Hid _ := hfn
      generalize gs.getD i [] = g at *
      have HTL : Hid ((tr ns none g).length ≤ 1000000000000) := by have := (tr_sub ns none g).length_le; show _ ≤ _; omega
      have HONE : Hid (One (tr ns none g)) := one_sub hone (tr_sub ns none g)
      obtain ⟨lg, hlg⟩ : ∃ lg, lg = g.length := ⟨_, rfl⟩
      rw [← hlg] at hcell HI hgl
      clear hel hpn hlg hmem hone hfn
      have hbs := HB.out.size
      go_wp2_with fail
      refine (show Calls _ _ _ _ _ from HI.out).mono ?_
      rintro e w5 ⟨v5, rfl, ho5, hb5⟩
      have HB5 : Hid (Below w4.heap.size w4 w5) := HB.out.trans (hb5.mono hbs)
      have HO5 : Hid (w5.ownsRow w4.heap.size 28 4 _ q (enShape.vals acc)) := rows_keep HO.out fun j hj => hb5.block j (World.ownsRow.lt HO.out j hj).2
      obtain ⟨ao5, c5, rfl, hn5, hx5, hc5, hc563⟩ := own_lens ho5
      obtain ⟨tq, htq⟩ : ∃ tq, tq = (tr ns none g).length := ⟨_, rfl⟩
      have HTQ : Hid ((tr ns none g).length = tq) := htq.symm
      have HF2 : Hid (acc ++ tr ns none g = (gs.take (i + 1)).flatMap (tg false ns)) := HFN.out.symm
      have HLE2 : Hid (q + tq ≤ 1000000000000) := by rw [htq]; exact HLE.out
      have HEl : Hid _ := hx5
      rw [← htq]
      clear ho5 hb5 hx5 hc5 hc563 HI HLE HFN hcell HA HO HB htq HONE HTL
      go_wp2_with (at_builtin; refine wpList_append_rows (F := enShape) _ rfl _ _ 22 rfl w4.heap.size 28 i0 _ 48 Try.underlying22 hi hz0 hz1 hz2 rfl _ q acc rfl HO5.out ao5 tq c5 (tr ns none g) rfl hn5 HTQ.out HEl.out ?c1 ?c2 ?c3 ?_)
      case c1 => have := HLE2.out; unfold maxLen; omega
      case c2 => have := HLE2.out; omega
      case c3 => exact HB5.out.size
      intro v6 w6 hown6 hgrow6 hat6
      have HB6 : Hid (Below w4.heap.size w4 w6) := HB5.out.grown hgrow6 HB5.out.size (fun k hk => (World.ownsRow.lt HO5.out k hk).1)
      have HO6 : Hid _ := hown6
      have hle := HLE2.out
      clear hown6 hgrow6 hat6 HO5 HB5 HEl
      go_wp2
      go_roundw
      case rel => exact ⟨i + 1, _, _, by go_num, by omega, hle, by have := HQ.out; show _ = _; rw [List.length_append, HQ.out, HTQ.out], HF2, HO6, HB6⟩
      case measure => simp [intOf]; omega
    · obtain rfl : i = k := by omega
      have hlt' : ¬ (i : Int) < (i : Int) := by omega
      have HE : Hid (acc = trim false ns (merged l)) := by
        rw [HFL.out]
        have := HA.out
        rw [HK.out, List.take_length] at this
        exact this
      have HBf : Hid (Below w.heap.size w wr) := HB2.out.trans ((HB4.out wr HB.out).mono HB2.out.size)
      have hof := own_base HO.out HWS.out
      rw [← HQ.out, HE.out] at hof
      have HOf : Hid _ := hof
      clear hof HO HB HLS HB4 HN4
      go_wp2
      go_ret
      exact ⟨_, rfl, HOf.out, HBf.out⟩

set_option maxRecDepth 100000 in
set_option maxHeartbeats 2000000 in
theorem trimT_any (ao : Option Addr) (c : Nat) (l : List En) (so : Option Addr) (sc : Nat) (seen : List Int) (w : World) (hx : ElemsAt enShape w ao l) (hnil : ao = none → c = 0) (hl : l.length ≤ 1000000000000) (hsn : CellsAt w so (seen.map (Value.int .i64))) (hsl : seen.length ≤ 1000000000000) :
    Calls Try.prog 14 #[.slice ao l.length c, .bool true, .slice so seen.length sc] w (MAns w (trim true seen (merged l))) := by
  obtain ⟨i0, hi, hz0, hz1, hz2⟩ := info_parts infoEn
  have hw1 : Below w.heap.size w (w.alloc (.cells #[.slice so seen.length sc] 32)) := (Below.refl _ _).alloc (Nat.le_refl _) _
  have hso := sorted_any w.heap.size seen hsl _ (nums_at (sc := sc) hsn)
  rw [← trim_perm (sortI_perm seen)]
  have hnl : (sortI seen).length ≤ 1000000000000 := by rw [(sortI_perm seen).length_eq]; exact hsl
  have hns := sortI_sorted seen
  generalize sortI seen = ns at *
  have HNS : Hid (ns.Pairwise (· ≤ ·) ∧ ns.length ≤ 1000000000000) := ⟨hns, hnl⟩
  obtain ⟨m, hm⟩ : ∃ m, m = l.length := ⟨_, rfl⟩
  have HM : Hid _ := hm
  have HLL : Hid (l.length ≤ 1000000000000) := hl
  have HX : Hid (∀ X, Below w.heap.size w X → ElemsAt enShape X ao l) := fun X hX => hx.later hX
  have HNIL : Hid _ := hnil
  have HSO : Hid _ := hso
  have HW1 : Hid _ := hw1
  obtain ⟨sl, hslq⟩ : ∃ sl, sl = seen.length := ⟨_, rfl⟩
  rw [← hslq] at HSO HW1 ⊢
  rw [← hm]
  clear hx hnil hl hsn hsl hso hw1 hns hnl hm hslq
  go_enter Try.func14, Try.ntmps14
  go_wp2_with fail
  refine (values_any _ _ _ _).mono ?_
  rintro e w1 ⟨rfl, rfl⟩
  go_wp2_with fail
  refine (show Calls _ _ _ _ _ from HSO.out).mono ?_
  rintro e w2 ⟨v2, rfl, ho2, hb2⟩
  have HN2 : Hid _ := NumRow.of_own ho2
  have HB2 : Hid (Below w.heap.size w w2) := HW1.out.trans (hb2.mono HW1.out.size)
  have hmg := merge_any _ 1 [l] _ (lists1 w2 ao c l (HX.out w2 HB2.out) HNIL.out) (by simp) (by simpa using HLL.out)
  rw [show [l].flatten = l by simp] at hmg
  have HB3 : Hid (Below w2.heap.size w2 (w2.alloc (.cells #[.slice ao l.length c] 22))) := (Below.refl _ _).alloc (Nat.le_refl _) _
  have HMG : Hid _ := hmg
  rw [← HM.out] at HMG HB3
  clear hmg ho2 hb2 HSO HW1 HX HNIL
  go_wp2_with fail
  refine (show Calls _ _ _ _ _ from HMG.out).mono ?_
  rintro e w3 ⟨v, rfl, hO, hb3⟩
  have HG : Hid _ := groups_any hO hb3 HLL.out
  clear hO hb3 HMG
  go_wp2_with fail
  refine (show Calls _ _ _ _ _ from HG.out).mono ?_
  rintro e w4 ⟨go, gc, gs, rfl, hL, hfl, hgd, hgl, hgg, hb4⟩
  obtain ⟨k, hk⟩ : ∃ k, k = gs.length := ⟨_, rfl⟩
  have HK : Hid _ := hk
  rw [← hk]
  have hkm : k ≤ 1000000000000 := by have := HLL.out; omega
  have HGG : Hid _ := hgg
  have HGD : Hid _ := hgd
  have HFL : Hid (trim true ns (merged l) = gs.flatMap (tg true ns)) := by rw [← hfl]; exact trim_groups hgd
  have HLEN : Hid (∀ i, ((gs.take i).flatMap (tg true ns)).length ≤ 1000000000000) := fun i => by
    have h1 := flatMap_len (b := true) (ns := ns) (gs.take i)
    have h2 := flat_le gs i
    have h3 := merged_len l
    have h4 := HLL.out
    rw [hfl] at h2
    omega
  have HLS : Hid (∀ X, Below w4.heap.size w4 X → Lists X go gs) := fun X hX => hL.later hX
  have hb24 : Below w2.heap.size w2 w4 := HB3.out.trans (hb4.mono HB3.out.size)
  have HB4 : Hid (∀ X, Below w4.heap.size w4 X → Below w2.heap.size w2 X) := fun X hX => hb24.trans (hX.mono hb24.size)
  have HN4 : Hid (∀ X, Below w4.heap.size w4 X → NumRow X v2 ns) := fun X hX => NumRow.later (w := w2) HN2.out (HB4.out X hX)
  have HWS : Hid (w.heap.size ≤ w4.heap.size) := Nat.le_trans HB2.out.size hb24.size
  clear hk hgg hfl hL hgd hgl hb4 HG HB3 hb24 HN2
  go_wp2
  go_loopw [8, 20] (fun v vi wr => ∃ (i q : Nat) (acc : List En), vi = .int .i64 i ∧ i ≤ k ∧ q ≤ 1000000000000 ∧ Hid (acc.length = q) ∧ Hid (acc = (gs.take i).flatMap (tg true ns)) ∧ Hid (wr.ownsRow w4.heap.size 28 4 v q (enShape.vals acc)) ∧ Hid (Below w4.heap.size w4 wr)) (fun _ vi _ => k - (intOf vi).toNat)
  case atStart => exact ⟨0, 0, [], rfl, by omega, by omega, rfl, rfl, World.ownsRow_nil _ _ _ _, Below.refl _ _⟩
  case round =>
    obtain ⟨i, q, acc, rfl, hik, hq, HQ, HA, HO, HB⟩ := hrel
    by_cases hlt : i < k
    · have hlt' : (i : Int) < (k : Int) := by omega
      obtain ⟨gb, goff, p, cc, rfl, hgb, hcell, hpn, hel⟩ := HLS.out wr HB.out i (by have := HK.out; omega)
      have hmem : gs.getD i [] ∈ gs := by
        rw [List.getD_eq_getElem?_getD, List.getElem?_eq_getElem (by have := HK.out; omega)]; exact List.getElem_mem _
      have hgl : (gs.getD i []).length ≤ 1000000000000 := by
        have h2 := HGG.out _ hmem
        have h3 := HLL.out
        omega
      have hone := HGD.out.1 _ hmem
      have HI : Hid _ := needed_any p cc (gs.getD i []) HNS.out.1 HNS.out.2 wr hel (HN4.out wr HB.out) hone hgl
      have hfn : (gs.take (i + 1)).flatMap (tg true ns) = acc ++ tg true ns (gs.getD i []) := by rw [HA.out]; exact flatMap_next (by have := HK.out; omega)
      have HLE : Hid (q + (tg true ns (gs.getD i [])).length ≤ 1000000000000) := by
        have := HLEN.out (i + 1)
        rw [hfn, List.length_append, HQ.out] at this
        exact this
      have HFN : Hid _ := hfn
      generalize gs.getD i [] = g at *
      have HTL : Hid ((tr ns none g).length ≤ 1000000000000) := by have := (tr_sub ns none g).length_le; show _ ≤ _; omega
      have HONE : Hid (One (tr ns none g)) := one_sub hone (tr_sub ns none g)
      obtain ⟨lg, hlg⟩ : ∃ lg, lg = g.length := ⟨_, rfl⟩
      rw [← hlg] at hcell HI hgl
      clear hel hpn hlg hmem hone hfn
      have hbs := HB.out.size
      go_wp2_with fail
      refine (show Calls _ _ _ _ _ from HI.out).mono ?_
      rintro e w5 ⟨v5, rfl, ho5, hb5⟩
      have HB5 : Hid (Below w4.heap.size w4 w5) := HB.out.trans (hb5.mono hbs)
      have HO5 : Hid (w5.ownsRow w4.heap.size 28 4 _ q (enShape.vals acc)) := rows_keep HO.out fun j hj => hb5.block j (World.ownsRow.lt HO.out j hj).2
      obtain ⟨ao5, c5, rfl, hn5, hx5, hc5, hc563⟩ := own_lens ho5
      have HDE : Hid _ := deadEnd_any ao5 c5 (tr ns none g) w5 hx5 hn5 HONE.out HTL.out hc5 hc563
      have HX5 : Hid _ := hx5
      have HN5 : Hid _ := hn5
      clear ho5 hb5 hx5 hc5 hc563 HI hcell HA HO HB HTL HONE hn5
      go_wp2_with fail
      refine (show Calls _ _ _ _ _ from HDE.out).mono ?_
      rintro e w6 ⟨⟨tq, rfl, htq, hst⟩, rfl⟩
      have hn5 := HN5.out
      have HTQ : Hid (((tr ns none g).take tq).length = tq) := by show _ = _; rw [List.length_take]; omega
      have hst2 : tg true ns g = (tr ns none g).take tq := hst
      have HF2 : Hid (acc ++ (tr ns none g).take tq = (gs.take (i + 1)).flatMap (tg true ns)) := by rw [HFN.out, hst2]; show _ = _; rfl
      have HLE2 : Hid (q + tq ≤ 1000000000000) := by
        have := HLE.out
        rw [hst2, HTQ.out] at this; exact this
      have HEl : Hid _ := elems_take HX5.out tq
      clear hst hst2 htq HLE HFN HDE HX5 HN5
      go_wp2_with (at_builtin; refine wpList_append_rows (F := enShape) _ rfl _ _ 22 rfl w4.heap.size 28 i0 _ 48 Try.underlying22 hi hz0 hz1 hz2 rfl _ q acc rfl HO5.out ao5 tq c5 ((tr ns none g).take tq) rfl hn5 HTQ.out HEl.out ?c1 ?c2 ?c3 ?_)
      case c1 => have := HLE2.out; unfold maxLen; omega
      case c2 => have := HLE2.out; omega
      case c3 => exact HB5.out.size
      intro v6 w6 hown6 hgrow6 hat6
      have HB6 : Hid (Below w4.heap.size w4 w6) := HB5.out.grown hgrow6 HB5.out.size (fun k hk => (World.ownsRow.lt HO5.out k hk).1)
      have HO6 : Hid _ := hown6
      have hle := HLE2.out
      clear hown6 hgrow6 hat6 HO5 HB5 HEl
      go_wp2
      go_roundw
      case rel => exact ⟨i + 1, _, _, by go_num, by omega, hle, by have := HQ.out; show _ = _; rw [List.length_append, HQ.out, HTQ.out], HF2, HO6, HB6⟩
      case measure => simp [intOf]; omega
    · obtain rfl : i = k := by omega
      have hlt' : ¬ (i : Int) < (i : Int) := by omega
      have HE : Hid (acc = trim true ns (merged l)) := by
        rw [HFL.out]
        have := HA.out
        rw [HK.out, List.take_length] at this
        exact this
      have HBf : Hid (Below w.heap.size w wr) := HB2.out.trans ((HB4.out wr HB.out).mono HB2.out.size)
      have hof := own_base HO.out HWS.out
      rw [← HQ.out, HE.out] at hof
      have HOf : Hid _ := hof
      clear hof HO HB HLS HB4 HN4
      go_wp2
      go_ret
      exact ⟨_, rfl, HOf.out, HBf.out⟩

theorem trim_any (b : Bool) (ao : Option Addr) (c : Nat) (l : List En) (so : Option Addr) (sc : Nat) (seen : List Int) (w : World) (hx : ElemsAt enShape w ao l) (hnil : ao = none → c = 0) (hl : l.length ≤ 1000000000000) (hsn : CellsAt w so (seen.map (Value.int .i64))) (hsl : seen.length ≤ 1000000000000) :
    Calls Try.prog 14 #[.slice ao l.length c, .bool b, .slice so seen.length sc] w (MAns w (trim b seen (merged l))) := by
  cases b
  · exact trimF_any ao c l so sc seen w hx hnil hl hsn hsl
  · exact trimT_any ao c l so sc seen w hx hnil hl hsn hsl
end Go.Proofs.Ytdaibmafnamfgaa.Mg
