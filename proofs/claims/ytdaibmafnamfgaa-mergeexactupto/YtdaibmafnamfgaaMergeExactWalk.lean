/-
  The walk of MergeExact.
-/
import Derived.Test.YtdaibmafnamfgaaMergeTrimsWalk
import Derived.Test.YtdaibmafnamfgaaMergeRefTrim
namespace Go.Proofs.Ytdaibmafnamfgaa.Mg
open Go.RowKit Go.Shelf Cm Mm
set_option linter.unusedVariables false

def spareE : En := ⟨⟨#[115, 112, 97, 114, 101]⟩, 0, false, ⟨#[]⟩⟩
def markE : En := ⟨⟨#[109, 97, 114, 107]⟩, 0, false, ⟨#[]⟩⟩
theorem int_one (w : World) (x : Int) : ElemsAt intShape (w.alloc (.cells #[.int .i64 x] 3)) (some ⟨w.heap.size, 0, none⟩) [x] := by
  refine .inr ⟨w.heap.size, 0, rfl, by simp, fun i hi j u hu => ?_⟩
  have hj : j < intShape.sz := by rw [← intShape.len [x][i]]; exact (List.getElem?_eq_some_iff.1 hu).1
  have hj1 : j < 1 := hj
  obtain rfl : j = 0 := by omega
  rw [Joins.cell_of_block (show (w.alloc (.cells #[.int .i64 x] 3)).heap[w.heap.size]? = some (.cells #[.int .i64 x] 3 (0, 0)) from heap_alloc_new w _)]
  obtain rfl : i = 0 := by simp at hi; omega
  simpa [intShape] using hu
/-- The beginning of a row of one's own. -/
theorem elems_front {w : World} {ao : Option Addr} {xs ys : List En} (h : ElemsAt enShape w ao (xs ++ ys)) : ElemsAt enShape w ao xs := by
  rcases h with h | ⟨b, off, rfl, hb, hc⟩
  · exact .inl (List.append_eq_nil_iff.1 h).1
  · refine .inr ⟨b, off, rfl, hb, fun i hi j u hu => ?_⟩
    refine hc i (by rw [List.length_append]; omega) j u ?_
    rw [List.getElem_append_left hi]; exact hu
theorem grown_refl (w : World) (r : Option Nat) : w.grownBy w r := ⟨rfl, rfl, rfl, Nat.le_refl _, fun _ _ _ => rfl⟩
/-- Marked versions, in memory of one's own; all else lies as it did. -/
def MarkE (B : Nat) (v : Value) (n : Nat) (w0 w : World) : Prop := (∃ xs : List En, xs.length = n ∧ w.ownsRow B 28 4 v n (enShape.vals xs)) ∧ w0.grownBy w v.ownBlock

set_option maxRecDepth 100000 in
set_option maxHeartbeats 8000000 in
theorem exact_any (ao bo so : Option Addr) (ca cb sc : Nat) (a b : List En) (seen : List Int) (w : World) (ha : ElemsAt enShape w ao a) (na : ao = none → ca = 0) (hb : ElemsAt enShape w bo b) (nb : bo = none → cb = 0) (hs : CellsAt w so (seen.map (Value.int .i64))) (ns : so = none → sc = 0) (hl : a.length + b.length ≤ 1048576) (hsl : seen.length ≤ 1048576) :
    Calls Try.prog 4 #[.slice ao a.length ca, .slice bo b.length cb, .slice so seen.length sc] w fun e w' => e = .returned (.bool true) ∧ Below w.heap.size w w' := by
  obtain ⟨e0, hei, hez0, hez1, hez2⟩ := info_parts infoEn
  obtain ⟨i0, hi, hz0, hz1, hz2⟩ := info_parts info1
  have HA : Hid (∀ X, Below w.heap.size w X → Lies X ao ca a) := fun X hX => ⟨ha.later hX, na⟩
  have HB : Hid (∀ X, Below w.heap.size w X → Lies X bo cb b) := fun X hX => ⟨hb.later hX, nb⟩
  have HS : Hid (∀ X, Below w.heap.size w X → CellsAt X so (seen.map (Value.int .i64))) := fun X hX => hs.keep (fun b hb => hX.block b hb) hX.size
  have HNS : Hid _ := ns
  have HNA : Hid _ := na
  have HL : Hid (a.length + b.length ≤ 1048576 ∧ seen.length ≤ 1048576) := ⟨hl, hsl⟩
  obtain ⟨la, hla⟩ : ∃ n, n = a.length := ⟨_, rfl⟩
  obtain ⟨lb, hlb⟩ : ∃ n, n = b.length := ⟨_, rfl⟩
  obtain ⟨sl, hslq⟩ : ∃ n, n = seen.length := ⟨_, rfl⟩
  have HLA : Hid _ := hla
  have HLB : Hid _ := hlb
  have HSL : Hid _ := hslq
  have hla2 : la ≤ 1048576 := by omega
  have hlb2 : lb ≤ 1048576 := by omega
  have hsl2 : sl ≤ 1048576 := by omega
  rw [← hla, ← hlb, ← hslq]
  clear ha hb na nb hs ns hl hsl hla hlb hslq
  go_enter Try.func4, Try.ntmps4
  go_wp2_with fail
  refine (lives_any _).mono ?_
  rintro e w0 ⟨rfl, hb0⟩
  have H0 : Hid _ := hb0
  have hbe : Below w.heap.size w (w0.alloc (.cells #[] 28)) := hb0.alloc hb0.size _
  have he0 := own_emptyT w0 28 4 w0.heap.size (Nat.le_refl _)
  have hae := (HA.out _ hbe).elems
  have hna := HNA.out
  clear hbe hb0
  go_wp2_with (at_builtin; refine wpList_append_rows (F := enShape) _ rfl _ _ 22 rfl w0.heap.size 28 e0 _ 48 Try.underlying22 hei hez0 hez1 hez2 rfl _ 0 [] rfl he0 ao la ca a rfl hna HLA.out.symm hae ?c1 ?c2 ?c3 ?_)
  case c1 => unfold maxLen; omega
  case c2 => omega
  try (case c3 => first | omega | (simp; done) | (simp; omega))
  intro v1 w1 hown1 hgrow1 hat1
  have HB1 : Hid (Below w0.heap.size w0 w1) := ((Below.refl _ w0).alloc (Nat.le_refl _) _).grown hgrow1 (by simp) (fun k hk => (World.ownsRow.lt he0 k hk).1)
  have HO1 : Hid (w1.ownsRow w0.heap.size 28 4 v1 la (enShape.vals a)) := by first | exact hown1 | simpa using hown1
  have helm : ElemsAt enShape (w1.alloc (entObj spareE)) (some ⟨w1.heap.size, 0, none⟩) [spareE] := elems1 spareE
  unfold entObj spareE at helm
  have hws1 : w0.heap.size ≤ w1.heap.size := HB1.out.size
  clear hown1 hgrow1 hat1 he0 hae hna
  go_wp2_with (at_builtin; refine wpList_append_rows (F := enShape) _ rfl _ _ 22 rfl w0.heap.size 28 e0 _ 48 Try.underlying22 hei hez0 hez1 hez2 rfl v1 la a rfl (World.ownsRow.alloc HO1.out _) (some ⟨w1.heap.size, 0, none⟩) 1 1 [spareE] rfl (by simp) rfl helm ?d1 ?d2 ?d3 ?_)
  case d1 => unfold maxLen; omega
  case d2 => omega
  try (case d3 => first | omega | (simp; done) | (simp; omega))
  intro v2 w2 hown2 hgrow2 hat2
  have HB2 : Hid (Below w0.heap.size w0 w2) := (HB1.out.alloc hws1 _).grown hgrow2 (by simp; omega) (fun k hk => (World.ownsRow.lt HO1.out k hk).1)
  obtain ⟨g, cap, rfl, _, hglt, hgle⟩ := own_formK (k := 4) hown2 (by omega)
  have HX2 : Hid (∀ X, Below w2.heap.size w2 X → ElemsAt enShape X (some ⟨g, 0, none⟩) (a ++ [spareE])) := fun X hX => by
    have hl : (a ++ [spareE]).length = la + 1 := by rw [List.length_append, HLA.out]; rfl
    obtain ⟨ao', c', e1, _, hx, _, _⟩ := own_lens (show OwnE w2 w0.heap.size (.slice (some ⟨g, 0, none⟩) (la + 1) cap) (a ++ [spareE]) by unfold OwnE; rw [hl]; exact hown2)
    injection e1 with h1 _ _
    rw [← h1] at hx
    exact hx.later hX
  have hw02 : w0.heap.size ≤ w2.heap.size := HB2.out.size
  have HB02 : Hid (Below w.heap.size w w2) := H0.out.trans (HB2.out.mono H0.out.size)
  clear hown2 hgrow2 hat2 helm HO1 HB1 hglt hws1 HB2 H0
  have he3 := own_emptyT w2 3 1 w2.heap.size (Nat.le_refl _)
  have hbe3 : Below w.heap.size w (w2.alloc (.cells #[] 3)) := HB02.out.alloc HB02.out.size _
  have hse := int_elems (HS.out _ hbe3)
  have hns := HNS.out
  clear hbe3
  go_wp2_with (at_builtin; refine wpList_append_rows (F := intShape) _ rfl _ _ 32 rfl w2.heap.size 3 i0 _ 8 Try.underlying32 hi hz0 hz1 hz2 rfl _ 0 [] rfl he3 so sl sc seen rfl hns HSL.out.symm hse ?f1 ?f2 ?f3 ?_)
  case f1 => unfold maxLen; omega
  case f2 => omega
  try (case f3 => first | omega | (simp; done) | (simp; omega))
  intro v3 w3 hown3 hgrow3 hat3
  have HB3 : Hid (Below w2.heap.size w2 w3) := ((Below.refl _ w2).alloc (Nat.le_refl _) _).grown hgrow3 (by simp) (fun k hk => (World.ownsRow.lt he3 k hk).1)
  have HO3 : Hid (w3.ownsRow w2.heap.size 3 intShape.sz v3 sl (intShape.vals seen)) := by first | exact hown3 | simpa using hown3
  have HT3 : Hid _ := int_one w3 (-77)
  have hws3 : w2.heap.size ≤ w3.heap.size := HB3.out.size
  clear hown3 hgrow3 hat3 he3 hse hns
  go_wp2_with (at_builtin; refine wpList_append_rows (F := intShape) _ rfl _ _ 32 rfl w2.heap.size 3 i0 _ 8 Try.underlying32 hi hz0 hz1 hz2 rfl v3 sl seen rfl (World.ownsRow.alloc HO3.out _) (some ⟨w3.heap.size, 0, none⟩) 1 1 [-77] rfl (by simp) rfl HT3.out ?k1 ?k2 ?k3 ?_)
  case k1 => unfold maxLen; omega
  case k2 => omega
  try (case k3 => first | omega | (simp; done) | (simp; omega))
  intro v4 w4 hown4 hgrow4 hat4
  have HB4 : Hid (Below w2.heap.size w2 w4) := (HB3.out.alloc hws3 _).grown hgrow4 (by simp; omega) (fun k hk => (World.ownsRow.lt HO3.out k hk).1)
  obtain ⟨h, kap, rfl, _, hhlt, hhle⟩ := own_formK (k := 1) hown4 (by omega)
  have HNL : Hid (seen.length = sl) := HSL.out.symm
  have hcn : CellsAt w4 (some ⟨h, 0, none⟩) ((seen ++ [-77]).map (Value.int .i64)) := by
    have := own_cells1 hown4 hhlt
    rw [int_vals] at this
    exact this
  have HX4 : Hid (∀ X, Below w4.heap.size w4 X → Lies X (some ⟨g, 0, none⟩) cap a ∧ X.cell? ⟨g, la * 4, none⟩ = some (.string ⟨#[115, 112, 97, 114, 101]⟩) ∧ CellsAt X (some ⟨h, 0, none⟩) (seen.map (Value.int .i64)) ∧ X.cell? ⟨h, sl, none⟩ = some (.int .i64 (-77)) ∧ Below w.heap.size w X) := fun X hX => by
    have hx2 : Below w2.heap.size w2 X := HB4.out.trans (hX.mono HB4.out.size)
    have he := HX2.out X hx2
    refine ⟨⟨elems_front he, fun e => by cases e⟩, ?_, ?_, ?_, HB02.out.trans (hx2.mono HB02.out.size)⟩
    · obtain ⟨_, _, e1, c0, _⟩ := elem_cells he (k := la) (by rw [List.length_append, HLA.out]; simp)
      cases e1
      rw [Nat.zero_add, List.getD_eq_getElem?_getD, HLA.out, List.getElem?_append_right (Nat.le_refl _), Nat.sub_self] at c0
      rw [HLA.out]
      exact c0
    · have hk := hcn.keep (fun b hb => hX.block b hb) hX.size
      rcases hk with hk | ⟨b, off, e1, hb, hc⟩
      · simp at hk
      · cases e1
        refine .inr ⟨h, 0, rfl, hb, fun i hi => ?_⟩
        have := hc i (by simp at hi ⊢; omega)
        rw [List.map_append, List.getElem?_append_left hi] at this
        exact this
    · have hk := hcn.keep (fun b hb => hX.block b hb) hX.size
      obtain ⟨_, _, e1, _, hc⟩ := int_cell hk (k := sl) (by rw [List.length_append, HSL.out]; simp)
      cases e1
      rw [Nat.zero_add, List.getD_eq_getElem?_getD, HSL.out, List.getElem?_append_right (Nat.le_refl _), Nat.sub_self] at hc
      rw [HSL.out]
      exact hc
  clear hown4 hgrow4 hat4 hcn HO3 HB3 HB4 hhlt HT3 HNL HX2 HB02 hws3 hw02
  have HCAP : Hid (la + 1 ≤ cap ∧ sl + 1 ≤ kap) := ⟨hgle, hhle⟩
  go_upto_region 6 with fail
  have hww := (HX4.out w4 (Below.refl _ _)).2.2.2.2
  have hls := lists2 w4 (HA.out w4 hww).elems (HA.out w4 hww).nil (HB.out w4 hww).elems (HB.out w4 hww).nil
  rw [← HLA.out, ← HLB.out] at hls
  have HLS : Hid (∀ X, Below (w4.alloc (.cells #[.slice ao la ca, .slice bo lb cb] 22)).heap.size (w4.alloc (.cells #[.slice ao la ca, .slice bo lb cb] 22)) X → Lists X (some ⟨w4.heap.size, 0, none⟩) [a, b]) := fun X hX => hls.later hX
  have HBA : Hid (Below w4.heap.size w4 (w4.alloc (.cells #[.slice ao la ca, .slice bo lb cb] 22))) := (Below.refl _ _).alloc (Nat.le_refl _) _
  clear hww hls
  generalize w4.alloc (.cells #[.slice ao la ca, .slice bo lb cb] 22) = wA at *
  have HX5 : Hid (∀ X, Below wA.heap.size wA X → Lies X (some ⟨g, 0, none⟩) cap a ∧ X.cell? ⟨g, la * 4, none⟩ = some (.string ⟨#[115, 112, 97, 114, 101]⟩) ∧ CellsAt X (some ⟨h, 0, none⟩) (seen.map (Value.int .i64)) ∧ X.cell? ⟨h, sl, none⟩ = some (.int .i64 (-77)) ∧ Below w.heap.size w X) := fun X hX => HX4.out X (HBA.out.trans (hX.mono HBA.out.size))
  clear HX4 HBA
  generalize w4.heap.size = p at HLS ⊢
  have hlen := merged_len (a ++ b)
  rw [List.length_append] at hlen
  obtain ⟨L, hLq⟩ : ∃ L, L = merged (a ++ b) := ⟨_, rfl⟩
  obtain ⟨n, hnq⟩ : ∃ n, n = L.length := ⟨_, rfl⟩
  have hn2 : n ≤ 1048576 := by rw [hnq, hLq]; have := HL.out; omega
  have HNL : Hid (L.length = n) := hnq.symm
  have HLq : Hid _ := hLq
  clear hlen hLq hnq
  have HM1 : Hid (∀ X, Below wA.heap.size wA X → Calls Try.prog 10 #[.slice (some ⟨X.heap.size, 0, none⟩) 2 2] (X.alloc (.cells #[.slice (some ⟨g, 0, none⟩) la cap, .slice bo lb cb] 22)) (MAns (X.alloc (.cells #[.slice (some ⟨g, 0, none⟩) la cap, .slice bo lb cb] 22)) L)) := fun X hX => by
    have hf := HX5.out X hX
    have hm := merge2_any X hf.1.elems hf.1.nil (HB.out X hf.2.2.2.2).elems (HB.out X hf.2.2.2.2).nil (by have := HL.out; omega)
    rw [← HLA.out, ← HLB.out, ← HLq.out] at hm
    exact hm
  have HMR : Hid (∀ X, Below wA.heap.size wA X → Calls Try.prog 13 #[.slice (some ⟨p, 0, none⟩) 2 2] X (MAns X L)) := fun X hX => by
    have hm := mergeR_any (some ⟨p, 0, none⟩) 2 [a, b] X (HLS.out X hX) (by simp) (by have := HL.out; simp; omega)
    rw [show [a, b].flatten = a ++ b by simp, ← HLq.out] at hm
    exact hm
  clear HLS HLq
  have hcap := HCAP.out.1
  have HK1 : Hid _ := HM1.out wA (Below.refl _ _)
  go_wp2_with fail
  refine (show Calls _ _ _ _ _ from HK1.out).mono ?_
  rintro e w5 ⟨vm, rfl, hom, hb5⟩
  have hba : Below wA.heap.size wA (wA.alloc (.cells #[.slice (some ⟨g, 0, none⟩) la cap, .slice bo lb cb] 22)) := (Below.refl _ _).alloc (Nat.le_refl _) _
  have HB5 : Hid (Below wA.heap.size wA w5) := hba.trans (hb5.mono hba.size)
  obtain ⟨am, cm, e5, hnm, _, _, _⟩ := own_lens hom
  rw [HNL.out] at e5
  subst e5
  have HOM : Hid (w5.ownsRow wA.heap.size 28 4 (.slice am n cm) n (enShape.vals L)) := by
    have := own_base hom hba.size
    rw [HNL.out] at this
    exact this
  have HK2 : Hid _ := HMR.out w5 HB5.out
  clear hom hb5 hba HK1 HMR hnm
  go_wp2_with fail
  refine (show Calls _ _ _ _ _ from HK2.out).mono ?_
  rintro e w6 ⟨vw, rfl, how, hb6⟩
  have HB6 : Hid (Below wA.heap.size wA w6) := HB5.out.trans (hb6.mono HB5.out.size)
  have HB56 : Hid _ := hb6
  obtain ⟨aw, cw, e6, _, _, _, _⟩ := own_lens how
  rw [HNL.out] at e6
  subst e6
  have HOW : Hid (w6.ownsRow w5.heap.size 28 4 (.slice aw n cw) n (enShape.vals L)) := by
    have := how
    unfold OwnE at this
    rw [HNL.out] at this
    exact this
  have HK3 : Hid _ := HM1.out w6 HB6.out
  clear how hb6 HK2 HM1
  go_wp2_with fail
  refine (show Calls _ _ _ _ _ from HK3.out).mono ?_
  rintro e w7 ⟨vg, rfl, hog, hb7⟩
  have hba : Below w6.heap.size w6 (w6.alloc (.cells #[.slice (some ⟨g, 0, none⟩) la cap, .slice bo lb cb] 22)) := (Below.refl _ _).alloc (Nat.le_refl _) _
  have HB67 : Hid (Below w6.heap.size w6 w7) := hba.trans (hb7.mono hba.size)
  obtain ⟨ag, cg, e7, _, _, _, _⟩ := own_lens hog
  rw [HNL.out] at e7
  subst e7
  have HOG : Hid (w7.ownsRow w6.heap.size 28 4 (.slice ag n cg) n (enShape.vals L)) := by
    have := own_base hog hba.size
    rw [HNL.out] at this
    exact this
  have HB57 : Hid (Below w5.heap.size w5 w7) := HB56.out.trans (HB67.out.mono HB56.out.size)
  have HLO : Hid (∀ (X : World) (B : Nat) (z : Option Addr) (c : Nat), X.ownsRow B 28 4 (.slice z n c) n (enShape.vals L) → Lies X z c L) := fun X B z c ho => by
    obtain ⟨ao', c', e1, h1, h2, _, _⟩ := own_lens (show OwnE X B (.slice z n c) L by unfold OwnE; rw [HNL.out]; exact ho)
    injection e1 with q1 _ q3
    subst q1; subst q3
    exact ⟨h2, h1⟩
  have HSM : Hid (∀ (X : World) (B B' : Nat) (z z' : Option Addr) (c c' : Nat), X.ownsRow B 28 4 (.slice z n c) n (enShape.vals L) → X.ownsRow B' 28 4 (.slice z' n c') n (enShape.vals L) → Calls Try.prog 11 #[.slice z n c, .slice z' n c'] X fun e w' => e = .returned (.bool true) ∧ Below X.heap.size X w') := fun X B B' z z' c c' h1 h2 => by
    have := sm (HLO.out X B z c h1) (HLO.out X B' z' c' h2) (by rw [HNL.out]; omega)
    rw [HNL.out] at this
    exact this
  have HK4 : Hid _ := HSM.out w7 _ _ _ _ _ _ (own_later HOM.out HB57.out) (own_later HOW.out HB67.out)
  clear hog hb7 hba HK3
  go_wp2_with fail
  refine (show Calls _ _ _ _ _ from HK4.out).mono ?_
  rintro e w8 ⟨rfl, hb8⟩
  have HB78 : Hid _ := hb8
  have HK5 : Hid _ := HSM.out w8 _ _ _ _ _ _ (own_later HOG.out hb8) (own_later (own_later HOW.out HB67.out) hb8)
  clear hb8 HK4
  go_wp2_with fail
  refine (show Calls _ _ _ _ _ from HK5.out).mono ?_
  rintro e w9 ⟨rfl, hb9⟩
  have HB79 : Hid (Below w7.heap.size w7 w9) := HB78.out.trans (hb9.mono HB78.out.size)
  have HB59 : Hid (Below w5.heap.size w5 w9) := HB57.out.trans (HB79.out.mono HB57.out.size)
  have HB9 : Hid (Below wA.heap.size wA w9) := HB5.out.trans (HB59.out.mono HB5.out.size)
  have HM9 : Hid (w9.ownsRow wA.heap.size 28 4 (.slice am n cm) n (enShape.vals L)) := own_later HOM.out HB59.out
  have HDW : Hid (∀ X, w9.grownBy X (Value.slice am n cm).ownBlock → Lies X aw cw L ∧ Lies X ag cg L ∧ Below wA.heap.size wA X) := fun X hg => by
    have hne : ∀ (v : Value) (B : Nat) (W : World), w5.heap.size ≤ B → W.ownsRow B 28 4 v n (enShape.vals L) → v.ownBlock = none ∨ v.ownBlock ≠ (Value.slice am n cm).ownBlock := fun v B W hB ho => by
      cases hv : v.ownBlock with
      | none => exact .inl rfl
      | some k =>
        refine .inr fun e => ?_
        have h1 := (World.ownsRow.lt ho k hv).1
        have h2 := (World.ownsRow.lt HOM.out k e.symm).2
        omega
    have hw := own_later (own_later HOW.out HB67.out) HB79.out
    have hg9 := own_later HOG.out HB79.out
    refine ⟨HLO.out X _ _ _ (hw.kept hg (hne _ _ _ (Nat.le_refl _) hw)), HLO.out X _ _ _ (hg9.kept hg (hne _ _ _ HB56.out.size hg9)), HB9.out.grown hg HB9.out.size (fun k hk => (World.ownsRow.lt HOM.out k hk).1)⟩
  have HMK : Hid (MarkE wA.heap.size (.slice am n cm) n w9 w9) := ⟨⟨L, HNL.out, HM9.out⟩, grown_refl _ _⟩
  clear hb9 HK5 HB78 HSM HLO HB5 HB6 HB67 HB57 HB79 HB59 HOM HOW HOG HB56 HM9
  have hb9s : wA.heap.size ≤ w9.heap.size := HB9.out.size
  generalize hVM : wA.heap.size = B9 at HMK hb9s
  have HVM : Hid _ := hVM
  clear hVM
  go_wp2
  go_loopw [61] (fun vi wr => ∃ k : Nat, vi = .int .i64 k ∧ k ≤ n ∧ Hid (MarkE B9 (.slice am n cm) n w9 wr)) (fun vi _ => n - (intOf vi).toNat)
  case atStart => exact ⟨0, rfl, by omega, HMK⟩
  case round =>
    clear HMK
    obtain ⟨k, rfl, hk, HM⟩ := hrel
    by_cases hlt : k < n
    · have hlt' : (k : Int) < (n : Int) := by omega
      obtain ⟨⟨xs, hxl, ho⟩, hg⟩ := HM.out
      obtain ⟨q, qc, e1, _, _, _⟩ := own_formK (k := 4) ho (by omega)
      injection e1 with q1 _ q3
      subst q1; subst q3
      have hr : RowE B9 q n cm w9 xs wr := ⟨ho, hxl, hg⟩
      have hp := hr.put hlt markE
      have hfz := hr.frozen
      obtain ⟨c0, c1, c2, c3⟩ := hr.cells hlt
      have HP : Hid (MarkE B9 (.slice (some ⟨q, 0, none⟩) n cm) n w9 (set4 wr q k markE)) := ⟨⟨_, hp.len, hp.own⟩, hp.grown⟩
      unfold set4 markE at HP
      clear hp hr ho hg hxl HM
      go_wp2
      go_roundw
      case rel =>
        clear c0 c1 c2 c3
        exact ⟨k + 1, by go_num, by omega, HP⟩
      case measure => simp [intOf]; omega
    · have hkn : k = n := by omega
      subst hkn
      have hlt' : ¬ (k : Int) < (k : Int) := by omega
      obtain ⟨⟨xs, hxl, ho⟩, hg⟩ := HM.out
      have HO : Hid _ := ho
      have HG : Hid _ := hg
      have helm : ElemsAt enShape (wr.alloc (entObj En.zero)) (some ⟨wr.heap.size, 0, none⟩) [En.zero] := elems1 En.zero
      unfold entObj En.zero at helm
      have hbw : B9 ≤ wr.heap.size := Nat.le_trans hb9s hg.size
      clear ho hg hlt HM hxl
      go_wp2_with (at_builtin; refine wpList_append_rows (F := enShape) _ rfl _ _ 22 rfl B9 28 e0 _ 48 Try.underlying22 hei hez0 hez1 hez2 rfl _ k xs rfl (World.ownsRow.alloc HO.out _) (some ⟨wr.heap.size, 0, none⟩) 1 1 [En.zero] rfl (by simp) rfl helm ?m1 ?m2 ?m3 ?_)
      case m1 => unfold maxLen; omega
      case m2 => omega
      try (case m3 => first | omega | (simp; done) | (simp; omega))
      intro v10 w10 hown10 hgrow10 hat10
      obtain ⟨q, qc, rfl, _, _, _⟩ := own_formK (k := 4) hown10 (by omega)
      have hd := HDW.out w10 (grown_trans HG.out (grown_trans (World.grownBy_alloc _ _ _) hgrow10))
      have HZ : Hid (∀ X, Below w10.heap.size w10 X → Lies X aw cw L ∧ Lies X ag cg L ∧ Below wA.heap.size wA X) := fun X hX => ⟨hd.1.later hX, hd.2.1.later hX, hd.2.2.trans (hX.mono hd.2.2.size)⟩
      clear hown10 hgrow10 hat10 hd helm HO HG HDW hbw hb9s HVM
      have HF : Hid (∀ X, Below w10.heap.size w10 X → Lies X (some ⟨g, 0, none⟩) cap a ∧ X.cell? ⟨g, la * 4, none⟩ = some (.string ⟨#[115, 112, 97, 114, 101]⟩) ∧ CellsAt X (some ⟨h, 0, none⟩) (seen.map (Value.int .i64)) ∧ X.cell? ⟨h, sl, none⟩ = some (.int .i64 (-77)) ∧ Below w.heap.size w X) := fun X hX => HX5.out X (HZ.out X hX).2.2
      have HWV : Hid (∀ X, Below w10.heap.size w10 X → Lies X aw cw L ∧ Lies X ag cg L) := fun X hX => ⟨(HZ.out X hX).1, (HZ.out X hX).2.1⟩
      have hkap := HCAP.out.2
      clear HX5 HZ
      go_wp2
      go_loopw [14] (fun vi wr => ∃ z : Nat, vi = .int .i64 z ∧ z ≤ 2 ∧ Hid (Below w10.heap.size w10 wr)) (fun vi _ => 2 - (intOf vi).toNat)
      case atStart => exact ⟨0, rfl, by omega, Below.refl _ _⟩
      case round =>
        obtain ⟨z, rfl, hz, HB0⟩ := hrel
        by_cases hlt : z < 2
        · have hlt' : (z : Int) < 2 := by omega
          obtain ⟨bz, hbz⟩ : ∃ bz, ((z : Int) == 0) = bz := ⟨_, rfl⟩
          have HTL : Hid ((trim bz seen (merged a)).length ≤ 1048576) := by
            have h1 := (trim_sub bz seen (merged a)).length_le
            have h2 := merged_len a
            have h3 := HL.out
            show _ ≤ _; omega
          have HB0d : Hid (Below w10.heap.size w10 wr.drew) := HB0.out.drew
          have hm := tm (sc := kap) bz (HF.out wr.drew HB0d.out).1 (by have := HL.out; omega) (HF.out wr.drew HB0d.out).2.2.1 (by have := HL.out; omega)
          rw [← HLA.out, ← HSL.out] at hm
          have HM1 : Hid _ := hm
          have HM2 : Hid (∀ X, Below w10.heap.size w10 X → Calls Try.prog 15 #[.slice ao la ca, .bool bz, .slice so sl sc] X (MLies X (trim bz seen (merged a)))) := fun X hX => by
            have hw := (HF.out X hX).2.2.2.2
            have hm := trimR_any bz ao so ca sc a seen X (HA.out X hw) (HS.out X hw) (by have := HL.out; omega) (by have := HL.out; omega)
            rw [← HLA.out, ← HSL.out] at hm
            exact hm
          clear hm
          generalize trim bz seen (merged a) = T at *
          have p1 : (0 : Int) ≤ (la : Int) := by omega
          have p2 : (la : Int) ≤ (cap : Int) := by omega
          have p3 : (0 : Int) ≤ (sl : Int) := by omega
          have p4 : (sl : Int) ≤ (kap : Int) := by omega
          go_wp2_with fail
          go_region_held3 (fun w' => True) (trivial)
            ((first
              | (go_at_call 14; refine (show Calls _ _ _ _ _ from HM1.out).mono ?_; rintro e w11 ⟨ao1, c1, rfl, hy1, hb1⟩; have HB1 : Hid (Below w10.heap.size w10 w11) := HB0d.out.trans (hb1.mono HB0d.out.size); have HY1 : Hid (∀ X, Below w11.heap.size w11 X → Lies X ao1 c1 T) := fun X hX => hy1.later hX; have HM3 : Hid _ := HM2.out w11 HB1.out; clear hy1 hb1)
              | (go_at_call 15; refine (show Calls _ _ _ _ _ from HM3.out).mono ?_; rintro e w12 ⟨ao2, c2, rfl, hy2, hb2⟩; have HB2 : Hid (Below w10.heap.size w10 w12) := HB1.out.trans (hb2.mono HB1.out.size); have HS3 : Hid _ := sm (HY1.out w12 hb2) hy2 (by have := HTL.out; omega); clear hy2 hb2)
              | (go_at_call 11; refine (show Calls _ _ _ _ _ from HS3.out).mono ?_; rintro e w13 ⟨rfl, hb3⟩; have HB3 : Hid (Below w10.heap.size w10 w13) := HB2.out.trans (hb3.mono HB2.out.size); clear hb3)))
          clear HS3 HB2
          go_wp2
          go_roundw
          case rel => exact ⟨z + 1, by go_num, by omega, HB3⟩
          case measure => simp [intOf]; omega
        · have hlt' : ¬ (z : Int) < 2 := by omega
          clear hlt
          go_wp2
          go_loopw [97] (fun vi wr => ∃ j : Nat, vi = .int .i64 j ∧ j ≤ sl ∧ Hid (Below w10.heap.size w10 wr)) (fun vi _ => sl - (intOf vi).toNat)
          case atStart => exact ⟨0, rfl, by omega, HB0⟩
          case round =>
            clear HB0
            obtain ⟨j, rfl, hj, HB0⟩ := hrel
            by_cases hjl : j < sl
            · have hjl' : (j : Int) < (sl : Int) := by omega
              have hjs : j < seen.length := by have := HSL.out; omega
              obtain ⟨sb, soff, rfl, _, hcn⟩ := int_cell (HS.out wr (HF.out wr HB0.out).2.2.2.2) hjs
              clear hjs
              generalize seen.getD j 0 = nn at *
              have HTL : Hid ((view nn (merged a)).length ≤ 1048576) := by
                have h1 := view_len nn (merged a)
                have h2 := merged_len a
                have h3 := HL.out
                show _ ≤ _; omega
              have hm := vm nn (HF.out wr HB0.out).1 (by have := HL.out; omega)
              rw [← HLA.out] at hm
              have HM1 : Hid _ := hm
              have HM2 : Hid (∀ X, Below w10.heap.size w10 X → Calls Try.prog 17 #[.slice ao la ca, .int .i64 nn] X (MLies X (view nn (merged a)))) := fun X hX => by
                have hm := viewR_any ao ca a nn X (HA.out X (HF.out X hX).2.2.2.2) (by have := HL.out; omega)
                rw [← HLA.out] at hm
                exact hm
              clear hm
              generalize view nn (merged a) = T at *
              go_wp2_with fail
              refine (show Calls _ _ _ _ _ from HM1.out).mono ?_
              rintro e w11 ⟨ao1, c1, rfl, hy1, hb1⟩
              have HB1 : Hid (Below w10.heap.size w10 w11) := HB0.out.trans (hb1.mono HB0.out.size)
              have HY1 : Hid (∀ X, Below w11.heap.size w11 X → Lies X ao1 c1 T) := fun X hX => hy1.later hX
              have HM3 : Hid _ := HM2.out w11 HB1.out
              clear hy1 hb1 HM1 HM2 HB0
              go_wp2_with fail
              refine (show Calls _ _ _ _ _ from HM3.out).mono ?_
              rintro e w12 ⟨ao2, c2, rfl, hy2, hb2⟩
              have HB2 : Hid (Below w10.heap.size w10 w12) := HB1.out.trans (hb2.mono HB1.out.size)
              have HS3 : Hid _ := sm (HY1.out w12 hb2) hy2 (by have := HTL.out; omega)
              clear hy2 hb2 HM3 HB1 HY1
              go_wp2_with fail
              refine (show Calls _ _ _ _ _ from HS3.out).mono ?_
              rintro e w13 ⟨rfl, hb3⟩
              have HB3 : Hid (Below w10.heap.size w10 w13) := HB2.out.trans (hb3.mono HB2.out.size)
              clear hb3 HS3 HB2
              go_wp2
              go_roundw
              case rel => exact ⟨j + 1, by go_num, by omega, HB3⟩
              case measure => simp [intOf]; omega
            · have hjl' : ¬ (j : Int) < (sl : Int) := by omega
              clear hjl
              have hs1 := sm (HWV.out wr HB0.out).2 (HWV.out wr HB0.out).1 (by rw [HNL.out]; omega)
              rw [HNL.out] at hs1
              have HK1 : Hid _ := hs1
              have HK2 : Hid (∀ X, Below w10.heap.size w10 X → Calls Try.prog 11 #[.slice (some ⟨g, 0, none⟩) la cap, .slice ao la ca] X fun e w' => e = .returned (.bool true) ∧ Below X.heap.size X w') := fun X hX => by
                have hf := HF.out X hX
                have hm := sm hf.1 (HA.out X hf.2.2.2.2) (by have := HL.out; omega)
                rw [← HLA.out] at hm
                exact hm
              have HK3 : Hid (∀ X : World, Calls Try.prog 10 #[.slice none 0 0] X (MAns X [])) := fun X => merge_any none 0 [] X (Lists.none _ _) (by simp) (by simp)
              clear hs1
              go_wp2_with fail
              refine (show Calls _ _ _ _ _ from HK1.out).mono ?_
              rintro e w14 ⟨rfl, hb14⟩
              have HB1 : Hid (Below w10.heap.size w10 w14) := HB0.out.trans (hb14.mono HB0.out.size)
              have HK4 : Hid _ := HK2.out w14 HB1.out
              clear hb14 HK1 HK2 HB0
              go_wp2_with fail
              refine (show Calls _ _ _ _ _ from HK4.out).mono ?_
              rintro e w15 ⟨rfl, hb15⟩
              have HB2 : Hid (Below w10.heap.size w10 w15) := HB1.out.trans (hb15.mono HB1.out.size)
              obtain ⟨_, d0, _, d1, _⟩ := HF.out w15 HB2.out
              have HK5 : Hid _ := HK3.out w15
              have hbk := beq_toList (⟨#[115, 112, 97, 114, 101]⟩ : ByteArray) ⟨#[115, 112, 97, 114, 101]⟩
              rw [decide_eq_true rfl] at hbk
              clear hb15 HK4 HK3 HB1
              go_wp2_with fail
              refine (show Calls _ _ _ _ _ from HK5.out).mono ?_
              rintro e w16 ⟨v16, rfl, ho16, hb16⟩
              obtain ⟨a16, c16, e16, _⟩ := own_lens ho16
              subst e16
              have HB3 : Hid (Below w10.heap.size w10 w16) := HB2.out.trans (hb16.mono HB2.out.size)
              have HB4 : Hid (Below w.heap.size w w16) := (HF.out w16 HB3.out).2.2.2.2
              clear hb16 ho16 HK5 HB2 d0 d1
              go_wp2
              go_ret
              exact ⟨rfl, HB4.out⟩
end Go.Proofs.Ytdaibmafnamfgaa.Mg
