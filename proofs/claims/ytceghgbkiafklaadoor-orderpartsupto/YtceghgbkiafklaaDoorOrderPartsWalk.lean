/-
  The statement OrderParts, walked: whatever numbers and texts lie in memory, it answers true.
-/
import Derived.Test.YtceghgbkiafklaaDoorOrderLives
import Derived.Test.YtceghgbkiafklaaDoorOrderSame
import Derived.Laws.OwnMore
namespace Go.Proofs.YtceghgbkiafklaaDoor.Od
open Go.RowKit
open Go.Proofs.YtceghgbkiafklaaDoor.Cm
attribute [local go_sem ↓] Go.wp_at_zero Go.wp_at_succ
set_option linter.unusedVariables false

theorem partVals_setN (ps : List Pt) (k : Nat) (y : Int) (h : k < ps.length) : (partVals ps).set (k * 3 + 1) (.int .i64 y) = partVals (ps.set k ⟨(ps.getD k Pt.zero).k, y, (ps.getD k Pt.zero).s⟩) := by
  induction ps generalizing k with
  | nil => simp at h
  | cons p ps ih =>
    rw [partVals_cons]
    cases k with
    | zero => simp [partVals_cons]
    | succ k =>
      have := ih k (by simpa using h)
      rw [show (k + 1) * 3 + 1 = k * 3 + 1 + 3 by omega]
      simp only [List.set_cons_succ, this, List.getD_cons_succ, partVals_cons]
theorem partVals_setS (ps : List Pt) (k : Nat) (y : ByteArray) (h : k < ps.length) : (partVals ps).set (k * 3 + 2) (.string y) = partVals (ps.set k ⟨(ps.getD k Pt.zero).k, (ps.getD k Pt.zero).n, y⟩) := by
  induction ps generalizing k with
  | nil => simp at h
  | cons p ps ih =>
    rw [partVals_cons]
    cases k with
    | zero => simp [partVals_cons]
    | succ k =>
      have := ih k (by simpa using h)
      rw [show (k + 1) * 3 + 2 = k * 3 + 2 + 3 by omega]
      simp only [List.set_cons_succ, this, List.getD_cons_succ, partVals_cons]

theorem size_le_total {x : ByteArray} {xs : List ByteArray} (h : x ∈ xs) : x.size ≤ total xs := by
  induction xs with
  | nil => simp at h
  | cons y ys ih =>
    simp only [total, List.map_cons, List.sum_cons] at ih ⊢
    rcases List.mem_cons.1 h with rfl | h
    · omega
    · have := ih h; omega
def apart (u v : Value) : Prop := ∀ k, u.ownBlock = some k → v.ownBlock ≠ some k
theorem apart.symm {u v : Value} (h : apart u v) : apart v u := fun k hk e => h k e hk
/-- Four rows of parts, each in memory of its own: of the first and the third the content is left open. -/
structure Four (w0 : World) (vA vB vC vD : Value) (n m : Nat) (bs ds : List Pt) (w : World) : Prop where
  A : ∃ ps : List Pt, ps.length = n ∧ w.ownsRow w0.heap.size 25 3 vA n (partVals ps)
  B : w.ownsRow w0.heap.size 25 3 vB n (partVals bs)
  C : ∃ ps : List Pt, ps.length = m ∧ w.ownsRow w0.heap.size 25 3 vC m (partVals ps)
  D : w.ownsRow w0.heap.size 25 3 vD m (partVals ds)
  ab : apart vA vB
  ac : apart vA vC
  ad : apart vA vD
  cb : apart vC vB
  cd : apart vC vD
  bel : Below w0.heap.size w0 w
section
variable {w0 w : World} {vA vB vC vD : Value} {n m : Nat} {bs ds : List Pt}
theorem own_mono3 {B B' : Nat} {e : TypeId} {v : Value} {xs : List Value} (h : w.ownsRow B e 3 v n xs) (hb : B' ≤ B) : w.ownsRow B' e 3 v n xs := by
  refine ⟨h.1, ?_⟩
  rcases h.2 with h | ⟨g, cap, cur, rfl, h1, h2⟩
  · exact .inl h
  · exact .inr ⟨g, cap, cur, rfl, by omega, h2⟩
theorem apart_of {B : Nat} {e : TypeId} {u v : Value} {xs ys : List Value} {w' : World} {k : Nat} (h : w.ownsRow B e 3 u n xs) (h2 : w'.ownsRow w.heap.size e 3 v k ys) : apart u v := fun i hi e => by
  have a := (h.lt i hi).2
  have b := (h2.lt i e).1
  omega
theorem own_other {B : Nat} {e : TypeId} {v : Value} {xs : List Value} {g j : Nat} {u : Value} (h : w.ownsRow B e 3 v n xs) (hne : v.ownBlock ≠ some g) : (w.setCell ⟨g, j, none⟩ u).ownsRow B e 3 v n xs :=
  ownsRow_setCell_other h hne _
theorem Four.at {k : Nat} (ps : List Pt) (hl : ps.length = n) (h : w.ownsRow w0.heap.size 25 3 vA n (partVals ps)) (hk : k < n) :
    ∃ g cap, vA = .slice (some ⟨g, 0, none⟩) n cap ∧ w0.heap.size ≤ g ∧ g < w.heap.size ∧ w.cell? ⟨g, k * 3 + 1, none⟩ = some (.int .i64 (ps.getD k Pt.zero).n) ∧ w.cell? ⟨g, k * 3 + 2, none⟩ = some (.string (ps.getD k Pt.zero).s) ∧ ∀ j, w.frozen? ⟨g, j, none⟩ = false := by
  rcases h.2 with ⟨_, h0⟩ | ⟨g, cap, cur, rfl, hB, hg, _⟩
  · omega
  · obtain ⟨g0, g1, g2⟩ := partVals_get ps k (by omega)
    have c1 := h.cells (g := g) rfl _ _ g1
    have c2 := h.cells (g := g) rfl _ _ g2
    rw [Go.WideShapes.add_plain, Nat.zero_add] at c1 c2
    exact ⟨g, cap, rfl, hB, lt_of_block hg, c1, c2, fun j => by simp [World.frozen?, hg]⟩
theorem Four.storeA {g cap k : Nat} {y : Int} (h : Four w0 (.slice (some ⟨g, 0, none⟩) n cap) vB vC vD n m bs ds w) (hk : k < n) : Four w0 (.slice (some ⟨g, 0, none⟩) n cap) vB vC vD n m bs ds (w.setCell ⟨g, k * 3 + 1, none⟩ (.int .i64 y)) := by
  obtain ⟨ps, hl, hA⟩ := h.A
  obtain ⟨qs, hq, hC⟩ := h.C
  have st := hA.stored (k * 3 + 1) (.int .i64 y)
  rw [partVals_setN ps k y (by omega)] at st
  have hgB : w0.heap.size ≤ g := (hA.lt g rfl).1
  refine ⟨⟨_, by simp [hl], st.1⟩, own_other h.B (h.ab g rfl), ⟨qs, hq, own_other hC (h.ac g rfl)⟩, own_other h.D (h.ad g rfl), h.ab, h.ac, h.ad, h.cb, h.cd, ?_⟩
  exact h.bel.grown st.2 h.bel.size (fun i hi => by cases hi; exact hgB)
theorem Four.storeC {g cap k : Nat} {y : ByteArray} (h : Four w0 vA vB (.slice (some ⟨g, 0, none⟩) m cap) vD n m bs ds w) (hk : k < m) : Four w0 vA vB (.slice (some ⟨g, 0, none⟩) m cap) vD n m bs ds (w.setCell ⟨g, k * 3 + 2, none⟩ (.string y)) := by
  obtain ⟨ps, hl, hA⟩ := h.A
  obtain ⟨qs, hq, hC⟩ := h.C
  have st := hC.stored (k * 3 + 2) (.string y)
  rw [partVals_setS qs k y (by omega)] at st
  have hgB : w0.heap.size ≤ g := (hC.lt g rfl).1
  refine ⟨⟨ps, hl, own_other hA (h.ac.symm g rfl)⟩, own_other h.B (h.cb g rfl), ⟨_, by simp [hq], st.1⟩, own_other h.D (h.cd g rfl), h.ab, h.ac, h.ad, h.cb, h.cd, ?_⟩
  exact h.bel.grown st.2 h.bel.size (fun i hi => by cases hi; exact hgB)
end
theorem own_grown {w w' : World} {B n : Nat} {e : TypeId} {u v : Value} {xs : List Value} (h : w.ownsRow B e 3 v n xs) (hg : w.grownBy w' u.ownBlock) (ha : apart u v) : w'.ownsRow B e 3 v n xs :=
  own_keep3 h fun k hk => hg.block k (h.lt k hk).2 (fun e => ha k e.symm hk)

set_option maxRecDepth 100000 in
set_option maxHeartbeats 1000000 in
theorem parts_walk (ao bo : Option Addr) (ca cb : Nat) (xs : List Int) (ts : List ByteArray) (w : World) (hx : CellsAt w ao (intVals xs)) (ht : CellsAt w bo (strVals ts)) (hm : MaxOk w) (lx : xs.length ≤ 1048576) (lt : ts.length ≤ 1048576) (hts : ∀ x ∈ ts, x.size ≤ 281474976710656) :
    Calls Tryd.prog 7 #[.slice ao xs.length ca, .slice bo ts.length cb] w fun e w' => e = .returned (.bool true) ∧ Below w.heap.size w w' := by
  obtain ⟨i0, hi0, hz0, hz1, hz2⟩ := info_parts infoPart
  have hgd := guardPart
  have hns := neq_self
  go_enter Tryd.func7, Tryd.ntmps7
  go_wp2_with fail
  refine (lives_any _ hm).mono ?_
  rintro e w1 ⟨rfl, hb1⟩
  have HB1 : Hid (Below w.heap.size w w1) := hb1
  have hs1 := hb1.size
  clear hb1
  go_wp2_with fail
  refine (Int_any ao ca xs _ (hx.below HB1.out) (by omega)).mono ?_
  rintro e w2 ⟨vA, rfl, hA2, hb2⟩
  have HB2 : Hid (Below w.heap.size w w2) := HB1.out.trans (hb2.mono hs1)
  have hs2 := HB2.out.size
  go_wp2_with fail
  refine (Int_any ao ca xs _ (hx.below HB2.out) (by omega)).mono ?_
  rintro e w3 ⟨vB, rfl, hB3, hb3⟩
  have HB3 : Hid (Below w.heap.size w w3) := HB2.out.trans (hb3.mono hs2)
  have hs3 := HB3.out.size
  have hA3 := own_below3 hA2 hb3
  go_wp2_with fail
  refine (Text_any bo cb ts _ (ht.below HB3.out) (by omega) hts).mono ?_
  rintro e w4 ⟨vC, rfl, hC4, hb4⟩
  have HB4 : Hid (Below w.heap.size w w4) := HB3.out.trans (hb4.mono hs3)
  have hs4 := HB4.out.size
  have hA4 := own_below3 hA3 hb4
  have hB4 := own_below3 hB3 hb4
  go_wp2_with fail
  refine (Text_any bo cb ts _ (ht.below HB4.out) (by omega) hts).mono ?_
  rintro e w5 ⟨vD, rfl, hD5, hb5⟩
  have HB5 : Hid (Below w.heap.size w w5) := HB4.out.trans (hb5.mono hs4)
  have HF : Hid (Four w vA vB vC vD xs.length ts.length (xs.map intP) (ts.map textP) w5) :=
    ⟨⟨xs.map intP, by simp, own_mono3 (own_below3 hA4 hb5) hs1⟩, own_mono3 (own_below3 hB4 hb5) hs2, ⟨ts.map textP, by simp, own_mono3 (own_below3 hC4 hb5) hs3⟩, own_mono3 hD5 hs4,
      apart_of hA2 hB3, apart_of hA3 hC4, apart_of hA4 hD5, (apart_of hB3 hC4).symm, apart_of hC4 hD5, HB5.out⟩
  obtain ⟨aA, cA, rfl⟩ := own_slice3 hA2
  obtain ⟨aB, cB, rfl⟩ := own_slice3 hB3
  obtain ⟨aC, cC, rfl⟩ := own_slice3 hC4
  obtain ⟨aD, cD, rfl⟩ := own_slice3 hD5
  clear hA2 hb2 hB3 hb3 hA3 hC4 hb4 hA4 hB4 hD5 hb5 HB1 HB2 HB3 HB4 HB5 hs1 hs2 hs3 hs4
  go_wp2_with fail
  go_loopw [39] (fun i wr => ∃ k : Nat, k ≤ xs.length ∧ i = .int .i64 k ∧ Hid (Four w (.slice aA xs.length cA) (.slice aB xs.length cB) (.slice aC ts.length cC) (.slice aD ts.length cD) xs.length ts.length (xs.map intP) (ts.map textP) wr)) (fun i _ => xs.length - (intOf i).toNat)
  case atStart => exact ⟨0, by omega, rfl, HF⟩
  case round =>
    clear HF
    obtain ⟨k, hk, rfl, HF⟩ := hrel
    by_cases hlt : k < xs.length
    · obtain ⟨ps, hl, hA⟩ := HF.out.A
      obtain ⟨g, cap, e, _, _, hc1, _, hfz⟩ := Four.at ps hl hA hlt
      obtain ⟨rfl, rfl⟩ : aA = some ⟨g, 0, none⟩ ∧ cA = cap := by simpa using e
      have hf1 := hfz (k * 3 + 1)
      generalize (ps.getD k Pt.zero).n = y at *
      have HN : Hid (∀ y, Four w _ _ _ _ _ _ _ _ (wr.setCell ⟨g, k * 3 + 1, none⟩ (.int .i64 y))) := fun y => HF.out.storeA hlt
      clear hfz hA hl e
      go_wp2
      go_roundw
      case rel => exact ⟨k + 1, by omega, by go_num, HN.out _⟩
      case measure => simp [intOf]; omega
    · go_wp2_with fail
      go_loopw [55] (fun i wr => ∃ k : Nat, k ≤ ts.length ∧ i = .int .i64 k ∧ Hid (Four w (.slice aA xs.length cA) (.slice aB xs.length cB) (.slice aC ts.length cC) (.slice aD ts.length cD) xs.length ts.length (xs.map intP) (ts.map textP) wr)) (fun i _ => ts.length - (intOf i).toNat)
      case atStart => exact ⟨0, by omega, rfl, HF⟩
      case round =>
        clear HF hlt hk
        obtain ⟨k2, hk, rfl, HF⟩ := hrel
        by_cases hlt : k2 < ts.length
        · obtain ⟨ps, hl, hC⟩ := HF.out.C
          obtain ⟨g, cap, e, _, _, _, hc1, hfz⟩ := Four.at ps hl hC hlt
          obtain ⟨rfl, rfl⟩ : aC = some ⟨g, 0, none⟩ ∧ cC = cap := by simpa using e
          have hf1 := hfz (k2 * 3 + 2)
          generalize (ps.getD k2 Pt.zero).s = y at *
          have HN : Hid (∀ y, Four w _ _ _ _ _ _ _ _ (wr.setCell ⟨g, k2 * 3 + 2, none⟩ (.string y))) := fun y => HF.out.storeC hlt
          clear hfz hC hl e
          go_wp2
          go_roundw
          case rel => exact ⟨k2 + 1, by omega, by go_num, HN.out _⟩
          case measure => simp [intOf]; omega
        · obtain ⟨psA, hlA, hA⟩ := HF.out.A
          obtain ⟨psC, hlC, hC⟩ := HF.out.C
          have hB := HF.out.B
          have hD := HF.out.D
          have hsr := HF.out.bel.size
          have HX : Hid (Below w.heap.size w wr) := HF.out.bel
          have HAB : Hid _ := HF.out.ab
          have HAC : Hid _ := HF.out.ac
          have HAD : Hid _ := HF.out.ad
          have HCB : Hid _ := HF.out.cb
          have HCD : Hid _ := HF.out.cd
          have hwx : IntKind.i64.wrap ((xs.length : Int) + 1) = (xs.length : Int) + 1 := IntWalk.i64_in _ ⟨by omega, by omega⟩
          have hwt : IntKind.i64.wrap ((ts.length : Int) + 1) = (ts.length : Int) + 1 := IntWalk.i64_in _ ⟨by omega, by omega⟩
          clear HF
          go_wp2_with (at_builtin; refine wpList_append_parts _ rfl _ _ 22 rfl w.heap.size 25 i0 _ Tryd.underlying22 hi0 hz0 hz1 hz2 rfl (.slice aA xs.length cA) xs.length psA rfl (own_alloc3 hA _) _ 1 1 [⟨0, 0, ⟨#[]⟩⟩] rfl (fun h => by cases h) rfl (parts_new wr ⟨0, 0, ⟨#[]⟩⟩) ?c3 ?c4 ?_)
          case c3 => omega
          case c4 => simp; omega
          intro v6 w6 hown6 hgrow6 hat6
          have hB6 := own_grown (own_alloc3 hB _) hgrow6 HAB.out
          have hC6 := own_grown (own_alloc3 hC _) hgrow6 HAC.out
          have hD6 := own_grown (own_alloc3 hD _) hgrow6 HAD.out
          have HB6 : Hid (Below w.heap.size w w6) := (HX.out.alloc hsr _).grown hgrow6 (by simp; omega) (fun i hi => (hA.lt i hi).1)
          have hs6 := HB6.out.size
          obtain ⟨a6, c6, rfl⟩ := own_slice3 hown6
          clear hown6 hgrow6 hat6 hA hB hC hD HX HAB HAC HAD
          go_wp2_with (at_builtin; refine wpList_append_parts _ rfl _ _ 22 rfl w.heap.size 25 i0 _ Tryd.underlying22 hi0 hz0 hz1 hz2 rfl (.slice aC ts.length cC) ts.length psC rfl (own_alloc3 hC6 _) _ 1 1 [⟨0, 0, ⟨#[]⟩⟩] rfl (fun h => by cases h) rfl (parts_new w6 ⟨0, 0, ⟨#[]⟩⟩) ?d3 ?d4 ?_)
          case d3 => omega
          case d4 => simp; omega
          intro v7 w7 hown7 hgrow7 hat7
          have HB7r : Hid _ := own_grown (own_alloc3 hB6 _) hgrow7 HCB.out
          have HD7r : Hid _ := own_grown (own_alloc3 hD6 _) hgrow7 HCD.out
          have HB7 : Hid (Below w.heap.size w w7) := (HB6.out.alloc hs6 _).grown hgrow7 (by simp; omega) (fun i hi => (hC6.lt i hi).1)
          have hs7 := HB7.out.size
          obtain ⟨a7, c7, rfl⟩ := own_slice3 hown7
          clear hown7 hgrow7 hat7 hB6 hC6 hD6 HB6 HCB HCD
          go_wp2_with fail
          go_loopw [73] (fun i wr => ∃ k : Nat, k ≤ xs.length ∧ i = .int .i64 k ∧ Hid (Below w7.heap.size w7 wr)) (fun i _ => xs.length - (intOf i).toNat)
          case atStart => exact ⟨0, by omega, rfl, Below.refl _ _⟩
          case round =>
            clear hlt hk
            obtain ⟨k3, hk, rfl, HW⟩ := hrel
            by_cases hlt : k3 < xs.length
            · rcases (hx.below HB7.out).below HW.out with h0 | ⟨b, off, rfl, hbl, hcells⟩
              · simp [intVals] at h0; simp [h0] at hlt
              have hc := hcells k3 (by simp [intVals, hlt])
              simp only [intVals, List.getElem?_map, List.getElem?_eq_getElem hlt, Option.map_some] at hc
              have hlm : xs.length = (xs.map intP).length := by simp
              have hBr := own_below3 HB7r.out HW.out
              rw [hlm] at hBr
              obtain ⟨ao', cap', e, _, _, _, hp⟩ := own_parts hBr
              obtain ⟨rfl, rfl⟩ : aB = ao' ∧ cB = cap' := by simpa using e
              rcases hp with h0 | ⟨b2, off2, rfl, hbl2, hcells2⟩
              · simp at h0; simp [h0] at hlt
              have hc2 := hcells2 k3 (by simpa using hlt)
              have eg : (xs.map intP).getD k3 Pt.zero = intP xs[k3] := by simp [hlt]
              rw [eg] at hc2
              obtain ⟨d0, d1, d2⟩ := hc2
              simp only [intP] at d0 d1 d2
              generalize xs[k3] = y at *
              clear hcells hcells2 hBr hlm eg e
              go_wp2
              go_roundw
              case rel => exact ⟨k3 + 1, by omega, by go_num, HW⟩
              case measure => simp [intOf]; omega
            · go_wp2_with fail
              go_loopw [88] (fun i wr2 => ∃ k : Nat, k ≤ ts.length ∧ i = .int .i64 k ∧ Hid (Below w7.heap.size w7 wr2)) (fun i _ => ts.length - (intOf i).toNat)
              case atStart => exact ⟨0, by omega, rfl, HW⟩
              case round =>
                clear HW hlt hk
                obtain ⟨k4, hk, rfl, HW⟩ := hrel
                by_cases hlt : k4 < ts.length
                · rcases (ht.below HB7.out).below HW.out with h0 | ⟨b, off, rfl, hbl, hcells⟩
                  · simp [strVals] at h0; simp [h0] at hlt
                  have hc := hcells k4 (by simp [strVals, hlt])
                  simp only [strVals, List.getElem?_map, List.getElem?_eq_getElem hlt, Option.map_some] at hc
                  have hlm : ts.length = (ts.map textP).length := by simp
                  have hDr := own_below3 HD7r.out HW.out
                  rw [hlm] at hDr
                  obtain ⟨ao', cap', e, _, _, _, hp⟩ := own_parts hDr
                  obtain ⟨rfl, rfl⟩ : aD = ao' ∧ cD = cap' := by simpa using e
                  rcases hp with h0 | ⟨b2, off2, rfl, hbl2, hcells2⟩
                  · simp at h0; simp [h0] at hlt
                  have hc2 := hcells2 k4 (by simpa using hlt)
                  have eg : (ts.map textP).getD k4 Pt.zero = textP ts[k4] := by simp [hlt]
                  rw [eg] at hc2
                  obtain ⟨d0, d1, d2⟩ := hc2
                  simp only [textP] at d0 d1 d2
                  generalize ts[k4] = y at *
                  clear hcells hcells2 hDr hlm eg e
                  go_wp2
                  go_roundw
                  case rel => exact ⟨k4 + 1, by omega, by go_num, HW⟩
                  case measure => simp [intOf]; omega
                · go_wp2
                  go_ret
                  exact ⟨rfl, HB7.out.trans (HW.out.mono hs7)⟩
end Go.Proofs.YtceghgbkiafklaaDoor.Od
