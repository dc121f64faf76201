/-
  The texts TableFindsWalk.
-/
import Derived.Test.YtedjohkdfchocaaQTableLives
import Derived.Test.YtedjohkdfchocaaQTableFindsKit

/-
  The walk of the statement TableFinds.
-/
namespace Go.Proofs.Ytedjohkdfchocaa.Tb
open Go.RowKit Cm Mm Bk
open Fr (framesB str sealed)
set_option linter.unusedVariables false

theorem empty_two : ((⟨#[]⟩ : ByteArray) ++ ⟨#[]⟩).toList.isEmpty = true := by
  rw [show ((⟨#[]⟩ : ByteArray) ++ ⟨#[]⟩) = ⟨#[]⟩ from rfl, ByteArray.toList_eq]
  rfl
set_option maxRecDepth 100000 in
set_option maxHeartbeats 8000000 in
theorem tableFinds_walk (ao : Option Addr) (ca : Nat) (es : List En) (K : ByteArray) (s : Int) (w : World) (hx : ElemsAt enShape w ao es) (hca : es.length ≤ ca) (hok : AllOk es) (hsz : es.length + bytesE es ≤ 1048576) (hK : K.size ≤ 9223372036854775807) :
    Calls Try.prog 4 #[.slice ao es.length ca, .string K, .int .i64 s] w fun e w' => e = .returned (.bool true) ∧ Below w.heap.size w w' := by
  obtain ⟨i0, hi, hz0, hz1, hz2⟩ := info_parts infoEn
  have HX : Hid (∀ X, Below w.heap.size w X → Calls Try.prog 9 #[.slice ao es.length ca] X fun e w' => e = .returned (tableV es) ∧ Below w.heap.size w w') := fun X hX =>
    (build_any ao ca es X (hx.later hX) hok hca (small_of hsz)).mono fun e w' ⟨h1, h2⟩ => ⟨h1, hX.trans (h2.mono hX.size)⟩
  have HRt : Hid (∀ X, Below w.heap.size w X → Calls Try.prog 20 #[.slice ao es.length ca] X fun e w' => e = .returned (.bool (right es)) ∧ Below w.heap.size w w') := fun X hX =>
    (rightR_any ao ca es X (hx.later hX) (by omega)).mono fun e w' ⟨h1, h2⟩ => ⟨h1, hX.trans (h2.mono hX.size)⟩
  have HI : Hid (∀ T, tableV es = .tuple #[.string T, .int .i64 0] → IsTable (bs T) es ∧ T.size ≤ 59000000) := fun T h => built hok hsz h
  have HSM : Hid (Small es) := small_of hsz
  have HEl : Hid (ElemsAt enShape w ao es) := hx
  have HOk : Hid (AllOk es) := hok
  have hl : es.length ≤ 1048576 := by omega
  have HKS : Hid (∀ x ∈ keysE es, x.size ≤ 9223372036854775807) := keys_sized (by omega)
  clear hx hok hsz
  go_enter Try.func4, Try.ntmps4
  go_wp2_with fail
  refine (lives_any _).mono ?_
  rintro e w1 ⟨rfl, hb1⟩
  go_wp2_with fail
  refine (HX.out w1 hb1).mono ?_
  rintro e w2 ⟨rfl, hb2⟩
  have HB2 : Hid _ := hb2
  have HRr : Hid _ := HRt.out w2 hb2
  clear hb1 hb2 HX HRt
  by_cases hr : right es = true
  · rw [hr] at HRr
    have hV : tableV es = sealed (tpays es) := by unfold tableV; rw [hr]; rfl
    have HSo : Hid (Sorted es) := right_sorted hr
    rcases sealed_form (tpays es) with ⟨S, hS⟩ | hS
    · obtain ⟨hit, hSs⟩ := HI.out S (hV.trans hS)
      have HIT : Hid _ := hit
      rw [hV, hS]
      clear hS hV HI hit HRr hr
      go_wp2_with fail
      refine (open_any S _ (by omega)).mono ?_
      intro e w3 hA
      obtain ⟨b, rfl, hT3, _⟩ := open_built HIT.out hA
      have hF3 : FAt w es b w3 := ⟨⟨w2, w2.heap.size, hT3, Nat.le_refl _⟩, HB2.out.trans (hT3.bel.mono HB2.out.size), HSo.out, HOk.out, hl⟩
      have HF3 : Hid _ := hF3
      clear hF3 hT3 hA HIT HB2 HSM hSs
      go_wp2_with fail
      refine (FAt.tLen HF3.out).mono ?_
      rintro e w4 ⟨rfl, rfl⟩
      go_wp2_with fail
      refine (FAt.tBlocks HF3.out).mono ?_
      rintro e w4 ⟨rfl, rfl⟩
      go_wp2_with fail
      refine (FAt.blocksR HF3.out HEl.out hca).mono ?_
      rintro e w5 ⟨⟨o5, c5, rfl⟩, hF5⟩
      have HF5 : Hid _ := hF5
      clear hF5 HF3
      go_wp2_with fail
      refine (FAt.tGet HF5.out K s).mono ?_
      rintro e w6 ⟨rfl, hF6⟩
      have HMF : Hid ((getE es K s).isSome = true → Bl.may (filt (keysE es)) K = true) := may_found
      have HGR : Hid _ := FAt.getR (ca := ca) (hF6.step ((Below.refl _ _).alloc (Nat.le_refl _) (entObj ((getE es K s).getD En.zero)))) HEl.out K s
      unfold foundT env at HGR ⊢
      generalize (getE es K s).isSome = fnd at HGR HMF ⊢
      generalize (getE es K s).getD En.zero = y at HGR ⊢
      unfold entObj at HGR
      have HF6 : Hid _ := hF6
      clear hF6 HF5
      go_wp2_with fail
      refine (show Calls _ _ _ _ _ from HGR.out).mono ?_
      rintro e w7 ⟨rfl, hb7⟩
      obtain ⟨X, hX⟩ : ∃ X, X = w7.alloc (entObj y) := ⟨_, rfl⟩
      have hs7 : w6.heap.size < w7.heap.size := by have := hb7.size; simp at this; omega
      have q1 : w7.heap[w6.heap.size]? = some (entObj y) := (hb7.block _ (by simp)).trans (heap_alloc_new _ _)
      have q2 : X.heap[w6.heap.size]? = some (entObj y) := by rw [hX]; exact (Below.heap_alloc _ _ _ hs7).trans q1
      have q3 : X.heap[w7.heap.size]? = some (entObj y) := by rw [hX]; exact heap_alloc_new _ _
      have HF7 : Hid (FAt w es b X) := by
        rw [hX]
        exact ((HF6.out.step ((Below.refl _ _).alloc (Nat.le_refl _) _)).step hb7).step ((Below.refl _ _).alloc (Nat.le_refl _) _)
      obtain ⟨m0, m1, m2, m3, _⟩ := ent_cells q2
      obtain ⟨n0, n1, n2, n3, _⟩ := ent_cells q3
      have hns := neq_self
      have hgd := guardEn
      unfold entObj at hX
      rw [hX] at m0 m1 m2 m3 n0 n1 n2 n3
      have HXX : Hid _ := hX
      have HMay : Hid (∀ X, FAt w es b X → _) := fun X h => FAt.tMay h K hK
      have HMayR : Hid (∀ X, FAt w es b X → _) := fun X h => FAt.mayR h K hK
      obtain ⟨m, hm⟩ : ∃ m, m = Bl.may (filt (keysE es)) K := ⟨_, rfl⟩
      rw [← hm] at HMay HMayR HMF
      clear hm q1 q2 q3 hX hb7 HGR HF6 hs7
      cases fnd
      case' false =>
        have HF8 : Hid _ := HF7.out
        rw [HXX.out] at HF8
        clear HF7 HMF
        cases m
      case' true =>
        obtain rfl : m = true := HMF.out rfl
        go_wp2_with fail
        rw [← HXX.out]
        refine (show Calls _ _ _ _ _ from HMay.out _ HF7.out).mono ?_
        rintro e w8 ⟨rfl, hF8⟩
        have HF8 : Hid _ := hF8
        clear hF8 HF7 HMF
      all_goals
        clear HXX
        go_wp2_with fail
        refine (show Calls _ _ _ _ _ from HMay.out _ HF8.out).mono ?_
        rintro e w9 ⟨rfl, hF9⟩
        have HF9 : Hid _ := hF9
        clear hF9 HF8 m0 m1 m2 m3 n0 n1 n2 n3 hns hgd
        go_wp2_with fail
        refine (FAt.keysR HF9.out HEl.out).mono ?_
        rintro e w10 ⟨⟨o10, c10, rfl, hc10⟩, hF10⟩
        have HF10 : Hid _ := hF10
        have HB10 : Hid _ := FAt.buildR (c := c10) hF10 hc10 HKS.out
        clear hF10 hc10 HF9
        go_wp2_with fail
        refine (show Calls _ _ _ _ _ from HB10.out).mono ?_
        rintro e w11 ⟨rfl, hF11⟩
        have HF11 : Hid _ := hF11
        clear hF11 HF10 HB10
        go_wp2_with fail
        refine (show Calls _ _ _ _ _ from HMayR.out _ HF11.out).mono ?_
        rintro e w12 ⟨rfl, rfl⟩
        by_cases hne : 0 < es.length
        · obtain ⟨j, hj⟩ : ∃ j, j + 1 = es.length := ⟨es.length - 1, by omega⟩
          have hw : IntKind.i64.wrap ((es.length : Int) - 1) = (j : Int) := wrap_nat (by omega) (by omega)
          have hi0 : (0 : Int) < (es.length : Int) := by omega
          have hi1 : (0 : Int) ≤ (j : Int) := by omega
          have hi2 : (j : Int) < (es.length : Int) := by omega
          obtain ⟨kf, hkf⟩ : ∃ kf, kf = (es.getD 0 En.zero).key := ⟨_, rfl⟩
          obtain ⟨kl, hkl⟩ : ∃ kl, kl = (es.getD j En.zero).key := ⟨_, rfl⟩
          have HFV : Hid (firstV es = .tuple #[.string kf, .bool true]) := by show _ = _; unfold firstV; rw [decide_eq_true hne, hkf]
          have HLV : Hid (lastV es = .tuple #[.string kl, .bool true]) := by show _ = _; unfold lastV; rw [decide_eq_true hne, hkl, show es.length - 1 = j by omega]
          have hb1 := beq_toList kf kf
          have hb2 := beq_toList kl kl
          rw [decide_eq_true rfl] at hb1 hb2
          have HCE : Hid (∀ X, Below w.heap.size w X → ∃ pb off, ao = some ⟨pb, off, none⟩ ∧ X.cell? ⟨pb, off, none⟩ = some (.string kf) ∧ X.cell? ⟨pb, off + j * 4, none⟩ = some (.string kl)) := fun X hX => by
            obtain ⟨pb, off, rfl, c0, _⟩ := elem_cells (HEl.out.later hX) (k := 0) hne
            obtain ⟨pb2, off2, e2, d0, _⟩ := elem_cells (HEl.out.later hX) (k := j) (by omega)
            cases e2
            rw [Nat.zero_mul, Nat.add_zero] at c0
            exact ⟨pb, off, rfl, hkf ▸ c0, hkl ▸ d0⟩
          have HJ : Hid _ := hj
          clear hkf hkl hj
          go_wp2_with fail
          refine (FAt.tFirst HF11.out).mono ?_
          rintro e w12 ⟨rfl, rfl⟩
          rw [HFV.out]
          go_wp2_with fail
          refine (FAt.tLast HF11.out).mono ?_
          rintro e w13 ⟨rfl, hF13⟩
          rw [HLV.out]
          have HF13 : Hid _ := hF13
          clear hF13 HF11 HFV HLV
          obtain ⟨pb, off, rfl, c0, d0⟩ := HCE.out _ HF13.out.bel
          clear HCE
          have HF : Hid _ := HF13.out
          clear HF13
          go_wp2_with fail
          refine (FAt.tAll HF.out).mono ?_
          rintro e w14 ⟨⟨vA, rfl, hoA⟩, hb14⟩
          have HF14 : Hid _ := HF.out.step hb14
          have HOA : Hid _ := And.intro hoA hb14
          clear hoA hb14
          go_wp2_with fail
          refine (FAt.tFrom HF14.out K).mono ?_
          rintro e w15 ⟨⟨vB, rfl, hoB⟩, hb15⟩
          have hTw := two_made HOA.out.1 HOA.out.2 hoB hb15
          obtain ⟨aA, cA, rfl⟩ := own_any hTw.own
          obtain ⟨aB, cB, rfl⟩ := own_any hTw.oth
          have HT : Hid _ := hTw
          clear hTw hoB hb15 HOA HF14
          go_wp2
          go_loopw [175] (fun i wr => ∃ (k : Nat) (zs : List Value), i = .int .i64 k ∧ k ≤ es.length ∧ Hid (Two w13 es (fromE es K) (.slice aA es.length cA) (.slice aB (fromE es K).length cB) zs wr)) (fun i _ => es.length - (intOf i).toNat)
          case atStart => exact ⟨0, _, rfl, by omega, HT⟩
          case round =>
            clear HT
            obtain ⟨k, zs, rfl, hk, HP⟩ := hrel
            by_cases hlt : k < es.length
            · obtain ⟨g, cap, e, hB, hgl, hle⟩ := own_formK HP.out.own (by omega)
              cases e
              obtain ⟨⟨zs', hown'⟩, hcell, hfz⟩ := stored4 HP.out.own hlt (.string ⟨#[109, 97, 114, 107]⟩) (.int .i64 0) (.bool false) (.string ⟨#[]⟩)
              obtain ⟨u0, g0⟩ := hcell 0 (by decide)
              obtain ⟨u1, g1⟩ := hcell 1 (by decide)
              obtain ⟨u2, g2⟩ := hcell 2 (by decide)
              obtain ⟨u3, g3⟩ := hcell 3 (by decide)
              rw [Nat.add_zero] at g0
              have f0 := hfz (k * 4)
              have f1 := hfz (k * 4 + 1)
              have f2 := hfz (k * 4 + 2)
              have f3 := hfz (k * 4 + 3)
              have HP' : Hid (Two w13 es (fromE es K) (.slice (some ⟨g, 0, none⟩) es.length cA) (.slice aB (fromE es K).length cB) zs' ((((wr.setCell ⟨g, k * 4, none⟩ (.string ⟨#[109, 97, 114, 107]⟩)).setCell ⟨g, k * 4 + 1, none⟩ (.int .i64 0)).setCell ⟨g, k * 4 + 2, none⟩ (.bool false)).setCell ⟨g, k * 4 + 3, none⟩ (.string ⟨#[]⟩))) :=
                ⟨hown', rows_keep HP.out.oth (fun j hj => set4_block (fun e => HP.out.far g rfl (by rw [← e]; exact hj))), HP.out.far, HP.out.bel.grown set4_grown HP.out.bel.size (fun j hj => by cases hj; exact hB)⟩
              have hk0 : (0 : Int) ≤ (k : Int) := by omega
              have hk1 : (k : Int) < (es.length : Int) := by omega
              clear hown' hcell hfz HP
              go_wp2
              go_roundw
              case rel => exact ⟨k + 1, zs', by go_num, by omega, HP'⟩
              case measure => simp [intOf]; omega
            · obtain rfl : k = es.length := by omega
              have hb0 : w13.heap.size ≤ wr.heap.size + 1 := by have := HP.out.bel.size; omega
              go_wp2_with (at_builtin; refine wpList_append_lies _ rfl _ _ 23 rfl w13.heap.size 44 i0 _ 4 48 Try.underlying23 hi hz0 hz1 hz2 rfl (by decide) _ es.length zs rfl (World.ownsRow.alloc HP.out.own _) ⟨wr.heap.size, 0, none⟩ 1 1 [.string ⟨#[]⟩, .int .i64 0, .bool false, .string ⟨#[]⟩] rfl rfl ?c1 ?c2 (by decide) ?c3 ?c4 ?c5 (wr.heap.size + 1) (by simp) ?_)
              case c1 => exact World.news_of_block (heap_alloc_new wr _)
              case c2 => intro u hu; simp at hu; rcases hu with rfl | rfl | rfl | rfl <;> rfl
              case c3 => unfold maxLen; omega
              case c4 => omega
              case c5 => simpa using hb0
              intro g cap w16 hown16 hgrow16 hat16 hlt16
              have hB16 : Below w13.heap.size w13 w16 := (HP.out.bel.alloc HP.out.bel.size _).grown hgrow16 (by have := HP.out.bel.size; simp; omega) (fun j hj => (World.ownsRow.lt HP.out.own j hj).1)
              have hoB : w16.ownsRow w13.heap.size 44 4 (.slice aB (fromE es K).length cB) (fromE es K).length (enShape.vals (fromE es K)) := rows_keep HP.out.oth (fun j hj => by
                have q1 := (HP.out.oth.lt j hj).2
                rw [hgrow16.block j (by simp; omega) (fun e => HP.out.far j e.symm hj)]
                exact Below.heap_alloc _ _ _ q1)
              have HF16 : Hid _ := HF.out.step hB16
              have HOB : Hid _ := hoB
              have HFr : Hid _ := fromR_any _ ca es K w16 (HEl.out.later HF16.out.bel) (by omega) hca
              clear hB16 hoB hown16 hgrow16 hat16 hlt16 HP HF
              go_wp2_with fail
              refine (show Calls _ _ _ _ _ from HFr.out).mono ?_
              rintro e w17 ⟨aR, cR, rfl, hel, hb17⟩
              have HF17 : Hid _ := HF16.out.step hb17
              have hfl : (fromE es K).length ≤ es.length := from_len es K
              have HSa : Hid _ := same_any aB aR cB cR (fromE es K) w17 (own_rows (F := enShape) (rows_keep HOB.out (fun j hj => hb17.block j (World.ownsRow.lt HOB.out j hj).2)) |> fun ⟨_, _, e, _, _, _, q⟩ => by cases e; exact q) hel (by omega)
              clear hel hb17 HOB HF16 HFr
              go_wp2_with fail
              refine (show Calls _ _ _ _ _ from HSa.out).mono ?_
              rintro e w18 ⟨rfl, n18, rfl⟩
              have HF18 : Hid _ := HF17.out.drewN n18
              generalize w17.drewN n18 = X18 at *
              clear HSa HF17
              go_wp2_with fail
              refine (FAt.tAll HF18.out).mono ?_
              rintro e w19 ⟨⟨vC, rfl, hoC⟩, hb19⟩
              have HF19 : Hid _ := HF18.out.step hb19
              obtain ⟨aC, cC, rfl, _, _, _, helC⟩ := own_rows (F := enShape) hoC
              have HSb : Hid _ := same_any aC _ cC ca es w19 helC (HEl.out.later HF19.out.bel) (by omega)
              clear hoC hb19 helC HF18
              go_wp2_with fail
              refine (show Calls _ _ _ _ _ from HSb.out).mono ?_
              rintro e w20 ⟨rfl, n20, rfl⟩
              have HB20 : Hid (Below w.heap.size w (w19.drewN n20)) := (HF19.out.drewN n20).bel
              clear HSb HF19
              go_wp2
              go_ret
              exact ⟨rfl, HB20.out⟩
        · have h0 : es = [] := List.eq_nil_of_length_eq_zero (by omega)
          have HFV : Hid (firstV es = .tuple #[.string ⟨#[]⟩, .bool false]) := by show _ = _; rw [h0]; unfold firstV; rfl
          have HLV : Hid (lastV es = .tuple #[.string ⟨#[]⟩, .bool false]) := by show _ = _; rw [h0]; unfold lastV; rfl
          have hcc : ((⟨#[]⟩ : ByteArray) ++ ⟨#[]⟩).toList.isEmpty = true := empty_two
          have hi0 : ¬ (0 : Int) < (es.length : Int) := by omega
          have hi1 : decide ((0 : Int) < (es.length : Int)) = false := by simp; omega
          have hi2 : decide (0 < es.length) = false := by simp; omega
          clear h0
          go_wp2_with fail
          refine (FAt.tFirst HF11.out).mono ?_
          rintro e w12 ⟨rfl, rfl⟩
          rw [HFV.out]
          go_wp2_with fail
          refine (FAt.tLast HF11.out).mono ?_
          rintro e w13 ⟨rfl, hF13⟩
          rw [HLV.out]
          have HF13 : Hid _ := hF13
          clear hF13 HF11 HFV HLV
          have HF : Hid _ := HF13.out
          clear HF13
          go_wp2_with fail
          refine (FAt.tAll HF.out).mono ?_
          rintro e w14 ⟨⟨vA, rfl, hoA⟩, hb14⟩
          have HF14 : Hid _ := HF.out.step hb14
          have HOA : Hid _ := And.intro hoA hb14
          clear hoA hb14
          go_wp2_with fail
          refine (FAt.tFrom HF14.out K).mono ?_
          rintro e w15 ⟨⟨vB, rfl, hoB⟩, hb15⟩
          have hTw := two_made HOA.out.1 HOA.out.2 hoB hb15
          obtain ⟨aA, cA, rfl⟩ := own_any hTw.own
          obtain ⟨aB, cB, rfl⟩ := own_any hTw.oth
          have HT : Hid _ := hTw
          clear hTw hoB hb15 HOA HF14
          go_wp2
          go_loopw [175] (fun i wr => ∃ (k : Nat) (zs : List Value), i = .int .i64 k ∧ k ≤ es.length ∧ Hid (Two w13 es (fromE es K) (.slice aA es.length cA) (.slice aB (fromE es K).length cB) zs wr)) (fun i _ => es.length - (intOf i).toNat)
          case atStart => exact ⟨0, _, rfl, by omega, HT⟩
          case round =>
            clear HT
            obtain ⟨k, zs, rfl, hk, HP⟩ := hrel
            by_cases hlt : k < es.length
            · exact absurd hlt (by omega)
            · obtain rfl : k = es.length := by omega
              have hb0 : w13.heap.size ≤ wr.heap.size + 1 := by have := HP.out.bel.size; omega
              go_wp2_with (at_builtin; refine wpList_append_lies _ rfl _ _ 23 rfl w13.heap.size 44 i0 _ 4 48 Try.underlying23 hi hz0 hz1 hz2 rfl (by decide) _ es.length zs rfl (World.ownsRow.alloc HP.out.own _) ⟨wr.heap.size, 0, none⟩ 1 1 [.string ⟨#[]⟩, .int .i64 0, .bool false, .string ⟨#[]⟩] rfl rfl ?c1 ?c2 (by decide) ?c3 ?c4 ?c5 (wr.heap.size + 1) (by simp) ?_)
              case c1 => exact World.news_of_block (heap_alloc_new wr _)
              case c2 => intro u hu; simp at hu; rcases hu with rfl | rfl | rfl | rfl <;> rfl
              case c3 => unfold maxLen; omega
              case c4 => omega
              case c5 => simpa using hb0
              intro g cap w16 hown16 hgrow16 hat16 hlt16
              have hB16 : Below w13.heap.size w13 w16 := (HP.out.bel.alloc HP.out.bel.size _).grown hgrow16 (by have := HP.out.bel.size; simp; omega) (fun j hj => (World.ownsRow.lt HP.out.own j hj).1)
              have hoB : w16.ownsRow w13.heap.size 44 4 (.slice aB (fromE es K).length cB) (fromE es K).length (enShape.vals (fromE es K)) := rows_keep HP.out.oth (fun j hj => by
                have q1 := (HP.out.oth.lt j hj).2
                rw [hgrow16.block j (by simp; omega) (fun e => HP.out.far j e.symm hj)]
                exact Below.heap_alloc _ _ _ q1)
              have HF16 : Hid _ := HF.out.step hB16
              have HOB : Hid _ := hoB
              have HFr : Hid _ := fromR_any _ ca es K w16 (HEl.out.later HF16.out.bel) (by omega) hca
              clear hB16 hoB hown16 hgrow16 hat16 hlt16 HP HF
              go_wp2_with fail
              refine (show Calls _ _ _ _ _ from HFr.out).mono ?_
              rintro e w17 ⟨aR, cR, rfl, hel, hb17⟩
              have HF17 : Hid _ := HF16.out.step hb17
              have hfl : (fromE es K).length ≤ es.length := from_len es K
              have HSa : Hid _ := same_any aB aR cB cR (fromE es K) w17 (own_rows (F := enShape) (rows_keep HOB.out (fun j hj => hb17.block j (World.ownsRow.lt HOB.out j hj).2)) |> fun ⟨_, _, e, _, _, _, q⟩ => by cases e; exact q) hel (by omega)
              clear hel hb17 HOB HF16 HFr
              go_wp2_with fail
              refine (show Calls _ _ _ _ _ from HSa.out).mono ?_
              rintro e w18 ⟨rfl, n18, rfl⟩
              have HF18 : Hid _ := HF17.out.drewN n18
              generalize w17.drewN n18 = X18 at *
              clear HSa HF17
              go_wp2_with fail
              refine (FAt.tAll HF18.out).mono ?_
              rintro e w19 ⟨⟨vC, rfl, hoC⟩, hb19⟩
              have HF19 : Hid _ := HF18.out.step hb19
              obtain ⟨aC, cC, rfl, _, _, _, helC⟩ := own_rows (F := enShape) hoC
              have HSb : Hid _ := same_any aC _ cC ca es w19 helC (HEl.out.later HF19.out.bel) (by omega)
              clear hoC hb19 helC HF18
              go_wp2_with fail
              refine (show Calls _ _ _ _ _ from HSb.out).mono ?_
              rintro e w20 ⟨rfl, n20, rfl⟩
              have HB20 : Hid (Below w.heap.size w (w19.drewN n20)) := (HF19.out.drewN n20).bel
              clear HSb HF19
              go_wp2
              go_ret
              exact ⟨rfl, HB20.out⟩
    · rw [hV, hS]
      clear hS hV HI
      go_wp2_with fail
      refine (show Calls _ _ _ _ _ from HRr.out).mono ?_
      rintro e w3 ⟨rfl, hb3⟩
      have HB3 : Hid _ := hb3
      clear hb3 HRr
      go_wp2
      go_ret
      exact ⟨rfl, HB3.out⟩
  · have hr' : right es = false := by simpa using hr
    have hV : tableV es = .tuple #[.string ⟨#[]⟩, .int .i64 9] := by unfold tableV; rw [hr']; rfl
    rw [hV]
    rw [hr'] at HRr
    clear hr hr' hV HI
    go_wp2_with fail
    refine (show Calls _ _ _ _ _ from HRr.out).mono ?_
    rintro e w3 ⟨rfl, hb3⟩
    have HB3 : Hid _ := hb3
    clear hb3 HRr
    go_wp2
    go_ret
    exact ⟨rfl, HB3.out⟩
end Go.Proofs.Ytedjohkdfchocaa.Tb
