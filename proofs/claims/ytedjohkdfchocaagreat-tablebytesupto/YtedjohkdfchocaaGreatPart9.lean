/-
  The texts TableRefOpen, TableBytesWalk.
-/
import Derived.Test.YtedjohkdfchocaaGreatQTableRefBuild
import Derived.Test.YtedjohkdfchocaaGreatQTableOpen
import Derived.Test.YtedjohkdfchocaaGreatQFrameRefScan
import Derived.Test.YtedjohkdfchocaaGreatPart8
import Derived.Test.YtedjohkdfchocaaGreatQTableLives

/-
  The document's answer for layer 9: Open.
-/
namespace Go.Proofs.YtedjohkdfchocaaGreat.Tb
open Go.RowKit Cm Mm Bk
open Fr (framesB str strs sealed)
set_option linter.unusedVariables false

def ROpenAns (w : World) (l : List UInt8) (e : Ending) (w' : World) : Prop :=
  ((∃ es v, IsTable l es ∧ e = .returned (.tuple #[v, .int .i64 0]) ∧ w'.ownsRow w.heap.size 25 4 v es.length (enShape.vals es)) ∨ ((∀ es, ¬ IsTable l es) ∧ e = .returned (.tuple #[.slice none 0 0, .int .i64 10]))) ∧ Below w.heap.size w w'
theorem row_low {w w1 w2 : World} {v : Value} {n : Nat} {e : TypeId} {k : Nat} {vs : List Value} (h : w2.ownsRow w1.heap.size e k v n vs) (hb : w.heap.size ≤ w1.heap.size) : w2.ownsRow w.heap.size e k v n vs :=
  ⟨h.1, h.2.imp id (fun ⟨g, cap, cur, a, b, c⟩ => ⟨g, cap, cur, a, Nat.le_trans hb b, c⟩)⟩
set_option maxRecDepth 100000 in
set_option maxHeartbeats 2000000 in
theorem refOpen_any (T : ByteArray) (w : World) (hT : T.size ≤ 60000000) :
    Calls Tryz.prog 9 #[.string T] w fun e w' => ROpenAns w (bs T) e w' := by
  obtain ⟨i0, hi, hz0, hz1, hz2⟩ := info_parts infoEn
  have HSC : Hid _ := Fr.refScan_any T w (by omega)
  go_enter Tryz.func9, Tryz.ntmps9
  go_wp2_with fail
  refine (show Calls _ _ _ _ _ from HSC.out).mono ?_
  rintro e w1 ⟨⟨v, n, ps, rfl, hU, hf, hown⟩, hb1⟩
  obtain ⟨po, pc, rfl, hpc, hcs⟩ := row_cap hown
  have hU' : Fr.Upto (bs T) ps n := hU
  have hnT := hU'.le
  rw [bs_len] at hnT
  have HB1 : Hid _ := hb1
  clear HSC hown hb1
  by_cases hend : n < T.size ∨ ps.length < 3
  · have HNO : Hid _ := no_end hU' hf (by rw [bs_len]; exact hend)
    clear hU hU' hf hcs
    by_cases h1 : n < T.size
    · have hg : ((n : Int) == (T.size : Int)) = false := beq_eq_false_iff_ne.2 (by omega)
      have hg' : (n == T.size) = false := beq_eq_false_iff_ne.2 (by omega)
      have hg2 : ¬ n = T.size := by omega
      clear hend
      go_wp2
      go_ret2
      exact ⟨.inr ⟨HNO.out, rfl⟩, HB1.out⟩
    · obtain rfl : n = T.size := by omega
      have hg2 : decide ((ps.length : Int) < 3) = true := decide_eq_true (by omega)
      have hg3 : decide (ps.length < 3) = true := decide_eq_true (by omega)
      clear hend
      go_wp2
      go_ret2
      exact ⟨.inr ⟨HNO.out, rfl⟩, HB1.out⟩
  · have hn : n = T.size := by omega
    subst hn
    have hp3 : 3 ≤ ps.length := by omega
    have hg : decide ((ps.length : Int) < 3) = false := decide_eq_false (by omega)
    have hg' : decide (ps.length < 3) = false := decide_eq_false (by omega)
    obtain ⟨k, hk⟩ : ∃ k, k + 3 = ps.length := ⟨ps.length - 3, by omega⟩
    have hk3 : ps.length - 3 = k := by omega
    have hmany := hU'.many
    have hwk : IntKind.i64.wrap ((ps.length : Int) - 3) = (k : Int) := wrap_nat (by omega) (by omega)
    have hsl : (strs ps).length = ps.length := by simp [strs]
    have htf := total_frames ps
    rw [← hU'.at_] at htf
    have htk := Fr.total_take (strs ps) k
    have hlk : ((strs ps).take k).length = k := by rw [List.length_take]; omega
    have hsm : ∀ p ∈ (strs ps).take k, p.size ≤ 65536 := fun p hp => by
      obtain ⟨q, hq, rfl⟩ := List.mem_map.1 (List.mem_of_mem_take hp)
      rw [Fr.str_size]
      exact hU'.small q hq
    have HNB : Hid (∀ i, i < ((strs ps).take k).length → (∀ es, ¬ IsBlock (bs (((strs ps).take k).getD i ByteArray.empty)) es) → ∀ es, ¬ IsTable (bs T) es) := fun i hi h es => no_blocks hU' hf (by rw [hk3]; exact hi) (by rw [hk3]; exact fun a ha => absurd ha (h a)) es
    have HNE : Hid (∀ es, Reads ((strs ps).take k) es → tableV es ≠ .tuple #[.string T, .int .i64 0] → ∀ es', ¬ IsTable (bs T) es') := fun es hr h es' => no_other hU' hf (by rw [hk3]; exact hr) (by rw [show str (bs T) = T from str_back T]; exact h) es'
    have HSMA : Hid (∀ es, Reads ((strs ps).take k) es → Small es) := fun es hr => hr.small hsm (by omega)
    have hct := texts_take hcs k
    have hqt : total ((strs ps).take k) ≤ 60000000 := by omega
    have hkb : k ≤ 100000000 := by omega
    generalize (strs ps).take k = qs at *
    have HC : Hid (∀ X i, Below w1.heap.size w1 X → i < qs.length → ∃ b off, po = some ⟨b, off, none⟩ ∧ X.cell? ⟨b, off + i, none⟩ = some (.string (qs.getD i ByteArray.empty))) := fun X i hX hi => text_cell (hct.below hX) hi
    have HSM : Hid (∀ i, i < qs.length → (qs.getD i ByteArray.empty).size ≤ 65536) := fun i hi => by rw [getD_lt _ _ _ hi]; exact hsm _ (List.getElem_mem hi)
    have HGR : Hid (∀ i es, i ≤ qs.length → Reads (qs.take i) es → es.length ≤ 60000000) := fun i es hi h => by
      have h1 := (h.great (fun p hp => hsm p (List.mem_of_mem_take hp))).1
      have h2 := Fr.total_take qs i
      omega
    have hk0 : (0 : Int) ≤ (k : Int) := by omega
    have hk1 : (k : Int) ≤ (pc : Int) := by omega
    have hk2 : k ≤ pc := by omega
    clear hU hU' hf hend hcs htf htk hsm hsl hk3 hct hqt
    go_wp2
    go_loopw [6, 33] (fun v i wr => ∃ (j : Nat) (es : List En), j ≤ k ∧ i = .int .i64 j ∧ es.length ≤ 60000000 ∧ Hid (Reads (qs.take j) es) ∧ Hid (wr.ownsRow w1.heap.size 25 4 v es.length (enShape.vals es)) ∧ Hid (Below w1.heap.size w1 wr)) (fun _ i _ => k - (intOf i).toNat)
    case atStart => exact ⟨0, [], by omega, rfl, by simp, (by show Reads _ _; exact rfl), World.ownsRow_nil _ _ _ _, Below.refl _ _⟩
    case round =>
      obtain ⟨j, es, hj, rfl, hel, HR, HO, HB⟩ := hrel
      by_cases hlt : j < k
      · have hjq : j < qs.length := by omega
        obtain ⟨b, off, rfl, c0⟩ := HC.out wr j HB.out hjq
        have hj0 : (0 : Int) ≤ (j : Int) := by omega
        have hj1 : (j : Int) < (k : Int) := by omega
        have HGN : Hid (∀ a, IsBlock (bs (qs.getD j ByteArray.empty)) a → Reads (qs.take (j + 1)) (es ++ a) ∧ (es ++ a).length ≤ 60000000) := fun a ha => by
          have h := HR.out.snoc ha
          rw [← take_text hjq] at h
          exact ⟨h, HGR.out _ _ (by omega) h⟩
        have HBAD : Hid (∀ X, (∀ a, ¬ IsBlock (bs (qs.getD j ByteArray.empty)) a) → Below w1.heap.size w1 X → ROpenAns w (bs T) (.returned (.tuple #[.slice none 0 0, .int .i64 10])) X) := fun X h hb => ⟨.inr ⟨HNB.out j hjq h, rfl⟩, HB1.out.trans (hb.mono HB1.out.size)⟩
        have HDE : Hid _ := decodeR_any (qs.getD j ByteArray.empty) wr (by have := HSM.out j hjq; omega)
        generalize qs.getD j ByteArray.empty = P at *
        clear HC HSM HGR HR HNB HNE HSMA
        go_wp2_with fail
        refine (show Calls _ _ _ _ _ from HDE.out).mono ?_
        rintro e X3 (⟨a, va, hI, rfl, hoa, hb3⟩ | ⟨hno, rfl, hb3⟩)
        · obtain ⟨ga, ca', rfl, hn1, _, _, hea⟩ := own_rows (F := enShape) (show X3.ownsRow _ _ enShape.sz _ _ _ from hoa)
          have HO3 : Hid (X3.ownsRow w1.heap.size 25 enShape.sz u6 es.length (enShape.vals es)) := rows_keep HO.out (fun j hj => hb3.block j (World.ownsRow.lt HO.out j hj).2)
          have HB3 : Hid (Below w1.heap.size w1 X3) := HB.out.trans (hb3.mono HB.out.size)
          obtain ⟨hg1, hg2⟩ := HGN.out a hI
          have HG1 : Hid _ := hg1
          rw [List.length_append] at hg2
          have hs3 := HB3.out.size
          clear hI hoa hb3 hg1 HO HB HDE HGN HBAD c0
          go_wp2_with (at_builtin; refine wpList_append_rows (F := enShape) _ rfl _ _ 22 rfl w1.heap.size 25 i0 _ 48 Tryz.underlying22 hi hz0 hz1 hz2 rfl u6 es.length es rfl HO3.out ga a.length ca' a rfl hn1 rfl hea ?c1 ?c2 ?c3 ?_)
          case c1 => unfold maxLen; omega
          case c2 => omega
          case c3 => omega
          intro v4 X4 hown4 hgrow4 hat4
          have HO4 : Hid (X4.ownsRow w1.heap.size 25 4 v4 (es ++ a).length (enShape.vals (es ++ a))) := by rw [List.length_append]; exact hown4
          have HB4 : Hid (Below w1.heap.size w1 X4) := grown_below HB3.out (Nat.le_refl _) HO3.out hgrow4
          clear hown4 hgrow4 hat4 HO3 HB3 hea
          go_wp2
          go_roundw
          case rel => exact ⟨j + 1, es ++ a, by omega, by go_num, by rw [List.length_append]; omega, HG1, HO4, HB4⟩
          case measure => simp [intOf]; omega
        · have HB3 : Hid (Below w1.heap.size w1 X3) := HB.out.trans (hb3.mono HB.out.size)
          have HNO : Hid _ := hno
          clear hno hb3 c0
          go_wp2
          go_ret2
          exact HBAD.out _ HNO.out HB3.out
      · obtain rfl : j = k := by omega
        have HR' : Hid (Reads qs es) := by have := HR.out; rw [← hlk, List.take_length] at this; exact this
        obtain ⟨ao, ca, rfl, _, _, hca, hea⟩ := own_rows (F := enShape) (show wr.ownsRow _ _ enShape.sz _ _ _ from HO.out)
        have HBU : Hid _ := refBuild_any ao ca es wr hea (fit_ok HR'.out.fit) hca (HSMA.out es HR'.out)
        have HFT : Hid (tableV es = .tuple #[.string T, .int .i64 0] → IsTable (bs T) es) := fun h => table_of (l := bs T) HR'.out.fit h
        have HNO : Hid (tableV es ≠ .tuple #[.string T, .int .i64 0] → ∀ es', ¬ IsTable (bs T) es') := HNE.out es HR'.out
        clear HR HR' HC HSM HGR HNB HNE HSMA hea
        go_wp2_with fail
        refine (show Calls _ _ _ _ _ from HBU.out).mono ?_
        rintro e w3 ⟨rfl, hb3⟩
        have HB3 : Hid (Below w.heap.size w w3) := HB1.out.trans ((HB.out.trans (hb3.mono HB.out.size)).mono HB1.out.size)
        have HO3 : Hid (w3.ownsRow w.heap.size 25 4 (.slice ao es.length ca) es.length (enShape.vals es)) := row_low (rows_keep HO.out (fun j hj => hb3.block j (World.ownsRow.lt HO.out j hj).2)) HB1.out.size
        clear hb3 HBU HO HB
        by_cases hv : tableV es = .tuple #[.string T, .int .i64 0]
        · have HIT : Hid _ := HFT.out hv
          rw [hv]
          have hSS : (T.toList == T.toList) = true := by simp
          clear hv HFT HNO
          go_wp2
          go_ret2
          exact ⟨.inl ⟨es, _, HIT.out, rfl, HO3.out⟩, HB3.out⟩
        · have HNT : Hid _ := HNO.out hv
          rcases tableV_form es with ⟨S, hS⟩ | hS | hS
          · have hne : (S.toList == T.toList) = false := by
              rw [beq_eq_false_iff_ne]
              intro e
              exact hv (by rw [hS, Mm.toList_inj e])
            rw [hS]
            clear hv hS HFT HNO
            go_wp2
            go_ret2
            exact ⟨.inr ⟨HNT.out, rfl⟩, HB3.out⟩
          all_goals
            rw [hS]
            clear hv hS HFT HNO
            go_wp2
            go_ret2
            exact ⟨.inr ⟨HNT.out, rfl⟩, HB3.out⟩
end Go.Proofs.YtedjohkdfchocaaGreat.Tb

/-
  The walk of the statement TableBytes.
-/
namespace Go.Proofs.YtedjohkdfchocaaGreat.Tb
open Go.RowKit Cm Mm Bk
open Fr (framesB str sealed)
set_option linter.unusedVariables false

def spareT : En := ⟨⟨#[115, 112, 97, 114, 101]⟩, 0, false, ⟨#[]⟩⟩
theorem drewn_below {w X : World} {n : Nat} (h : Below w.heap.size w X) : Below w.heap.size w (X.drewN n) := ⟨h.os, h.tape, h.output, h.size, h.block⟩
theorem tableV_pair (es : List En) : ∃ S c, tableV es = .tuple #[.string S, .int .i64 c] := by
  rcases tableV_form es with ⟨S, hS⟩ | hS | hS
  · exact ⟨S, 0, hS⟩
  · exact ⟨_, _, hS⟩
  · exact ⟨_, _, hS⟩
set_option maxRecDepth 100000 in
set_option maxHeartbeats 2000000 in
theorem tableBytes_walk (ao : Option Addr) (ca : Nat) (es : List En) (T : ByteArray) (w : World) (hx : ElemsAt enShape w ao es) (hnil : ao = none → ca = 0) (hca : es.length ≤ ca) (hok : AllOk es) (hsz : es.length + bytesE es ≤ 1048576) (hT : T.size ≤ 1048576) :
    Calls Tryz.prog 3 #[.slice ao es.length ca, .string T] w fun e w' => e = .returned (.bool true) ∧ Below w.heap.size w w' := by
  obtain ⟨i0, hi, hz0, hz1, hz2⟩ := info_parts infoEn
  have HXe : Hid (∀ X, Below w.heap.size w X → ElemsAt enShape X ao es) := fun X hX => hx.later hX
  have HER : Hid (∀ X, Below w.heap.size w X → Calls Tryz.prog 6 #[.slice ao es.length ca] X fun e w' => e = .returned (tableV es) ∧ Below X.heap.size X w') := fun X hX => refBuild_any ao ca es X (hx.later hX) hok hca (small_of hsz)
  have HOK : Hid (AllOk es ∧ Small es) := ⟨hok, small_of hsz⟩
  have hlen : es.length ≤ 1048576 := by omega
  clear hx hok hsz
  go_enter Tryz.func3, Tryz.ntmps3
  go_wp2_with fail
  refine (lives_any _).mono ?_
  rintro e w1 ⟨rfl, hb1⟩
  have hs1 := hb1.size
  have he0 := own_emptyT w1 25 4 w1.heap.size (Nat.le_refl _)
  have hx1 := HXe.out (w1.alloc (.cells #[] 25)) (hb1.alloc hs1 _)
  have HB1 : Hid _ := hb1
  clear hb1
  go_wp2_with (at_builtin; refine wpList_append_rows (F := enShape) _ rfl _ _ 22 rfl w1.heap.size 25 i0 _ 48 Tryz.underlying22 hi hz0 hz1 hz2 rfl _ 0 [] rfl he0 ao es.length ca es rfl hnil rfl hx1 ?c1 ?c2 ?c3 ?_)
  case c1 => unfold maxLen; omega
  case c2 => omega
  case c3 => simp
  intro v2 w2 hown2 hgrow2 hat2
  have hb2 : Below w.heap.size w w2 := (HB1.out.alloc hs1 _).grown hgrow2 (by simp; omega) (fun k hk => by simp [Value.ownBlock] at hk; omega)
  have hown2' : w2.ownsRow w1.heap.size 25 4 v2 es.length (enShape.vals es) := by
    show w2.ownsRow w1.heap.size 25 enShape.sz v2 es.length (enShape.vals es)
    simpa using hown2
  have hsz2 : w1.heap.size ≤ w2.heap.size := by have := hgrow2.size; simp at this; omega
  have helm : ElemsAt enShape (w2.alloc (entObj spareT)) (some ⟨w2.heap.size, 0, none⟩) [spareT] := elems1 spareT
  unfold entObj at helm
  have HO2 : Hid _ := hown2'
  have HB2 : Hid _ := hb2
  clear hown2 hgrow2 hat2 he0 hx1 hown2' hb2
  go_wp2_with (at_builtin; refine wpList_append_rows (F := enShape) _ rfl _ _ 22 rfl w1.heap.size 25 i0 _ 48 Tryz.underlying22 hi hz0 hz1 hz2 rfl v2 es.length es rfl (World.ownsRow.alloc HO2.out _) (some ⟨w2.heap.size, 0, none⟩) 1 1 [spareT] rfl (by simp) rfl helm ?d1 ?d2 ?d3 ?_)
  case d1 => unfold maxLen; omega
  case d2 => omega
  case d3 => simp; omega
  intro v3 w3 hown3 hgrow3 hat3
  have hb3 : Below w.heap.size w w3 := (HB2.out.alloc HB2.out.size _).grown hgrow3 (by have := HB2.out.size; simp; omega) (fun k hk => by have := (World.ownsRow.lt HO2.out k hk).1; omega)
  have hel3 : ∃ ao3 c3, v3 = .slice ao3 (es.length + 1) c3 ∧ es.length + 1 ≤ c3 ∧ ElemsAt enShape w3 ao3 (es ++ [spareT]) := by
    have h3' : w3.ownsRow w1.heap.size 25 enShape.sz v3 (es ++ [spareT]).length (enShape.vals (es ++ [spareT])) := by rw [List.length_append]; exact hown3
    obtain ⟨ao3, c3, rfl, _, _, q3, q4⟩ := own_rows (F := enShape) h3'
    rw [List.length_append] at q3 ⊢
    exact ⟨ao3, c3, rfl, q3, q4⟩
  obtain ⟨g, cap, rfl, _, _, hle⟩ := own_formK hown3 (by omega)
  obtain ⟨_, _, e3, _, hel⟩ := hel3
  cases e3
  have HG : Hid (∀ X, Below w3.heap.size w3 X → ElemsAt enShape X (some ⟨g, 0, none⟩) (es ++ [spareT])) := fun X hX => hel.later hX
  have HE4 : Hid _ := build_any (some ⟨g, 0, none⟩) cap es w3 (by have := elems_take hel es.length; rwa [List.take_left] at this) HOK.out.1 (by omega) HOK.out.2
  have HB3 : Hid _ := hb3
  have hk0 : (0 : Int) ≤ (es.length : Int) := by omega
  have hk1 : (es.length : Int) ≤ (cap : Int) := by omega
  have hk2 : (es.length : Int) < (es.length : Int) + 1 := by omega
  clear hown3 hgrow3 hat3 hel helm HO2 HB2 HB1 hb3 hi hz0 hz1 hz2
  go_wp2_with fail
  refine (show Calls _ _ _ _ _ from HE4.out).mono ?_
  rintro e w4 ⟨rfl, hb4⟩
  have HB4 : Hid (Below w.heap.size w w4) := HB3.out.trans (hb4.mono HB3.out.size)
  have HE5 : Hid _ := HER.out w4 HB4.out
  have HG4 : Hid (∀ X, Below w4.heap.size w4 X → ElemsAt enShape X (some ⟨g, 0, none⟩) (es ++ [spareT])) := fun X hX => HG.out X (hb4.trans (hX.mono hb4.size))
  clear hb4 HE4 HG HER HB3 HOK
  obtain ⟨S, c, hV⟩ := tableV_pair es
  rw [hV] at HE5 ⊢
  have hSS : (S.toList == S.toList) = true := by simp
  clear hV
  go_wp2_with fail
  refine (show Calls _ _ _ _ _ from HE5.out).mono ?_
  rintro e w5 ⟨rfl, hb5⟩
  have HB5 : Hid (Below w.heap.size w w5) := HB4.out.trans (hb5.mono HB4.out.size)
  have HW5 : Hid (Below w4.heap.size w4 w5) := hb5
  clear hb5 HE5 HB4
  have hel5 := HG4.out w5 HW5.out
  obtain ⟨pb, off, epb, k0, _⟩ := elem_cells hel5 (k := es.length) (by simp)
  cases epb
  have hsp : (es ++ [spareT]).getD es.length En.zero = spareT := by simp
  rw [hsp] at k0
  unfold spareT at k0
  rw [Nat.zero_add] at k0
  have hsm := same_any (some ⟨g, 0, none⟩) ao cap ca es w5 (by have := elems_take hel5 es.length; rwa [List.take_left] at this) (HXe.out w5 HB5.out) (by omega)
  clear hel5 hsp
  go_wp2_with fail
  refine hsm.mono ?_
  rintro e w6 ⟨rfl, n6, rfl⟩
  have HB6 : Hid (Below w.heap.size w (w5.drewN n6)) := drewn_below HB5.out
  have k1 : (w5.drewN n6).cell? ⟨g, es.length * 4, none⟩ = some (.string ⟨#[115, 112, 97, 114, 101]⟩) := k0
  generalize w5.drewN n6 = X at *
  clear hsm HB5 HW5 k0
  go_wp2_with fail
  refine (open_any T _ (by omega)).mono ?_
  rintro e X1 ⟨⟨e1, b, hI1, hS1, rfl, hT1⟩ | ⟨hno1, rfl⟩, hB7⟩
  · have HR : Hid _ := refOpen_any T X1 (by omega)
    have HI1 : Hid _ := And.intro hI1 (And.intro hS1 hT1)
    have HB7 : Hid (Below w.heap.size w X1) := HB6.out.trans (hB7.mono HB6.out.size)
    clear hI1 hS1 hT1 hB7 HB6 k1
    go_wp2_with fail
    refine (show Calls _ _ _ _ _ from HR.out).mono ?_
    rintro e X2 ⟨⟨e2, v2', hI2, rfl, ho2⟩ | ⟨hno2, _⟩, hB8⟩
    · obtain rfl := hI2.unique HI1.out.1
      obtain ⟨a2, c2, rfl, _, _, _, hel2⟩ := own_rows (F := enShape) ho2
      have HB8 : Hid (Below w.heap.size w X2) := HB7.out.trans (hB8.mono HB7.out.size)
      have hl2 : e2.length ≤ 1000000000 := HI1.out.2.1.few
      have HAl : Hid _ := tAll_any b e2 X2 X X.heap.size (HI1.out.2.2.later (Nat.le_refl _) hB8) (by omega)
      have HE2 : Hid (∀ Z, Below X2.heap.size X2 Z → ElemsAt enShape Z a2 e2) := fun Z hZ => hel2.later hZ
      clear hI2 ho2 hB8 hel2 HI1 HB7 HR
      go_wp2_with fail
      refine (show Calls _ _ _ _ _ from HAl.out).mono ?_
      rintro e X3 ⟨⟨v3, rfl, ho3⟩, hB9⟩
      obtain ⟨a3, c3, rfl, _, _, _, hel3⟩ := own_rows (F := enShape) ho3
      have HB9 : Hid (Below w.heap.size w X3) := HB8.out.trans (hB9.mono HB8.out.size)
      have hsm2 := same_any a3 a2 c3 c2 e2 X3 hel3 (HE2.out X3 hB9) (by omega)
      clear ho3 hB9 hel3 HE2 HAl HB8
      go_wp2_with fail
      refine hsm2.mono ?_
      rintro e w9 ⟨rfl, n9, rfl⟩
      have HBZ : Hid (Below w.heap.size w (X3.drewN n9)) := drewn_below HB9.out
      clear hsm2 HB9
      go_wp2
      go_ret
      exact ⟨rfl, HBZ.out⟩
    · exact absurd HI1.out.1 (hno2 e1)
  · have HR : Hid _ := refOpen_any T X1 (by omega)
    have HN1 : Hid _ := hno1
    have HB7 : Hid (Below w.heap.size w X1) := HB6.out.trans (hB7.mono HB6.out.size)
    clear hno1 hB7 HB6 k1
    go_wp2_with fail
    refine (show Calls _ _ _ _ _ from HR.out).mono ?_
    rintro e X2 ⟨⟨e2, v2', hI2, _⟩ | ⟨_, rfl⟩, hB8⟩
    · exact absurd hI2 (HN1.out e2)
    · have HB8 : Hid (Below w.heap.size w X2) := HB7.out.trans (hB8.mono HB7.out.size)
      clear hB8 HN1 HB7 HR
      go_wp2
      go_ret
      exact ⟨rfl, HB8.out⟩
end Go.Proofs.YtedjohkdfchocaaGreat.Tb
