/-
  The texts TableRefBuild.
-/
import Derived.Test.YtedjohkdfchocaaGreatPart4
import Derived.Test.YtedjohkdfchocaaGreatQTableBuild
import Derived.Test.YtedjohkdfchocaaGreatQBlockRefEnc
import Derived.Test.YtedjohkdfchocaaGreatPart10
import Derived.Test.YtedjohkdfchocaaGreatQPackRef
import Derived.Test.YtedjohkdfchocaaGreatPart5

/-
  The document's answer for layer 9: Build.
-/
namespace Go.Proofs.YtedjohkdfchocaaGreat.Tb
open Go.RowKit Cm Mm Bk
open Pk (enc enc_len text)
open Fr (framesB str sealed)
set_option linter.unusedVariables false

theorem own_some {w : World} {B k n : Nat} {e : TypeId} {v : Value} {vs : List Value} (h : w.ownsRow B e k v n vs) : ∃ o c, v = .slice o n c := by
  rcases h.2 with ⟨rfl, h0⟩ | ⟨g, cap, cur, rfl, _⟩
  · exact ⟨none, 0, by rw [h0]⟩
  · exact ⟨_, _, rfl⟩
theorem own_strs {w : World} {B : Nat} {v : Value} {xs : List ByteArray} (h : w.ownsRow B 9 1 v xs.length (strVals xs)) : ∃ o c, v = .slice o xs.length c ∧ CellsAt w o (strVals xs) := by
  rcases h.2 with ⟨rfl, h0⟩ | ⟨g, cap, cur, rfl, hB, hg, hle, _⟩
  · refine ⟨none, 0, by rw [h0], .inl ?_⟩
    have : xs = [] := List.eq_nil_of_length_eq_zero h0
    rw [this]; rfl
  · exact ⟨_, _, rfl, own_cells1 h (lt_of_block hg)⟩
theorem slv_cell {w : World} {B b off ca n : Nat} {es : List En} {o : Option Addr} {c k : Nat} (h : w.ownsRow B 22 1 (.slice o n c) n (slvs b off es ca n)) (hk : k < n) : ∃ g, o = some ⟨g, 0, none⟩ ∧ w.cell? ⟨g, k, none⟩ = some (slv b off es ca k) := by
  obtain ⟨g, cap, e, _, hlt, _⟩ := own_formK h (by omega)
  cases e
  rcases own_cells1 h hlt with h0 | ⟨b', off', e, _, hc⟩
  · have := congrArg List.length h0
    simp [slvs] at this
    omega
  · cases e
    have := hc k (by simpa [slvs] using hk)
    rw [Nat.zero_add] at this
    exact ⟨g, rfl, this.trans (by simp [slvs, hk])⟩
theorem chunk_elems {w : World} {b off : Nat} {es : List En} (h : ElemsAt enShape w (some ⟨b, off, none⟩) es) (k : Nat) : ElemsAt enShape w (some ⟨b, off + 8 * k * 4, none⟩) (chunk es k) := elems_take (elems_drop h (8 * k)) 8
theorem place_succ (es : List En) (k : Nat) : place es (k + 1) = place es k + (8 + (blk es k).size) := by
  unfold place
  rw [range_blk, framesB_snoc1, List.length_append, Fr.framesB_len [blk es k]]
  simp [total]
theorem seal_size {es : List En} (hs : Small es) : 8 * (tpays es).length + total (tpays es) ≤ 70368744177600 := by
  have h := tail_total hs
  rw [← Fr.framesB_len]
  unfold tpays
  rw [Fr.framesB_append, List.length_append, Fr.framesB_len (tailB es)]
  omega
theorem foot_is (es : List En) : (⟨#[84, 82, 77, 49]⟩ : ByteArray) ++ (⟨(enc (place es (nch es))).toArray⟩ : ByteArray) ++ (⟨(enc es.length).toArray⟩ : ByteArray) = str (footer es) := by
  have e1 : (⟨#[84, 82, 77, 49]⟩ : ByteArray) = str [84, 82, 77, 49] := rfl
  rw [e1, show (⟨(enc (place es (nch es))).toArray⟩ : ByteArray) = str (enc (place es (nch es))) from rfl, show (⟨(enc es.length).toArray⟩ : ByteArray) = str (enc es.length) from rfl, Fr.str_append, Fr.str_append, List.append_assoc]
  rfl
theorem index_is (es : List En) (k : Nat) : str (index es k) ++ ((⟨(text (lastK es k).data.toList).toArray⟩ : ByteArray) ++ (⟨(enc (place es k)).toArray⟩ : ByteArray)) = str (index es (k + 1)) := by
  rw [show (⟨(text (lastK es k).data.toList).toArray⟩ : ByteArray) = str (text (lastK es k).data.toList) from rfl, show (⟨(enc (place es k)).toArray⟩ : ByteArray) = str (enc (place es k)) from rfl, Fr.str_append, Fr.str_append, index_succ, List.append_assoc]
  rfl
theorem forms_of (xs : List ByteArray) : (∃ S, sealed xs = .tuple #[.string S, .int .i64 0]) ∨ sealed xs = .tuple #[.string ⟨#[]⟩, .int .i64 2] := by
  unfold sealed
  split
  · exact .inl ⟨_, rfl⟩
  · exact .inr rfl
set_option maxRecDepth 100000 in
set_option maxHeartbeats 2000000 in
theorem refBuild_any (ao : Option Addr) (ca : Nat) (es : List En) (w : World) (hx : ElemsAt enShape w ao es) (hok : AllOk es) (hca : es.length ≤ ca) (hs : Small es) :
    Calls Tryz.prog 6 #[.slice ao es.length ca] w fun e w' => e = .returned (tableV es) ∧ Below w.heap.size w w' := by
  obtain ⟨i0, hi, hz0, hz1, hz2⟩ := info_parts infoStrR
  obtain ⟨pb, off, hao⟩ : ∃ pb off, 0 < es.length → ao = some ⟨pb, off, none⟩ := by
    rcases hx with rfl | ⟨pb, off, he, _⟩
    · exact ⟨0, 0, fun h => absurd h (by simp)⟩
    · exact ⟨pb, off, fun _ => he⟩
  have hl : es.length ≤ 1000000000 := hs.few
  have hn : nch es ≤ 1000000000 := by unfold nch; omega
  have HPL : Hid (∀ k, k ≤ nch es → place es k ≤ 20000000000000 ∧ (index es k).length ≤ 20000000000000) := fun k hk => by
    have h1 := place_len es k hk
    have h2 := index_len es k hk
    have h3 := bytes_take es (8 * k)
    have h4 := hs.all
    have h5 : k ≤ 1000000000 := by omega
    omega
  have HX : Hid (∀ X, Below w.heap.size w X → ElemsAt enShape X ao es) := fun X hb => hx.later hb
  have HRt : Hid _ := rightR_any ao ca es w hx (by omega)
  have HSM : Hid (Small es) := hs
  have HOK : Hid (AllOk es) := hok
  have HAO : Hid (0 < es.length → ao = some ⟨pb, off, none⟩) := hao
  clear hx hs hok hao
  go_enter Tryz.func6, Tryz.ntmps6
  go_wp2_with fail
  refine (show Calls _ _ _ _ _ from HRt.out).mono ?_
  rintro e w1 ⟨rfl, hb1⟩
  have HB1 : Hid _ := hb1
  clear hb1 HRt
  by_cases hr : right es = true
  · have HV : Hid (tableV es = sealed (tpays es)) := by show _ = _; unfold tableV; rw [hr]; rfl
    have HR : Hid _ := hr
    rw [hr]
    clear hr
    go_wp2_with fail
    refine (blocksR_any ao pb off ca es w1 HAO.out hca hl).mono ?_
    rintro e w2 ⟨⟨v2, rfl, ho2⟩, hb2⟩
    obtain ⟨o2, c2, rfl⟩ := own_some ho2
    have HB2 : Hid (Below w.heap.size w w2) := HB1.out.trans (hb2.mono HB1.out.size)
    have HC2 : Hid (∀ X k, Below w2.heap.size w2 X → k < nch es → ∃ g, o2 = some ⟨g, 0, none⟩ ∧ X.cell? ⟨g, k, none⟩ = some (slv pb off es ca k)) := fun X k hX hk =>
      slv_cell (rows_keep ho2 (fun j hj => hX.block j (World.ownsRow.lt ho2 j hj).2)) hk
    clear ho2 hb2 HB1
    go_wp2_with fail
    refine (Pk.refNum_any (nch es) _ (by omega)).mono ?_
    rintro e w3 ⟨rfl, hb3⟩
    have HB3 : Hid (Below w2.heap.size w2 w3) := hb3
    have HI0 : Hid ((⟨(enc (nch es)).toArray⟩ : ByteArray) = str (index es 0)) := by show _ = _; rw [index_zero]; rfl
    obtain ⟨I0, hI0⟩ : ∃ I0 : ByteArray, I0 = ⟨(enc (nch es)).toArray⟩ := ⟨_, rfl⟩
    rw [← hI0] at HI0 ⊢
    clear hb3 hI0
    go_wp2
    go_loopw [5, 6, 7, 26] (fun v ix at' i wr => ∃ (k p : Nat) (I : ByteArray), i = .int .i64 k ∧ k ≤ nch es ∧ ix = .string I ∧ at' = .int .i64 p ∧ p ≤ 20000000000000 ∧ Hid (I = str (index es k)) ∧ Hid (p = place es k) ∧ Hid (wr.ownsRow w2.heap.size 9 1 v k (strVals ((List.range k).map (blk es)))) ∧ Hid (Below w2.heap.size w2 wr)) (fun _ _ _ i _ => nch es - (intOf i).toNat)
    case atStart => exact ⟨0, 0, I0, rfl, by omega, rfl, rfl, by omega, HI0, rfl, World.ownsRow_nil _ _ _ _, HB3⟩
    case round =>
      clear HB3 HI0
      obtain ⟨k, p, I, rfl, hk, rfl, rfl, hp, HI, HP, HO, HB⟩ := hrel
      have hsz := HB.out.size
      by_cases hlt : k < nch es
      · obtain ⟨g, rfl, cs⟩ := HC2.out wr k HB.out hlt
        have h8 := chunk_pos hlt
        obtain rfl := HAO.out (by omega)
        have hcl := chunk_len es k
        obtain ⟨n, hn'⟩ : ∃ n, n = (chunk es k).length := ⟨_, rfl⟩
        obtain ⟨j, hj⟩ : ∃ j, j + 1 = n := ⟨n - 1, by omega⟩
        have HEn : Hid (∀ X, Below w2.heap.size w2 X → Calls Tryz.prog 23 #[.slice (some ⟨pb, off + 8 * k * 4, none⟩) n (ca - 8 * k)] X fun e w' => e = .returned (.tuple #[.string (blk es k), .int .i64 0]) ∧ Below X.heap.size X w') := fun X hX => by
          rw [hn']
          refine (encodeR_any (some ⟨pb, off + 8 * k * 4, none⟩) (ca - 8 * k) (chunk es k) X (chunk_elems (HX.out X (HB2.out.trans (hX.mono HB2.out.size))) k) (chunk_ok HOK.out k) (HSM.out.chunk k)).mono ?_
          rintro e w' ⟨rfl, h⟩
          refine ⟨?_, h⟩
          unfold encV
          rw [right_chunk HR.out]
          rfl
        have HLC : Hid (∀ X, Below w2.heap.size w2 X → X.cell? ⟨pb, off + 8 * k * 4 + j * 4, none⟩ = some (.string (lastK es k))) := fun X hX => by
          obtain ⟨p2, o2, e2, d0, _⟩ := elem_cells (chunk_elems (HX.out X (HB2.out.trans (hX.mono HB2.out.size))) k) (k := j) (by omega)
          cases e2
          rw [d0]
          unfold lastK
          rw [← hn', show n - 1 = j by omega]
        have HLS : Hid ((lastK es k).size ≤ 140737488355328) := by
          show _ ≤ _
          unfold lastK
          rw [chunk_get (by omega)]
          have := (HSM.out.each (8 * k + ((chunk es k).length - 1))).1
          omega
        have HPN := HPL.out (k + 1) (by omega)
        rw [place_succ, ← HP.out] at HPN
        have HIX : Hid _ := index_is es k
        have HPS : Hid _ := place_succ es k
        have HRB : Hid ((List.range (k + 1)).map (blk es) = (List.range k).map (blk es) ++ [blk es k]) := range_blk es k
        rw [← HI.out, ← HP.out] at HIX
        rw [← HP.out] at HPS
        unfold slv at cs
        rw [← hn'] at cs
        have hBs : p + (8 + (blk es k).size) ≤ 20000000000000 := HPN.1
        have HIL : Hid ((str (index es (k + 1))).size ≤ 20000000000000) := by show _ ≤ _; rw [Fr.str_size]; exact HPN.2
        generalize blk es k = Bk' at *
        generalize lastK es k = L at *
        have hw : IntKind.i64.wrap ((n : Int) - 1) = (j : Int) := wrap_nat (by omega) (by omega)
        have hk0 : (0 : Int) ≤ (k : Int) := by omega
        have hk1 : (k : Int) < (nch es : Int) := by omega
        have hj0 : (0 : Int) ≤ (j : Int) := by omega
        have hj1 : (j : Int) < (n : Int) := by omega
        have hn8 : n ≤ 8 := by omega
        have HEr : Hid _ := HEn.out wr HB.out
        have HN1 : Hid _ := hj
        clear HEn HPN hn' hcl h8 hj HI HP
        go_wp2_with fail
        refine (show Calls _ _ _ _ _ from HEr.out).mono ?_
        rintro e w4 ⟨rfl, hb4⟩
        have HB4 : Hid (Below w2.heap.size w2 w4) := HB.out.trans (hb4.mono hsz)
        have HO4 : Hid (w4.ownsRow w2.heap.size 9 1 u5 k (strVals ((List.range k).map (blk es)))) := rows_keep HO.out (fun j hj => hb4.block j (World.ownsRow.lt HO.out j hj).2)
        have hs4 : w2.heap.size ≤ w4.heap.size := HB4.out.size
        clear hb4 HEr HB HO cs hsz
        go_wp2_with (at_builtin; refine wpList_append_any _ rfl _ _ 52 rfl w2.heap.size 9 i0 _ 16 Tryz.underlying52 hi hz0 hz1 hz2 rfl u5 k (strVals ((List.range k).map (blk es))) rfl (World.ownsRow.alloc HO4.out _) (some ⟨w4.heap.size, 0, none⟩) 1 1 [.string Bk'] rfl (by simp) rfl (cell_slice w4 (.string Bk') 9) (by intro u hu; simp at hu; subst hu; rfl) ?d1 ?d2 ?d3 ?_)
        case d1 => unfold maxLen; omega
        case d2 => omega
        case d3 => simp; omega
        intro v5 w5 hown5 hgrow5 hat5
        have HO5 : Hid (w5.ownsRow w2.heap.size 9 1 v5 (k + 1) (strVals ((List.range (k + 1)).map (blk es)))) := by rw [HRB.out, strVals_snoc]; exact hown5
        have HB5 : Hid (Below w2.heap.size w2 w5) := (HB4.out.alloc hs4 _).grown hgrow5 (by simp; omega) (fun j hj => (World.ownsRow.lt HO4.out j hj).1)
        have lc := HLC.out w5 HB5.out
        clear hown5 hgrow5 hat5 HO4 HB4 hs4 HLC
        go_wp2_with fail
        refine (Pk.refText_any L _ HLS.out).mono ?_
        rintro e w6 ⟨rfl, hb6⟩
        have HB6 : Hid (Below w2.heap.size w2 w6) := HB5.out.trans (hb6.mono HB5.out.size)
        have HO6 : Hid (w6.ownsRow w2.heap.size 9 1 v5 (k + 1) (strVals ((List.range (k + 1)).map (blk es)))) := rows_keep HO5.out (fun j hj => hb6.block j (World.ownsRow.lt HO5.out j hj).2)
        obtain ⟨TX, hTX⟩ : ∃ TX : ByteArray, TX = ⟨(text L.data.toList).toArray⟩ := ⟨_, rfl⟩
        rw [← hTX] at HIX ⊢
        clear hb6 HB5 HO5 lc hTX
        go_wp2_with fail
        refine (Pk.refNum_any p _ (by omega)).mono ?_
        rintro e w7 ⟨rfl, hb7⟩
        have HB7 : Hid (Below w2.heap.size w2 w7) := HB6.out.trans (hb7.mono HB6.out.size)
        have HO7 : Hid (w7.ownsRow w2.heap.size 9 1 v5 (k + 1) (strVals ((List.range (k + 1)).map (blk es)))) := rows_keep HO6.out (fun j hj => hb7.block j (World.ownsRow.lt HO6.out j hj).2)
        obtain ⟨NX, hNX⟩ : ∃ NX : ByteArray, NX = ⟨(enc p).toArray⟩ := ⟨_, rfl⟩
        rw [← hNX] at HIX ⊢
        have hsum : I.size + (TX.size + NX.size) ≤ 20000000000000 := by
          have h := HIL.out
          rw [← HIX.out, ByteArray.size_append, ByteArray.size_append] at h
          exact h
        clear hb7 HB6 HO6 hNX HIL
        go_wp2
        go_roundw
        case rel => exact ⟨k + 1, p + (8 + Bk'.size), I ++ (TX ++ NX), by go_num, by omega, rfl, by go_num, by omega, HIX, HPS.out.symm, HO7, HB7⟩
        case measure => simp [intOf]; omega
      · obtain rfl : k = nch es := by omega
        have HFT : Hid _ := foot_is es
        rw [← HP.out] at HFT
        have HKZ : Hid (∀ x ∈ keysE es, x.size ≤ 9223372036854775807) := fun x hx => by
          obtain ⟨i, hi, rfl⟩ := mem_keys hx
          have := (HSM.out.each i).1
          omega
        have hkl : (keysE es).length ≤ es.length := ks_len es es.length
        have HSE : Hid (∀ o c X, CellsAt X o (strVals (tpays es)) → Calls Tryz.prog 27 #[.slice o (tpays es).length c] X fun e w' => e = .returned (sealed (tpays es)) ∧ Below X.heap.size X w') := fun o c X hc => Fr.refSeal_any o c (tpays es) X hc (seal_size HSM.out)
        have HTP : Hid (strVals ((List.range (nch es)).map (blk es)) ++ strVals [I, str (filt (keysE es)), str (footer es)] = strVals (tpays es)) := by
          show _ = _
          rw [HI.out]
          simp [tpays, pays, tailB, strVals]
        have HTL : Hid ((tpays es).length = nch es + 3) := tpays_len es
        have hA := (enc_len p).2
        have hB := (enc_len es.length).2
        rw [show (enc p).length = (⟨(enc p).toArray⟩ : ByteArray).size from (Fr.str_size (enc p)).symm] at hA
        rw [show (enc es.length).length = (⟨(enc es.length).toArray⟩ : ByteArray).size from (Fr.str_size (enc es.length)).symm] at hB
        have HN1 : Hid (∀ X, Calls Tryz.prog 22 #[.int .u64 p] X fun e w' => e = .returned (.string ⟨(enc p).toArray⟩) ∧ Below X.heap.size X w') := fun X => Pk.refNum_any p X (by omega)
        have HN2 : Hid (∀ X, Calls Tryz.prog 22 #[.int .u64 es.length] X fun e w' => e = .returned (.string ⟨(enc es.length).toArray⟩) ∧ Below X.heap.size X w') := fun X => Pk.refNum_any es.length X (by omega)
        generalize (⟨(enc p).toArray⟩ : ByteArray) = A at *
        generalize (⟨(enc es.length).toArray⟩ : ByteArray) = B at *
        clear HI HP HPL HC2 HAO
        go_wp2_with fail
        refine (show Calls _ _ _ _ _ from HN1.out _).mono ?_
        rintro e w4 ⟨rfl, hb4⟩
        have HB4 : Hid (Below w2.heap.size w2 w4) := HB.out.trans (hb4.mono hsz)
        have HO4 : Hid _ := rows_keep HO.out (fun j hj => hb4.block j (World.ownsRow.lt HO.out j hj).2)
        clear hb4 HB HO HN1
        go_wp2_with fail
        refine (show Calls _ _ _ _ _ from HN2.out _).mono ?_
        rintro e w5 ⟨rfl, hb5⟩
        have HB5 : Hid (Below w2.heap.size w2 w5) := HB4.out.trans (hb5.mono HB4.out.size)
        have HO5 : Hid _ := rows_keep HO4.out (fun j hj => hb5.block j (World.ownsRow.lt HO4.out j hj).2)
        clear hb5 HB4 HO4 HN2
        have HKR : Hid _ := keysR_any ao ca es w5 (HX.out w5 (HB2.out.trans (HB5.out.mono HB2.out.size))) hl
        go_wp2_with fail
        refine (show Calls _ _ _ _ _ from HKR.out).mono ?_
        rintro e w6 ⟨⟨v6, rfl, ho6⟩, hb6⟩
        obtain ⟨o6, c6, rfl, hc6⟩ := own_strs ho6
        have HB6 : Hid (Below w2.heap.size w2 w6) := HB5.out.trans (hb6.mono HB5.out.size)
        have HO6 : Hid _ := rows_keep HO5.out (fun j hj => hb6.block j (World.ownsRow.lt HO5.out j hj).2)
        have HBR : Hid _ := Bl.buildR_any o6 c6 (keysE es) w6 hc6 (by omega) HKZ.out
        clear hb6 ho6 hc6 HB5 HO5 HKR
        go_wp2_with fail
        refine (show Calls _ _ _ _ _ from HBR.out).mono ?_
        rintro e w7 ⟨⟨f, rfl, hf⟩, hb7⟩
        obtain rfl : f = str (filt (keysE es)) := by rw [← filt_eq hf]; rfl
        generalize str (filt (keysE es)) = F at *
        have HB7 : Hid (Below w2.heap.size w2 w7) := HB6.out.trans (hb7.mono HB6.out.size)
        have HO7 : Hid (w7.ownsRow w2.heap.size 9 1 u5 (nch es) (strVals ((List.range (nch es)).map (blk es)))) := rows_keep HO6.out (fun j hj => hb7.block j (World.ownsRow.lt HO6.out j hj).2)
        have hs7 : w2.heap.size ≤ w7.heap.size := HB7.out.size
        rw [← HFT.out] at HTP
        generalize (⟨#[84, 82, 77, 49]⟩ : ByteArray) ++ A ++ B = FT at HTP ⊢
        have hc3 := cells_three w7 I F FT
        clear hb7 hf HB6 HO6 HBR HFT HKZ
        go_wp2_with (at_builtin; refine wpList_append_any _ rfl _ _ 52 rfl w2.heap.size 9 i0 _ 16 Tryz.underlying52 hi hz0 hz1 hz2 rfl u5 (nch es) (strVals ((List.range (nch es)).map (blk es))) rfl (World.ownsRow.alloc HO7.out _) (some ⟨w7.heap.size, 0, none⟩) 3 3 (strVals [I, F, FT]) rfl (by simp) rfl hc3 (by intro u hu; simp [strVals] at hu; rcases hu with rfl | rfl | rfl <;> rfl) ?d1 ?d2 ?d3 ?_)
        case d1 => unfold maxLen; omega
        case d2 => omega
        case d3 => simp; omega
        intro v8 w8 hown8 hgrow8 hat8
        have HB8 : Hid (Below w2.heap.size w2 w8) := (HB7.out.alloc hs7 _).grown hgrow8 (by simp; omega) (fun j hj => (World.ownsRow.lt HO7.out j hj).1)
        have ho8 : w8.ownsRow w2.heap.size 9 1 v8 (tpays es).length (strVals (tpays es)) := by rw [← HTP.out, HTL.out]; exact hown8
        obtain ⟨o8, c8, rfl, hc8⟩ := own_strs ho8
        have HS8 : Hid _ := HSE.out o8 c8 w8 hc8
        have HBW : Hid (Below w.heap.size w w8) := HB2.out.trans (HB8.out.mono HB2.out.size)
        clear hown8 hgrow8 hat8 ho8 hc8 HSE HTP HTL hc3 HO7 HB7 HB8 HB2
        go_wp2_with fail
        refine (show Calls _ _ _ _ _ from HS8.out).mono ?_
        rintro e w9 ⟨rfl, hb9⟩
        have HB9 : Hid (Below w.heap.size w w9) := HBW.out.trans (hb9.mono HBW.out.size)
        clear hb9 HS8 HBW
        rcases forms_of (tpays es) with ⟨Q, hQ⟩ | hQ
        all_goals
          rw [hQ]
          have HQ : Hid _ := HV.out.trans hQ
          clear hQ HV
          go_wp2
          go_ret2
          rw [HQ.out]
          exact ⟨rfl, HB9.out⟩
  · have hr' : right es = false := by simpa using hr
    have HV : Hid (tableV es = .tuple #[.string ⟨#[]⟩, .int .i64 9]) := by show _ = _; unfold tableV; rw [hr']; rfl
    rw [hr']
    clear hr hr'
    go_wp2
    go_ret2
    rw [HV.out]
    exact ⟨rfl, HB1.out⟩
end Go.Proofs.YtedjohkdfchocaaGreat.Tb
