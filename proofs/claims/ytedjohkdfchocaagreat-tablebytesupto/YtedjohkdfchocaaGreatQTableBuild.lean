/-
  The texts TableBuild.
-/
import Derived.Test.YtedjohkdfchocaaGreatQTableLayWalk
import Derived.Test.YtedjohkdfchocaaGreatQTableKeys
import Derived.Test.YtedjohkdfchocaaGreatQBloomBuild
import Derived.Laws.Concat

/-
  Package table: 'footer', and 'Build' answers the table's text.
-/
namespace Go.Proofs.YtedjohkdfchocaaGreat.Tb
open Go.RowKit Cm Mm Bk
open Pk (enc enc_len)
open Fr (framesB str sealed)
set_option linter.unusedVariables false

theorem cells_two (w : World) (a b : Nat) : ∀ j, j < [a, b].length → (w.alloc (.cells #[.int .u64 a, .int .u64 b] 59)).cell? ⟨w.heap.size, 0 + j, none⟩ = some (.int .u64 ([a, b].getD j 0)) := fun j hj => by
  have e := heap_alloc_new w (.cells #[.int .u64 a, .int .u64 b] 59)
  rw [Joins.cell_of_block e]
  match j, hj with
  | 0, _ => rfl
  | 1, _ => rfl
set_option maxRecDepth 100000 in
set_option maxHeartbeats 1000000 in
theorem footer_any (i n : Nat) (w : World) (hi : i ≤ 9223372036854775807) (hn : n ≤ 9223372036854775807) :
    Calls Tryz.prog 19 #[.int .i64 i, .int .i64 n] w fun e w' => e = .returned (.string (str ([84, 82, 77, 49] ++ (enc i ++ enc n)))) ∧ Below w.heap.size w w' := by
  have HN : Hid _ := Pk.Nums_any w.heap.size 0 2 [i, n] (w.alloc (.cells #[.int .u64 i, .int .u64 n] 59)) (by intro x hx; simp at hx; omega) (cells_two w i n) (by simp) (by simp)
  go_enter Tryz.func19, Tryz.ntmps19
  go_wp2_with fail
  refine (show Calls _ _ _ _ _ from HN.out).mono ?_
  rintro e w1 ⟨rfl, hb⟩
  have HB : Hid (Below w.heap.size w w1) := ((Below.refl _ _).alloc (Nat.le_refl _) _).trans (hb.mono (by simp))
  clear hb HN
  have hs : (⟨(Pk.nums [i, n]).toArray⟩ : ByteArray) = str (enc i ++ enc n) := by simp [Pk.nums, str]
  rw [hs]
  have HS : Hid ((⟨#[84, 82, 77, 49]⟩ : ByteArray) ++ str (enc i ++ enc n) = str ([84, 82, 77, 49] ++ (enc i ++ enc n))) := by
    show _ = _
    apply bs_inj
    simp [bs, str]
  have hT : (str (enc i ++ enc n)).size ≤ 20 := by
    rw [Fr.str_size, List.length_append]
    have h1 := (enc_len i).2
    have h2 := (enc_len n).2
    omega
  generalize str (enc i ++ enc n) = T at *
  clear hs
  have hadd := fun w : World => run_string_add_sum (P := Tryz.prog) w ⟨#[84, 82, 77, 49]⟩ T (by show 4 + T.size ≤ _; omega)
  go_wp2
  go_ret
  refine ⟨?_, HB.out⟩
  rw [HS.out]
  rfl
theorem cells_three (w : World) (a b c : ByteArray) : CellsAt (w.alloc (.cells #[.string a, .string b, .string c] 9)) (some ⟨w.heap.size, 0, none⟩) (strVals [a, b, c]) := by
  refine .inr ⟨w.heap.size, 0, rfl, by simp, fun j hj => ?_⟩
  rw [Joins.cell_of_block (heap_alloc_new w (.cells #[.string a, .string b, .string c] 9)), Nat.zero_add]
  simp [strVals]
theorem part_rows {w : World} {B : Nat} {v : Value} {es : List En} (h : w.ownsRow B 74 5 v (parts es).length (ptShape.vals (parts es))) : ∃ po pc, v = .slice po (nch es) pc ∧ ElemsAt ptShape w po (parts es) := by
  obtain ⟨po, pc, e, _, _, _, h1⟩ := own_rows (F := ptShape) (show w.ownsRow _ _ ptShape.sz _ _ _ from h)
  have hl : (parts es).length = nch es := by simp [parts]
  rw [hl] at e
  exact ⟨po, pc, e, h1⟩
theorem tpays_iff (es : List En) : (∀ x ∈ tpays es, x.size ≤ 65536) ↔ (∀ x ∈ pays es, x.size ≤ 65536) ∧ ∀ x ∈ tailB es, x.size ≤ 65536 := by
  unfold tpays
  constructor
  · exact fun h => ⟨fun x hx => h x (List.mem_append_left _ hx), fun x hx => h x (List.mem_append_right _ hx)⟩
  · exact fun h x hx => (List.mem_append.1 hx).elim (h.1 x) (h.2 x)
theorem tail_total {es : List En} (hs : Small es) : 8 * (tailB es).length + total (tailB es) ≤ 40000000000000 ∧ (framesB (pays es)).length ≤ 20000000000000 := by
  have h1 := index_len es (nch es) (Nat.le_refl _)
  have h2 := place_len es (nch es) (Nat.le_refl _)
  have h3 := bytes_take es (8 * nch es)
  have h4 := hs.all
  have h5 := hs.few
  have h6 : nch es ≤ 1000000000 := by unfold nch; omega
  have h7 := (enc_len (place es (nch es))).2
  have h8 := (enc_len es.length).2
  have h9 : (filt (keysE es)).length ≤ 10000000000 := by
    rw [filt_len]
    have := ks_len es es.length
    unfold keysE Bl.len
    omega
  refine ⟨?_, ?_⟩
  · simp only [tailB, total, footer, List.length_cons, List.length_nil, List.map_cons, List.map_nil, List.sum_cons, List.sum_nil, Fr.str_size, List.length_append]
    omega
  · show place es (nch es) ≤ _
    omega
set_option maxRecDepth 100000 in
set_option maxHeartbeats 1000000 in
theorem build_any (ao : Option Addr) (ca : Nat) (es : List En) (w : World) (hx : ElemsAt enShape w ao es) (hok : AllOk es) (hca : es.length ≤ ca) (hs : Small es) :
    Calls Tryz.prog 5 #[.slice ao es.length ca] w fun e w' => e = .returned (tableV es) ∧ Below w.heap.size w w' := by
  have HX : Hid (∀ X, Below w.heap.size w X → ElemsAt enShape X ao es) := fun X hb => hx.later hb
  have HCU : Hid _ := cut_any ao ca es w hx hok hca hs
  have HSM : Hid (Small es) := hs
  have hfew := hs.few
  obtain ⟨htl, hpl⟩ := tail_total hs
  have HTL : Hid _ := htl
  clear hx hok hs htl
  go_enter Tryz.func5, Tryz.ntmps5
  go_wp2_with fail
  refine (show Calls _ _ _ _ _ from HCU.out).mono ?_
  rintro e w1 ⟨⟨hr, v, rfl, hrow⟩ | ⟨hr, rfl⟩, hb1⟩
  · have HT : Hid (tableV es = sealed (tpays es)) := by show _ = _; unfold tableV; rw [hr]; rfl
    obtain ⟨po, pc, rfl, hpe⟩ := part_rows hrow
    have HLA : Hid _ := lay_any po pc es w1 hpe HSM.out
    have HB1 : Hid _ := hb1
    clear hr hrow hpe hb1 HCU
    go_wp2_with fail
    refine (show Calls _ _ _ _ _ from HLA.out).mono ?_
    rintro e w2 ⟨⟨hall, rfl⟩ | ⟨hno, rfl⟩, hb2⟩
    · have HB2 : Hid (Below w.heap.size w w2) := HB1.out.trans (hb2.mono HB1.out.size)
      have HALL : Hid _ := hall
      have HK : Hid _ := keys_any ao ca es w2 (HX.out w2 HB2.out) hfew
      clear hall hb2 HB1 HLA HX
      have hlb : (str (framesB (pays es))).size = place es (nch es) := by rw [Fr.str_size]; rfl
      have HLB : Hid _ := hlb
      clear hlb
      go_wp2_with fail
      refine (show Calls _ _ _ _ _ from HK.out).mono ?_
      rintro e w3 ⟨⟨ko, kc, rfl, hck⟩, hb3⟩
      have HB3 : Hid (Below w.heap.size w w3) := HB2.out.trans (hb3.mono HB2.out.size)
      have HBB : Hid _ := Bl.build_any ko kc (keysE es) w3 hck (by have := ks_len es es.length; unfold keysE; omega) (fun x hx => by
        obtain ⟨i, _, rfl⟩ := mem_keys hx
        have := (HSM.out.each i).1
        omega)
      clear hck hb3 HK HB2
      go_wp2_with fail
      refine (show Calls _ _ _ _ _ from HBB.out).mono ?_
      rintro e w4 ⟨⟨F, rfl, hF⟩, hb4⟩
      have HB4 : Hid (Below w.heap.size w w4) := HB3.out.trans (hb4.mono HB3.out.size)
      have HFE : Hid (F = str (filt (keysE es))) := by
        show _ = _
        have := filt_eq hF
        apply bs_inj
        rw [show bs F = F.data.toList from rfl, this]
        rfl
      have HFO : Hid _ := footer_any (place es (nch es)) es.length w4 (by have h : (framesB (pays es)).length = place es (nch es) := rfl; omega) (by omega)
      clear hF hb4 HBB HB3
      have hlb := HLB.out
      go_wp2_with fail
      refine (show Calls _ _ _ _ _ from HFO.out).mono ?_
      rintro e w5 ⟨rfl, hb5⟩
      have HB5 : Hid (Below w.heap.size w w5) := HB4.out.trans (hb5.mono HB4.out.size)
      have HSE : Hid _ := Fr.seal_small (some ⟨w5.heap.size, 0, none⟩) 3 [str (index es (nch es)), F, str (footer es)] (w5.alloc (.cells #[.string (str (index es (nch es))), .string F, .string (str (footer es))] 9)) (cells_three w5 _ _ _) (by have := HTL.out; rw [HFE.out]; exact Nat.le_trans this (by omega))
      have HTE : Hid ([str (index es (nch es)), F, str (footer es)] = tailB es) := by show _ = _; rw [HFE.out]; rfl
      rw [HTE.out] at HSE
      have hln : (tailB es).length = 3 := rfl
      rw [hln] at HSE
      have hfo : str ([84, 82, 77, 49] ++ (enc (place es (nch es)) ++ enc es.length)) = str (footer es) := rfl
      rw [hfo]
      clear hb5 HFO HB4 hlb hfo hln HTE HFE
      go_wp2_with fail
      refine (show Calls _ _ _ _ _ from HSE.out).mono ?_
      rintro e w6 ⟨rfl, hb6⟩
      have HB6 : Hid (Below w.heap.size w w6) := (HB5.out.alloc HB5.out.size _).trans (hb6.mono (by have := HB5.out.size; simp; omega))
      clear hb6 HSE HB5
      by_cases hts : ∀ x ∈ tailB es, x.size ≤ 65536
      · have HV : Hid (tableV es = .tuple #[.string (str (framesB (tpays es))), .int .i64 0]) := by
          show _ = _
          rw [HT.out, Fr.sealed_ok ((tpays_iff es).2 ⟨HALL.out, hts⟩)]
        have HST : Hid (str (framesB (pays es)) ++ str (framesB (tailB es)) = str (framesB (tpays es))) := by
          show _ = _
          unfold tpays
          rw [Fr.framesB_append]
          apply bs_inj
          simp [bs, str]
        rw [Fr.sealed_ok hts]
        have hb2 : (str (framesB (tailB es))).size ≤ 40000000000000 := by
          rw [Fr.str_size, Fr.framesB_len]
          exact HTL.out
        have hb1 : (str (framesB (pays es))).size ≤ 20000000000000 := by rw [Fr.str_size]; exact hpl
        clear hts hpl
        generalize str (framesB (pays es)) = A at *
        generalize str (framesB (tailB es)) = B at *
        have hadd := fun w : World => run_string_add_sum (P := Tryz.prog) w A B (by omega)
        go_wp2
        go_ret2
        exact ⟨by rw [HV.out, ← HST.out]; rfl, HB6.out⟩
      · have HV : Hid (tableV es = .tuple #[.string ⟨#[]⟩, .int .i64 2]) := by
          show _ = _
          rw [HT.out, Fr.sealed_long (fun h => hts ((tpays_iff es).1 h).2)]
        rw [Fr.sealed_long hts]
        clear hts hpl
        go_wp2
        go_ret2
        exact ⟨by rw [HV.out]; rfl, HB6.out⟩
    · have HV : Hid (tableV es = .tuple #[.string ⟨#[]⟩, .int .i64 2]) := by
        show _ = _
        rw [HT.out, Fr.sealed_long (fun h => hno ((tpays_iff es).1 h).1)]
      have HB2 : Hid (Below w.heap.size w w2) := HB1.out.trans (hb2.mono HB1.out.size)
      clear hno hb2 HB1
      go_wp2
      go_ret2
      exact ⟨by rw [HV.out]; rfl, HB2.out⟩
  · have HV : Hid (tableV es = .tuple #[.string ⟨#[]⟩, .int .i64 9]) := by show _ = _; unfold tableV; rw [hr]; rfl
    have HB1 : Hid _ := hb1
    clear hr hb1
    go_wp2
    go_ret2
    exact ⟨by rw [HV.out]; rfl, HB1.out⟩
end Go.Proofs.YtedjohkdfchocaaGreat.Tb
