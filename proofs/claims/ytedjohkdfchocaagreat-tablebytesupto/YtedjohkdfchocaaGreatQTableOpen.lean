/-
  The texts TableOpen.
-/
import Derived.Test.YtedjohkdfchocaaGreatQTableBuild
import Derived.Test.YtedjohkdfchocaaGreatQTableDecode

/-
  Package table: 'Open' answers the table of a text, or that it is none's.
-/
namespace Go.Proofs.YtedjohkdfchocaaGreat.Tb
open Go.RowKit Cm Mm Bk
open Fr (framesB str sealed strs)
set_option linter.unusedVariables false

def tbObj (v : Value) (f : ByteArray) : Obj := .cells #[v, .string f] 44 (0, 0)
/-- Block b is the table of these versions. -/
structure TabAt (w : World) (base b : Nat) (es : List En) (X : World) : Prop where
  row : ∃ v, X.heap[b]? = some (tbObj v (str (filt (keysE es)))) ∧ X.ownsRow base 25 4 v es.length (enShape.vals es)
  lo : base ≤ b
  bel : Below base w X
def OpenAns (w : World) (l : List UInt8) (e : Ending) (w' : World) : Prop :=
  ((∃ es b, IsTable l es ∧ Small es ∧ e = .returned (.tuple #[.pointer (some ⟨b, 0, none⟩), .int .i64 0]) ∧ TabAt w w.heap.size b es w') ∨ ((∀ es, ¬ IsTable l es) ∧ e = .returned (.tuple #[.pointer none, .int .i64 10]))) ∧ Below w.heap.size w w'
theorem Reads.small {ps : List ByteArray} {es : List En} (h : Reads ps es) (hs : ∀ p ∈ ps, p.size ≤ 65536) (ht : total ps ≤ 60000000) : Small es := by
  obtain ⟨h1, h2, h3⟩ := h.great hs
  refine ⟨by omega, by omega, fun k => ?_⟩
  by_cases hk : k < es.length
  · rw [getD_lt _ _ _ hk]
    have := h3 _ (List.getElem_mem hk)
    omega
  · rw [List.getD_eq_getElem?_getD, List.getElem?_eq_none (by omega)]
    exact ⟨Nat.zero_le _, Nat.zero_le _⟩
theorem fit_ok {es : List En} (h : ∀ e ∈ es, Fit e) : AllOk es := fun e he => (h e he).ok
theorem tableV_form (es : List En) : (∃ S, tableV es = .tuple #[.string S, .int .i64 0]) ∨ tableV es = .tuple #[.string ⟨#[]⟩, .int .i64 2] ∨ tableV es = .tuple #[.string ⟨#[]⟩, .int .i64 9] := by
  unfold tableV
  rcases Bool.eq_false_or_eq_true (right es) with hr | hr
  · rw [hr, if_pos rfl]
    by_cases hs : ∀ x ∈ tpays es, x.size ≤ 65536
    · rw [Fr.sealed_ok hs]; exact .inl ⟨_, rfl⟩
    · rw [Fr.sealed_long hs]; exact .inr (.inl rfl)
  · rw [hr]; exact .inr (.inr rfl)
theorem total_frames (ps : List (List UInt8)) : total (strs ps) + 8 * ps.length = (Fr.frames ps).length := by
  have h := Fr.framesB_len (strs ps)
  have h2 : framesB (strs ps) = Fr.frames ps := by
    unfold framesB strs Fr.frames
    rw [List.flatMap_map]
    rfl
  rw [h2] at h
  have h3 : (strs ps).length = ps.length := by simp [strs]
  omega
theorem texts_take {w : World} {ao : Option Addr} {xs : List ByteArray} (h : CellsAt w ao (strVals xs)) (k : Nat) : CellsAt w ao (strVals (xs.take k)) := by
  rcases h with h | ⟨b, off, e, hb, hc⟩
  · simp [strVals] at h; subst h; exact .inl (by simp [strVals])
  · refine .inr ⟨b, off, e, hb, fun j hj => ?_⟩
    have hj' : j < min k xs.length := by simpa [strVals] using hj
    rw [hc j (by simp [strVals]; omega)]
    simp [strVals, show j < k by omega]
theorem row_cap {w : World} {B n : Nat} {v : Value} {vs : List Value} (h : w.ownsRow B 9 1 v n vs) : ∃ ao cap, v = .slice ao n cap ∧ n ≤ cap ∧ CellsAt w ao vs := by
  obtain ⟨ao, cap, e, hc⟩ := Fr.own_cells h
  refine ⟨ao, cap, e, ?_, hc⟩
  rcases h.2 with ⟨hv, h0⟩ | ⟨g, cap', cur, hv, _, _, h1, _⟩
  · rw [e] at hv; cases hv; omega
  · rw [e] at hv; cases hv; exact h1
/-! ### No table's text -/
theorem no_end {l : List UInt8} {ps : List (List UInt8)} {n : Nat} (hU : Fr.Upto l ps n) (hf : Fr.first (l.drop n) = none) (h : n < l.length ∨ ps.length < 3) (es : List En) : ¬ IsTable l es := fun ht => by
  obtain ⟨h1, h2⟩ := ht.found hU hf
  have h3 := congrArg List.length h1
  rw [tpays_len] at h3
  have h4 : (strs ps).length = ps.length := by simp [strs]
  omega
theorem no_blocks {l : List UInt8} {ps : List (List UInt8)} {n i : Nat} (hU : Fr.Upto l ps n) (hf : Fr.first (l.drop n) = none) (hi : i < ((strs ps).take (ps.length - 3)).length) (h : ∀ es, IsBlock (bs (((strs ps).take (ps.length - 3)).getD i ByteArray.empty)) es → 8 < es.length) (es : List En) : ¬ IsTable l es := fun ht => by
  obtain ⟨h1, h2⟩ := ht.found hU hf
  have h4 : (strs ps).length = ps.length := by simp [strs]
  have h3 := ht.front h1
  rw [h4] at h3
  rw [h3] at hi h
  rw [pays_len] at hi
  rw [ht.at' hi] at h
  have := h (chunk es i) (ht.block i)
  rw [chunk_len] at this
  omega
theorem no_other {l : List UInt8} {ps : List (List UInt8)} {n : Nat} {es : List En} (hU : Fr.Upto l ps n) (hf : Fr.first (l.drop n) = none) (hr : Reads ((strs ps).take (ps.length - 3)) es) (h : tableV es ≠ .tuple #[.string (str l), .int .i64 0]) (es' : List En) : ¬ IsTable l es' := fun ht => by
  obtain ⟨h1, h2⟩ := ht.found hU hf
  have h4 : (strs ps).length = ps.length := by simp [strs]
  have h3 := ht.front h1
  rw [h4] at h3
  rw [h3] at hr
  have := hr.unique ht.readsAll
  subst this
  exact h ht.open
set_option maxRecDepth 100000 in
set_option maxHeartbeats 1000000 in
theorem open_any (T : ByteArray) (w : World) (hT : T.size ≤ 60000000) :
    Calls Tryz.prog 8 #[.string T] w fun e w' => OpenAns w (bs T) e w' := by
  have HSC : Hid _ := Fr.scan_any T w (by omega)
  go_enter Tryz.func8, Tryz.ntmps8
  go_wp2_with fail
  refine (show Calls _ _ _ _ _ from HSC.out).mono ?_
  rintro e w1 ⟨⟨v, n, ps, rfl, hU, hf, hown⟩, hb1⟩
  obtain ⟨po, pc, rfl, hpc, hcs⟩ := row_cap hown
  have hU' : Fr.Upto (bs T) ps n := hU
  have hnT := hU'.le
  rw [bs_len] at hnT
  have HB1 : Hid _ := hb1
  clear HSC hown hb1
  by_cases hend : n < T.size ∨ ps.length < 3
  · have HNO : Hid _ := no_end hU' hf (by rw [bs_len]; exact hend)
    clear hU hU' hf hcs
    by_cases h1 : n < T.size
    · have hg : decide ((n : Int) < (T.size : Int)) = true := decide_eq_true (by omega)
      have hg' : decide (n < T.size) = true := decide_eq_true h1
      clear hend
      go_wp2
      go_ret2
      exact ⟨.inr ⟨HNO.out, rfl⟩, HB1.out⟩
    · have hg : decide ((n : Int) < (T.size : Int)) = false := decide_eq_false (by omega)
      have hg' : decide (n < T.size) = false := decide_eq_false h1
      have hg2 : decide ((ps.length : Int) < 3) = true := decide_eq_true (by omega)
      have hg3 : decide (ps.length < 3) = true := decide_eq_true (by omega)
      clear hend
      go_wp2
      go_ret2
      exact ⟨.inr ⟨HNO.out, rfl⟩, HB1.out⟩
  · have hn : n = T.size := by omega
    subst hn
    have hp3 : 3 ≤ ps.length := by omega
    have hg : decide ((ps.length : Int) < 3) = false := decide_eq_false (by omega)
    have hg' : decide (ps.length < 3) = false := decide_eq_false (by omega)
    obtain ⟨k, hk⟩ : ∃ k, k + 3 = ps.length := ⟨ps.length - 3, by omega⟩
    have hk3 : ps.length - 3 = k := by omega
    have hwk : IntKind.i64.wrap ((ps.length : Int) - 3) = (k : Int) := wrap_nat (by omega) (by have := hU'.many; omega)
    have hsl : (strs ps).length = ps.length := by simp [strs]
    have htf := total_frames ps
    rw [← hU'.at_] at htf
    have htk := Fr.total_take (strs ps) k
    have hlk : ((strs ps).take k).length = k := by rw [List.length_take]; omega
    have hsm : ∀ p ∈ (strs ps).take k, p.size ≤ 65536 := fun p hp => by
      obtain ⟨q, hq, rfl⟩ := List.mem_map.1 (List.mem_of_mem_take hp)
      rw [Fr.str_size]
      exact hU'.small q hq
    have HDE : Hid _ := decode_any po pc ((strs ps).take k) w1 (texts_take hcs k) hsm (by omega) (by omega)
    rw [hlk] at HDE
    have HNB : Hid (∀ i, i < ((strs ps).take k).length → (∀ es, IsBlock (bs (((strs ps).take k).getD i ByteArray.empty)) es → 8 < es.length) → ∀ es, ¬ IsTable (bs T) es) := fun i hi h es => no_blocks hU' hf (by rw [hk3]; exact hi) (by rw [hk3]; exact h) es
    have HNE : Hid (∀ es, Reads ((strs ps).take k) es → tableV es ≠ .tuple #[.string T, .int .i64 0] → ∀ es', ¬ IsTable (bs T) es') := fun es hr h es' => no_other hU' hf (by rw [hk3]; exact hr) (by rw [show str (bs T) = T from str_back T]; exact h) es'
    have HSMA : Hid (∀ es, Reads ((strs ps).take k) es → Small es) := fun es hr => hr.small hsm (by omega)
    have HFI : Hid (∀ es, IsTable (bs T) es → (strs ps).getD (k + 1) ByteArray.empty = str (filt (keysE es))) := fun es ht => by
      have h1 := (ht.found hU' hf).1
      have := ht.filter h1
      rwa [hsl, hk3] at this
    have HCS : Hid (∀ X, Below w1.heap.size w1 X → ∃ b off, po = some ⟨b, off, none⟩ ∧ X.cell? ⟨b, off + (k + 1), none⟩ = some (.string ((strs ps).getD (k + 1) ByteArray.empty))) := fun X hX => text_cell (hcs.below hX) (by omega)
    have hk0 : (0 : Int) ≤ (k : Int) := by omega
    have hk1 : (k : Int) ≤ (pc : Int) := by omega
    have hk2 : (k : Int) + 1 < (ps.length : Int) := by omega
    have hkb : (k : Int) ≤ 1000000000 := by have := hU'.many; omega
    clear hU hU' hf hend hcs htf htk hlk hsm hsl hk3
    go_wp2_with fail
    refine (show Calls _ _ _ _ _ from HDE.out).mono ?_
    rintro e w2 ⟨⟨es, v2, hrd, rfl, hown2⟩ | ⟨⟨i, hi, hbad⟩, rfl⟩, hb2⟩
    · obtain ⟨ao, ca, rfl, hnil, _, hca, hel⟩ := own_rows (F := enShape) (show w2.ownsRow _ _ enShape.sz _ _ _ from hown2)
      have HSM : Hid _ := HSMA.out es hrd
      have HBU : Hid _ := build_any ao ca es w2 hel (fit_ok hrd.fit) hca HSM.out
      have HO2 : Hid _ := hown2
      have HB2 : Hid (Below w.heap.size w w2) := HB1.out.trans (hb2.mono HB1.out.size)
      have HB12 : Hid _ := hb2
      have HFT : Hid (tableV es = .tuple #[.string T, .int .i64 0] → IsTable (bs T) es) := fun h => table_of (l := bs T) hrd.fit h
      have HNO : Hid (tableV es ≠ .tuple #[.string T, .int .i64 0] → ∀ es', ¬ IsTable (bs T) es') := HNE.out es hrd
      clear hrd hown2 hb2 HDE HNB HNE HSMA hel
      go_wp2_with fail
      refine (show Calls _ _ _ _ _ from HBU.out).mono ?_
      rintro e w3 ⟨rfl, hb3⟩
      have HB3 : Hid (Below w.heap.size w w3) := HB2.out.trans (hb3.mono HB2.out.size)
      have HO3 : Hid (w3.ownsRow w.heap.size 25 4 (.slice ao es.length ca) es.length (enShape.vals es)) := by
        have h := rows_keep (show w2.ownsRow _ _ _ _ _ _ from HO2.out) (fun j hj => hb3.block j (World.ownsRow.lt HO2.out j hj).2)
        exact ⟨h.1, h.2.imp id (fun ⟨g, cap, cur, a, b, c⟩ => ⟨g, cap, cur, a, Nat.le_trans HB1.out.size b, c⟩)⟩
      have HC3 : Hid _ := HCS.out w3 (HB12.out.trans (hb3.mono HB12.out.size))
      clear hb3 HBU HO2 HB12 HCS
      by_cases hv : tableV es = .tuple #[.string T, .int .i64 0]
      · have HIT : Hid _ := HFT.out hv
        have HF := HFI.out es HIT.out
        obtain ⟨b, off, rfl, c1⟩ := HC3.out
        rw [HF] at c1
        rw [hv]
        have hSS : (T.toList == T.toList) = true := by simp
        clear hv HFT HNO HF HFI HC3
        have HTA : Hid (∀ X, X = w3.alloc (tbObj (.slice ao es.length ca) (str (filt (keysE es)))) → TabAt w w.heap.size w3.heap.size es X) := fun X hX => by
          subst hX
          exact ⟨⟨_, heap_alloc_new _ _, World.ownsRow.alloc HO3.out _⟩, HB3.out.size, HB3.out.alloc HB3.out.size _⟩
        unfold tbObj at HTA
        generalize str (filt (keysE es)) = F at *
        go_wp2
        go_ret2
        exact ⟨.inl ⟨es, _, HIT.out, HSM.out, rfl, HTA.out _ rfl⟩, HB3.out.alloc HB3.out.size _⟩
      · have HNT : Hid _ := HNO.out hv
        rcases tableV_form es with ⟨S, hS⟩ | hS | hS
        · have hne : (S.toList == T.toList) = false := by
            rw [beq_eq_false_iff_ne]
            intro e
            exact hv (by rw [hS, Mm.toList_inj e])
          rw [hS]
          clear hv hS HFT HNO HFI HC3
          go_wp2
          go_ret2
          exact ⟨.inr ⟨HNT.out, rfl⟩, HB3.out⟩
        · rw [hS]
          clear hv hS HFT HNO HFI HC3
          go_wp2
          go_ret2
          exact ⟨.inr ⟨HNT.out, rfl⟩, HB3.out⟩
        · rw [hS]
          clear hv hS HFT HNO HFI HC3
          go_wp2
          go_ret2
          exact ⟨.inr ⟨HNT.out, rfl⟩, HB3.out⟩
    · have HNT : Hid _ := HNB.out i hi hbad
      have HB2 : Hid (Below w.heap.size w w2) := HB1.out.trans (hb2.mono HB1.out.size)
      clear hbad hi hb2 HDE HNB HNE HSMA HFI HCS
      go_wp2
      go_ret2
      exact ⟨.inr ⟨HNT.out, rfl⟩, HB2.out⟩
end Go.Proofs.YtedjohkdfchocaaGreat.Tb
