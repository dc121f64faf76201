/-
  The texts TableKit.
-/
import Derived.Test.YtedjohkdfchocaaGreatQTableOpen

/-
  Tables of versions that are no more than what the statements are asked for: their text, and that they come back from it; no beginning of a table's text is one, and nothing with a byte behind it.
-/
namespace Go.Proofs.YtedjohkdfchocaaGreat.Tb
open Go.RowKit Cm Mm Bk
open Pk (enc enc_len text fold fold_lt)
open Fr (framesB str sealed)
set_option linter.unusedVariables false

theorem getD_bytes (es : List En) (k : Nat) : (es.getD k En.zero).key.size ≤ bytesE es ∧ (es.getD k En.zero).val.size ≤ bytesE es := by
  by_cases hk : k < es.length
  · rw [getD_lt _ _ _ hk]
    have := mem_bytes (List.getElem_mem hk)
    omega
  · rw [List.getD_eq_getElem?_getD, List.getElem?_eq_none (by omega)]
    exact ⟨Nat.zero_le _, Nat.zero_le _⟩
theorem small_of {es : List En} (h : es.length + bytesE es ≤ 1048576) : Small es :=
  ⟨by omega, by omega, fun k => by have := getD_bytes es k; omega⟩
theorem fit_of {es : List En} (hok : AllOk es) (h : es.length + bytesE es ≤ 1048576) (hr : right es = true) : ∀ e ∈ es, Fit e := fun e he => by
  have h1 := mem_bytes he
  refine ⟨hok e he, by omega, by omega, ?_⟩
  unfold right at hr
  rw [Bool.and_eq_true, List.all_eq_true] at hr
  exact hr.1 e he
theorem tableV_right {es : List En} {T : ByteArray} (h : tableV es = .tuple #[.string T, .int .i64 0]) : right es = true ∧ T = str (framesB (tpays es)) := by
  unfold tableV at h
  rcases Bool.eq_false_or_eq_true (right es) with hr | hr
  · rw [hr, if_pos rfl] at h
    by_cases hs : ∀ x ∈ tpays es, x.size ≤ 65536
    · rw [Fr.sealed_ok hs] at h
      exact ⟨hr, by simpa using h.symm⟩
    · rw [Fr.sealed_long hs] at h
      simp at h
  · rw [hr] at h
    simp at h
theorem built {es : List En} {T : ByteArray} (hok : AllOk es) (h : es.length + bytesE es ≤ 1048576) (ht : tableV es = .tuple #[.string T, .int .i64 0]) : IsTable (bs T) es ∧ T.size ≤ 59000000 := by
  obtain ⟨hr, hT⟩ := tableV_right ht
  refine ⟨table_of (l := bs T) (fit_of hok h hr) ht, ?_⟩
  rw [hT, Fr.str_size]
  unfold tpays
  rw [Fr.framesB_append, List.length_append]
  have h1 := index_len es (nch es) (Nat.le_refl _)
  have h2 := place_len es (nch es) (Nat.le_refl _)
  have h3 := bytes_take es (8 * nch es)
  have h6 : nch es ≤ (es.length + 7) / 8 := Nat.le_refl _
  have h7 := (enc_len (place es (nch es))).2
  have h8 := (enc_len es.length).2
  have h9 : (filt (keysE es)).length ≤ (10 * es.length + 7) / 8 := by
    rw [filt_len]
    have := ks_len es es.length
    unfold keysE Bl.len
    omega
  have h10 : (framesB (pays es)).length = place es (nch es) := rfl
  rw [h10, Fr.framesB_len]
  simp only [tailB, total, footer, List.length_cons, List.length_nil, List.map_cons, List.map_nil, List.sum_cons, List.sum_nil, Fr.str_size, List.length_append]
  omega
/-- Open answers the table that Build answered. -/
theorem open_built {w w' : World} {T : ByteArray} {es : List En} {e : Ending} (h : IsTable (bs T) es) (ha : OpenAns w (bs T) e w') : ∃ b, e = .returned (.tuple #[.pointer (some ⟨b, 0, none⟩), .int .i64 0]) ∧ TabAt w w.heap.size b es w' ∧ Small es := by
  rcases ha.1 with ⟨es', b, h1, h2, h3, h4⟩ | ⟨hno, _⟩
  · obtain rfl := h1.unique h
    exact ⟨b, h3, h4, h2⟩
  · exact absurd h (hno es)
theorem open_none {w w' : World} {l : List UInt8} {e : Ending} (h : ∀ es, ¬ IsTable l es) (ha : OpenAns w l e w') : e = .returned (.tuple #[.pointer none, .int .i64 10]) ∧ Below w.heap.size w w' := by
  rcases ha.1 with ⟨es', b, h1, _⟩ | ⟨_, h1⟩
  · exact absurd h1 (h es')
  · exact ⟨h1, ha.2⟩
/-! ### Cut off -/
theorem no_more {l : List UInt8} {es : List En} (h : IsTable l es) (c : UInt8) (es' : List En) : ¬ IsTable (l ++ [c]) es' := fun h' => by
  have h1 := Fr.scanned_datas (tpays es) h.small [c] (Fr.first_short (by simp))
  rw [← h.eq] at h1
  have := (h1.unique h'.scanned).2
  cases this
theorem enc_head {a : Nat} {t : List UInt8} {d : Bool} {v B : List UInt8} (ha : a < 18446744073709551616) (h : enc a ++ t = Bk.mark d v ++ B) : a ≤ 1 := by
  unfold Bk.mark at h
  cases d with
  | true =>
    have := (enc_free ha (b := 1) (u := B) (by omega) (by rw [h]; rfl)).1
    omega
  | false =>
    have := (enc_free ha (b := 0) (u := text v ++ B) (by omega) (by rw [h]; rfl)).1
    omega
theorem empty_last {a b : En} (h : less a b = true) (hb : bs b.key = []) : bs a.key = [] := by
  have hk : b.key = ⟨#[]⟩ := bs_inj (by rw [hb]; rfl)
  unfold less En.ahead at h
  by_cases he : a.key = b.key
  · rw [he, hb]
  · rw [if_neg he, hk, lt_bs] at h
    exact absurd h (List.not_lt_nil _)
theorem place_two {es : List En} (h : 0 < nch es) : 8 ≤ place es 1 := by
  unfold place
  rw [Fr.framesB_len]
  simp
/-- An index is no block of later versions. -/
theorem index_block {es es' : List En} {k : Nat} (hsm : Small es) (hs : Sorted es) (hok : ∀ e ∈ es, Fit e) (he : es' = es.take (8 * k)) (hk : k < nch es) (hn : nch es' = k) (h : index es' (nch es') = block (chunk es k)) : False := by
  have hp := chunk_pos hk
  have hcl := chunk_len es k
  have hfew := hsm.few
  obtain ⟨y, ys, hy⟩ : ∃ y ys, chunk es k = y :: ys := by
    cases hc : chunk es k with
    | nil => rw [hc] at hcl; simp at hcl; omega
    | cons y ys => exact ⟨y, ys, rfl⟩
  have hyf : Fit y := hok y (chunk_mem (k := k) (by rw [hy]; simp))
  have hyk : y = es.getD (8 * k) En.zero := by
    have h0 : (chunk es k).getD 0 En.zero = es.getD (8 * k + 0) En.zero := chunk_get (by omega)
    rw [hy] at h0
    simpa using h0
  have hb : block (chunk es k) = enc (chunk es k).length ++ (enc 0 ++ (text (bs y.key) ++ (enc (fold y.seq) ++ (Bk.mark y.dead (bs y.val) ++ body (bs y.key) ys)))) := by
    rw [hy]
    show enc (y :: ys).length ++ (Bk.piece [] y ++ body (bs y.key) ys) = _
    unfold Bk.piece pc Pc.bytes
    simp only [share_nil, List.drop_zero]
    rw [show bs (⟨(bs y.key).toArray⟩ : ByteArray) = bs y.key from bs_mk _]
    simp only [List.append_assoc]
  rw [hb] at h
  unfold index at h
  rw [hn] at h
  obtain ⟨hkc, h⟩ := enc_free (by omega) (by omega) h
  have hlen' : es'.length = 8 * k := by rw [he, List.length_take]; omega
  have hes' : ∀ j, j < 8 * k → less (es.getD j En.zero) y = true := fun j hj => by
    unfold Sorted at hs
    rw [List.pairwise_iff_getElem] at hs
    have := hs j (8 * k) (by omega) hp hj
    rw [hyk, getD_lt _ _ _ (show j < es.length by omega), getD_lt _ _ _ hp]
    exact this
  have hlast : ∀ i, i < k → lastK es' i = (es.getD (8 * i + 7) En.zero).key := fun i hi => by
    have h1 := chunk_len es' i
    unfold lastK
    rw [chunk_get (by omega), show (chunk es' i).length - 1 = 7 by omega, he]
    rw [List.getD_eq_getElem?_getD, List.getD_eq_getElem?_getD, List.getElem?_take, if_pos (by omega)]
  obtain ⟨k', hk'⟩ : ∃ k', k = k' + 1 := ⟨k - 1, by omega⟩
  have hsz : ∀ i, (lastK es' i).size < 18446744073709551616 := fun i => by
    have h1 := chunk_bytes es' i
    have h2 : bytesE es' ≤ bytesE es := by rw [he]; exact bytes_take _ _
    have h3 := hsm.all
    unfold lastK
    have := (getD_bytes (chunk es' i) ((chunk es' i).length - 1)).1
    omega
  have hp0 : place es' 0 = 0 := rfl
  have hrng : (List.range k).flatMap (fun i => text (bs (lastK es' i)) ++ enc (place es' i)) = (text (bs (lastK es' 0)) ++ enc 0) ++ (List.range k').flatMap (fun i => text (bs (lastK es' (i + 1))) ++ enc (place es' (i + 1))) := by
    rw [hk', List.range_succ_eq_map, List.flatMap_cons, hp0, List.flatMap_map]
  rw [hrng] at h
  unfold text at h
  simp only [List.append_assoc] at h
  obtain ⟨hz, h⟩ := enc_free (by rw [bs_len]; exact hsz 0) (by omega) h
  have hl0 : bs (lastK es' 0) = [] := List.eq_nil_of_length_eq_zero hz
  rw [hl0, List.nil_append] at h
  obtain ⟨hz2, h⟩ := enc_free (by omega) (by rw [bs_len]; have := hyf.key; omega) h
  have hyn : bs y.key = [] := List.eq_nil_of_length_eq_zero hz2.symm
  rw [hyn, List.nil_append] at h
  cases k' with
  | zero =>
    have := congrArg List.length h
    have h1 := (enc_len (fold y.seq)).1
    simp at this
    omega
  | succ k'' =>
    rw [List.range_succ_eq_map, List.flatMap_cons] at h
    have h1 : bs (lastK es' (0 + 1)) = [] := by
      rw [hlast (0 + 1) (by omega)]
      exact empty_last (hes' (8 * (0 + 1) + 7) (by omega)) hyn
    rw [h1] at h
    simp only [List.append_assoc, List.length_nil, List.nil_append] at h
    have hfo := fold_lt hyf.ok.1 hyf.ok.2
    obtain ⟨_, h⟩ := enc_free (by omega) hfo h
    have hpl := place_len es' (0 + 1) (by omega)
    have hpb := bytes_take es' (8 * (0 + 1))
    have h2 : bytesE es' ≤ bytesE es := by rw [he]; exact bytes_take _ _
    have h3 := hsm.all
    have := enc_head (by omega) h
    have hpt : 8 ≤ place es' (0 + 1) := place_two (es := es') (by omega)
    omega
theorem no_begin {l : List UInt8} {es : List En} (h : IsTable l es) (hsm : Small es) {j : Nat} (hj : j < l.length) (es' : List En) : ¬ IsTable (l.take j) es' := fun h' => by
  obtain ⟨i, r, hi, e, hr⟩ := Fr.framesB_cut (tpays es) h.small j
  have e1 : l.take j = framesB ((tpays es).take i) ++ r := by rw [h.eq]; exact e
  have h1 := Fr.scanned_datas ((tpays es).take i) (fun x hx => h.small x (List.mem_of_mem_take hx)) r hr
  rw [← e1] at h1
  obtain ⟨e2, e3⟩ := h1.unique h'.scanned
  have e4 : tpays es' = (tpays es).take i := by rw [← Fr.strs_datas (tpays es'), ← e2, Fr.strs_datas]
  have hil : i < (tpays es).length := by
    rcases Nat.lt_or_ge i (tpays es).length with h2 | h2
    · exact h2
    · exfalso
      rw [List.take_of_length_le h2, e3, List.append_nil, ← h.eq] at e1
      have := congrArg List.length e1
      rw [List.length_take] at this
      omega
  have hl := congrArg List.length e4
  rw [List.length_take, tpays_len] at hl
  rw [tpays_len] at hil hl
  obtain ⟨k, hk⟩ : ∃ k, k = nch es' := ⟨_, rfl⟩
  have hik : i = k + 3 := by omega
  have hkn : k < nch es := by omega
  have hpay : pays es' = (pays es).take k := by
    have h2 := congrArg (List.take k) e4
    unfold tpays at h2
    rw [List.take_left' (by rw [pays_len, hk]), List.take_take, List.take_append_of_le_length (by rw [pays_len]; omega)] at h2
    rw [h2, Nat.min_eq_left (by omega)]
  have hidx : str (index es' (nch es')) = blk es k := by
    have h2 : (tpays es')[k]? = ((tpays es).take i)[k]? := by rw [e4]
    unfold tpays at h2
    rw [List.getElem?_append_right (by rw [pays_len]; omega), pays_len, ← hk, Nat.sub_self, List.getElem?_take, if_pos (by omega), List.getElem?_append_left (by rw [pays_len]; exact hkn)] at h2
    unfold pays at h2
    rw [List.getElem?_map, List.getElem?_range hkn] at h2
    simpa [tailB, hk] using h2
  have hes : es' = es.take (8 * k) := by
    have h2 := h'.readsAll
    rw [hpay, pays_take (by omega)] at h2
    exact h2.unique (h.reads k)
  have hib : index es' (nch es') = block (chunk es k) := by
    have := congrArg bs hidx
    exact this
  exact index_block hsm (right_sorted h.right) h.fit hes hkn hk.symm hib
end Go.Proofs.YtedjohkdfchocaaGreat.Tb
