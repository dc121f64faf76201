/-
  Package cabin: a label read.
-/
import Derived.Test.YtbnmjmapmbdioaaDoorCabLabel
namespace Go.Proofs.YtbnmjmapmbdioaaDoor.Cb
open Go.RowKit Cm Go.Shelf
open Ma (OkI atoi_itoa itoa_inj dec_digit)
attribute [local go_sem ↓] Go.wp_at_zero Go.wp_at_succ
set_option linter.unusedVariables false

/-- The two errors' variables hold errors. -/
structure Errs (w : World) : Prop where
  syn : ∃ tp p, w.var? Tryd.prog "strconv.ErrSyntax" = some #[.iface tp p]
  rng : ∃ tp p, w.var? Tryd.prog "strconv.ErrRange" = some #[.iface tp p]
theorem Errs.below {w w' : World} (h : Errs w) (hb : Below w.heap.size w w') : Errs w' := by
  obtain ⟨⟨t, p, h1⟩, ⟨u, q, h2⟩⟩ := h
  exact ⟨⟨t, p, var_below h1 hb⟩, ⟨u, q, var_below h2 hb⟩⟩
theorem below_bytes {X w2 : World} {e : TypeId} (h : w2 = X ∨ ∃ t, w2 = Lib.bytesWorld X e t) : Below X.heap.size X w2 := by
  rcases h with rfl | ⟨t, rfl⟩
  · exact Below.refl _ _
  · exact Lib.bytesWorld_below _ _ _
/-- What Atoi answers, beside its error too. -/
def numR (r : List UInt8) : Int := match Lib.atoiAll r with | .ok v => v | .range => Lib.atoiSat r | _ => 0
def numOk (r : List UInt8) : Bool := match Lib.atoiAll r with | .ok _ => true | _ => false
theorem numR_ok (r : List UInt8) : OkI (numR r) := by
  unfold numR
  cases h : Lib.atoiAll r
  · exact Lib.atoiAll_bounds h
  · exact Ma.OkI.zero
  · exact Lib.atoiSat_bounds r
/-- An error, or none. -/
def errV (b : Bool) (v : Value) : Prop := if b = true then v = .nilIface else ∃ t q, v = .iface t q
theorem atoi_num (r : List UInt8) (hs : r.length ≤ 281474976710656) (w : World) (he : Errs w) : Calls Tryd.prog 33 #[.string ⟨r.toArray⟩] w fun e w' => ∃ ev, e = .returned (.tuple #[.int .i64 (numR r), ev]) ∧ errV (numOk r) ev ∧ Below w.heap.size w w' := by
  have hz : (⟨r.toArray⟩ : ByteArray).size ≤ 281474976710656 := by show r.toArray.size ≤ _; rw [List.size_toArray]; exact hs
  cases h : Lib.atoiAll r
  · refine (Any.strconv_Atoi_ok Tryd.atoiC ⟨r.toArray⟩ (by omega) _ h w).mono ?_
    rintro e w' ⟨rfl, hw⟩
    exact ⟨_, by unfold numR; rw [h], by unfold numOk errV; rw [h]; simp, below_bytes hw⟩
  · obtain ⟨t, p, hv⟩ := he.syn
    refine (Any.strconv_Atoi_syntax_var Tryd.atoiC ⟨r.toArray⟩ hz h t p w hv).mono ?_
    rintro e w' ⟨N, rfl, _, _, hb⟩
    exact ⟨_, by unfold numR; rw [h], by unfold numOk errV; rw [h]; simp, hb⟩
  · obtain ⟨t, p, hv⟩ := he.rng
    refine (Any.strconv_Atoi_range_var Tryd.atoiC ⟨r.toArray⟩ hz h t p w hv).mono ?_
    rintro e w' ⟨N, rfl, _, _, hb⟩
    exact ⟨_, by unfold numR; rw [h], by unfold numOk errV; rw [h]; simp, hb⟩
/-! ### A label, plainly -/
/-- The seat of a text of k + 1 signs. -/
def seatOf (T : ByteArray) : Int × Int := (numR (T.data.toList.take (T.size - 1)), ((T.data.toList.getD (T.size - 1) 0).toNat : Int))
def parsedT (T : ByteArray) : Option (Int × Int) := if 2 ≤ T.size ∧ lbl (seatOf T) = T then some (seatOf T) else none
def parsedV : Option (Int × Int) → Value
  | some a => .tuple #[sev a, .bool true]
  | none => .tuple #[sev (0, 0), .bool false]
theorem lbl_minus {a : Int × Int} (h : ¬ (1 ≤ a.1 ∧ a.1 ≤ 99 ∧ isL a.2 = true)) : lbl a = ⟨#[45]⟩ := if_neg h
theorem lbl_right {a : Int × Int} (h : 1 ≤ a.1 ∧ a.1 ≤ 99 ∧ isL a.2 = true) : lbl a = digits a.1 ++ letS a.2 := if_pos h
theorem lbl_list {a : Int × Int} (h : 1 ≤ a.1 ∧ a.1 ≤ 99 ∧ isL a.2 = true) : (lbl a).data.toList = Lib.itoa a.1 ++ [UInt8.ofNat a.2.toNat] := by
  rw [lbl_right h]; simp [digits, letS]
theorem size_list (T : ByteArray) : T.size = T.data.toList.length := by rw [Array.length_toList]; rfl
/-- Where Atoi answers an error the text is no label. -/
theorem no_label {T : ByteArray} (h2 : 2 ≤ T.size) (hno : numOk (T.data.toList.take (T.size - 1)) = false) : lbl (seatOf T) ≠ T := by
  intro he
  by_cases hr : 1 ≤ (seatOf T).1 ∧ (seatOf T).1 ≤ 99 ∧ isL (seatOf T).2 = true
  · have hl := lbl_list hr
    rw [he] at hl
    have hlen := size_list T
    rw [hl, List.length_append, List.length_singleton] at hlen
    have ht : T.data.toList.take (T.size - 1) = Lib.itoa (seatOf T).1 := by
      rw [hl, List.take_append_of_le_length (by omega), List.take_of_length_le (by omega)]
    have h1 : (seatOf T).1 = numR (T.data.toList.take (T.size - 1)) := rfl
    rw [ht] at hno
    have := atoi_itoa (seatOf T).1 (by omega) (by omega)
    unfold numOk at hno
    rw [this] at hno
    cases hno
  · rw [lbl_minus hr] at he
    have : T.size = 1 := by rw [← he]; rfl
    omega
theorem parsed_short {T : ByteArray} (h : T.size < 2) : parsedT T = none := if_neg (fun k => by omega)
/-- Parse undoes Label. -/
theorem parsed_label {a : Int × Int} (hx : 0 ≤ a.2 ∧ a.2 ≤ 255) : parsedT (lbl a) = if 1 ≤ a.1 ∧ a.1 ≤ 99 ∧ isL a.2 = true then some a else none := by
  by_cases h : 1 ≤ a.1 ∧ a.1 ≤ 99 ∧ isL a.2 = true
  · rw [if_pos h]
    have hl := lbl_list h
    have hlen := size_list (lbl a)
    rw [hl, List.length_append, List.length_singleton] at hlen
    have hne : 1 ≤ (Lib.itoa a.1).length := by
      have : Lib.itoa a.1 ≠ [] := by
        unfold Lib.itoa
        rw [if_neg (by omega)]
        exact Ma.dec_ne _
      cases hh : Lib.itoa a.1 with
      | nil => exact absurd hh this
      | cons _ _ => simp
    have ht : (lbl a).data.toList.take ((lbl a).size - 1) = Lib.itoa a.1 := by
      rw [hl, List.take_append_of_le_length (by omega), List.take_of_length_le (by omega)]
    have hg : (lbl a).data.toList.getD ((lbl a).size - 1) 0 = UInt8.ofNat a.2.toNat := by
      rw [hl, hlen, Nat.add_sub_cancel, List.getD_eq_getElem?_getD, List.getElem?_append_right (Nat.le_refl _), Nat.sub_self]
      rfl
    have hs : seatOf (lbl a) = a := by
      unfold seatOf
      rw [ht, hg]
      have h1 : numR (Lib.itoa a.1) = a.1 := by unfold numR; rw [atoi_itoa a.1 (by omega) (by omega)]
      have h2 : ((UInt8.ofNat a.2.toNat).toNat : Int) = a.2 := by rw [UInt8.toNat_ofNat']; omega
      rw [h1, h2]
    unfold parsedT
    rw [hs, if_pos ⟨by omega, rfl⟩]
  · rw [if_neg h, parsed_short (by rw [lbl_minus h]; decide)]
theorem parsed_back {T : ByteArray} {a : Int × Int} (h : parsedT T = some a) : lbl a = T := by
  unfold parsedT at h
  by_cases hc : 2 ≤ T.size ∧ lbl (seatOf T) = T
  · rw [if_pos hc] at h; cases h; exact hc.2
  · rw [if_neg hc] at h; cases h
theorem seat_set {w : World} {g : Nat} {a b : Int} (h : w.heap[g]? = some (seObj a b)) (t : Int × Int) : (w.setCell ⟨g, 0, none⟩ (.int .i64 t.1)).cell? ⟨g, 0, none⟩ = some (.int .i64 t.1) ∧ ((w.setCell ⟨g, 0, none⟩ (.int .i64 t.1)).setCell ⟨g, 1, none⟩ (.int .u8 t.2)).cell? ⟨g, 1, none⟩ = some (.int .u8 t.2) := by
  unfold seObj at h
  have h1 := Joins.block_setCell h (i := 0) (.int .i64 t.1)
  have h2 := Joins.block_setCell h1 (i := 1) (.int .u8 t.2)
  rw [Joins.cell_of_block h1, Joins.cell_of_block h2]
  simp
theorem seo_frozen {w : World} {g : Nat} {a b : Int} (h : w.heap[g]? = some (seObj a b)) (j : Nat) : w.frozen? ⟨g, j, none⟩ = false := by simp [World.frozen?, h, seObj]
theorem front_of (T : ByteArray) (k : Nat) : T.extract 0 k = ⟨(T.data.toList.take k).toArray⟩ := by
  apply ByteArray.ext
  rw [ByteArray.data_extract]
  apply Array.ext'
  simp
theorem last_of (T : ByteArray) (k : Nat) (h : k < T.size) : T.data.toList.getD k 0 = T[k] := by
  rw [List.getD_eq_getElem?_getD, List.getElem?_eq_getElem (by rw [← size_list]; exact h)]; rfl
set_option maxRecDepth 100000 in
set_option maxHeartbeats 2000000 in
theorem parse_any (T : ByteArray) (hs : T.size ≤ 281474976710000) (w : World) (hp : Pow w) (he : Errs w) : Calls Tryd.prog 23 #[.string T] w fun e w' => e = .returned (parsedV (parsedT T)) ∧ Below w.heap.size w w' := by
  obtain ⟨X, hX⟩ : ∃ X, X = w.alloc (seObj 0 0) := ⟨_, rfl⟩
  have hbX : Below w.heap.size w X := by rw [hX]; exact (Below.refl _ _).alloc (Nat.le_refl _) _
  have hg : X.heap[w.heap.size]? = some (seObj 0 0) := by rw [hX]; exact heap_alloc_new w _
  rcases Nat.eq_zero_or_pos T.size with h0 | h0
  · have hT : T = ⟨#[]⟩ := by
      apply ByteArray.ext
      exact Array.eq_empty_of_size_eq_zero h0
    subst hT
    have HE : Hid (parsedT ⟨#[]⟩ = none) := parsed_short (by decide)
    have df := seo_frozen hg
    have df0 := df 0
    have df1 := df 1
    obtain ⟨c0, c1⟩ := seo_cells hg
    obtain ⟨e0, e1⟩ := seat_set hg (0, 0)
    have HBX : Hid _ := hbX
    unfold seObj at hX
    have HX : Hid _ := hX
    clear hg hX df hbX
    simp only at e0 e1
    go_enter Tryd.func23, Tryd.ntmps23
    go_upto_region 1 with fail
    rw [← HX.out]
    go_wp2
    refine bodyPost_ret (v := .tuple #[.agg #[.int .i64 0, .int .u8 0], .bool false]) (by simp [results, Tryd.results23, go_sem, e0, e1]) rfl ?_
    refine ⟨by rw [HE.out]; rfl, ?_⟩
    repeat (refine Below.setCell ?_ (by simp) _)
    exact HBX.out
  obtain ⟨k, hk⟩ : ∃ k, T.size = k + 1 := ⟨T.size - 1, by omega⟩
  have hkT : k < T.size := by omega
  have HA : Hid _ := fun Y (hY : Below w.heap.size w Y) => atoi_num (T.data.toList.take k) (by rw [List.length_take]; omega) Y (he.below hY)
  have hseat : seatOf T = (numR (T.data.toList.take k), ((T[k].toNat : Nat) : Int)) := by
    unfold seatOf
    rw [hk, Nat.add_sub_cancel, last_of T k hkT]
  have HFr : Hid (T.extract 0 k = ⟨(T.data.toList.take k).toArray⟩) := front_of T k
  have hnl : 2 ≤ T.size → numOk (T.data.toList.take k) = false → lbl (seatOf T) ≠ T := fun h2 hno => no_label h2 (by rw [hk, Nat.add_sub_cancel]; exact hno)
  have hsz2 : ¬ 2 ≤ T.size → numOk (T.data.toList.take k) = false := fun h => by
    have : k = 0 := by omega
    subst this
    rfl
  have HNo : Hid (numOk (T.data.toList.take k) = false → parsedT T = none) := fun hno => by
    by_cases h2 : 2 ≤ T.size
    · exact if_neg (fun h => hnl h2 hno h.2)
    · exact parsed_short (by omega)
  have HYes : Hid (numOk (T.data.toList.take k) = true → parsedT T = if lbl (seatOf T) = T then some (seatOf T) else none) := fun hyes => by
    have h2 : 2 ≤ T.size := Classical.byContradiction fun h => by rw [hsz2 h] at hyes; cases hyes
    unfold parsedT
    by_cases hl : lbl (seatOf T) = T
    · rw [if_pos ⟨h2, hl⟩, if_pos hl]
    · rw [if_neg (fun h => hl h.2), if_neg hl]
  have HLb : Hid (∀ Y, Below w.heap.size w Y → Calls Tryd.prog 21 #[sev (seatOf T)] Y fun e w' => e = .returned (.string (lbl (seatOf T))) ∧ Below Y.heap.size Y w') := fun Y hY => label_any _ Y (hp.below hY)
  have HCmp : Hid (((lbl (seatOf T)).toList == T.toList) = decide (lbl (seatOf T) = T)) := by
    show _ = _
    rw [Bool.eq_iff_iff, beq_iff_eq, decide_eq_true_iff]
    exact ⟨fun h => by rw [ByteArray.toList_eq, ByteArray.toList_eq] at h; exact ByteArray.ext (Array.ext' h), fun h => by rw [h]⟩
  rw [hseat] at HYes HLb HCmp
  unfold sev at HLb
  have HG : Hid _ := hg
  have HBX : Hid _ := hbX
  unfold seObj at hX
  have HX : Hid _ := hX
  have hne : (T.toList.isEmpty) = false := by
    rw [ByteArray.toList_eq]
    cases hh : T.data.toList with
    | nil => have := size_list T; rw [hh, hk] at this; simp at this
    | cons _ _ => rfl
  have hks : (k : Int) + 1 ≤ 281474976710000 := by omega
  have hTi : (T.size : Int) = (k : Int) + 1 := by rw [hk]; simp
  generalize hv : numR (T.data.toList.take k) = v at *
  generalize numOk (T.data.toList.take k) = ok at *
  clear hseat hnl hsz2 hg hbX hX hp he hv
  go_enter Tryd.func23, Tryd.ntmps23
  go_upto_region 1 with fail
  rw [← HX.out]
  clear HX
  go_wp2_with fail
  rw [HFr.out]
  refine (show Calls _ _ _ _ _ from HA.out X HBX.out).mono ?_
  rintro e w1 ⟨ev, rfl, hev, hb1⟩
  have HB1 : Hid (Below w.heap.size w w1) := HBX.out.trans (hb1.mono HBX.out.size)
  have hg1 : w1.heap[w.heap.size]? = some (seObj 0 0) := (hb1.block _ (lt_of_block HG.out)).trans HG.out
  have hlt1 := lt_of_block hg1
  clear HA HFr hb1 HG HBX hk hne h0 hs hTi hks
  cases ok
  · obtain ⟨t, q, rfl⟩ : ∃ t q, ev = .iface t q := hev
    have HE : Hid (parsedT T = none) := HNo.out rfl
    obtain ⟨W, hW⟩ : ∃ W, W = w1.alloc (seObj v (T[k].toNat : Nat)) := ⟨_, rfl⟩
    have hbW : Below w1.heap.size w1 W := by rw [hW]; exact (Below.refl _ _).alloc (Nat.le_refl _) _
    have hgW : W.heap[w.heap.size]? = some (seObj 0 0) := (hbW.block _ hlt1).trans hg1
    have df := seo_frozen hgW
    have df0 := df 0
    have df1 := df 1
    obtain ⟨c0, c1⟩ := seo_cells hgW
    obtain ⟨e0, e1⟩ := seat_set hgW (0, 0)
    have HBW : Hid (Below w.heap.size w W) := HB1.out.trans (hbW.mono HB1.out.size)
    simp only at e0 e1
    unfold seObj at hW
    have HW : Hid _ := hW
    clear hW hbW hgW df hg1 HYes HLb HCmp HNo
    go_upto_region 6 with fail
    rw [← HW.out]
    clear HW
    go_wp2
    refine bodyPost_ret (v := .tuple #[.agg #[.int .i64 0, .int .u8 0], .bool false]) (by simp [results, Tryd.results23, go_sem, e0, e1]) rfl ?_
    refine ⟨by rw [HE.out]; rfl, ?_⟩
    repeat (refine Below.setCell ?_ (by simp) _)
    exact HBW.out
  · have hev' : ev = .nilIface := hev
    subst hev'
    obtain ⟨W, hW⟩ : ∃ W, W = w1.alloc (seObj v (T[k].toNat : Nat)) := ⟨_, rfl⟩
    have hbW : Below w1.heap.size w1 W := by rw [hW]; exact (Below.refl _ _).alloc (Nat.le_refl _) _
    have hgW : W.heap[w.heap.size]? = some (seObj 0 0) := (hbW.block _ hlt1).trans hg1
    have hgB : W.heap[w1.heap.size]? = some (seObj v (T[k].toNat : Nat)) := by rw [hW]; exact heap_alloc_new w1 _
    have HBW : Hid (Below w.heap.size w W) := HB1.out.trans (hbW.mono HB1.out.size)
    have HGG : Hid _ := And.intro hgW hgB
    have HL : Hid _ := HLb.out W HBW.out
    have HY : Hid _ := HYes.out rfl
    unfold seObj at hW
    have HW : Hid _ := hW
    clear hW hbW hgW hg1 HYes HLb HNo hev hgB
    go_upto_region 6 with fail
    rw [← HW.out]
    clear HW
    obtain ⟨b0, b1⟩ := seo_cells HGG.out.2
    go_wp2_with fail
    refine (show Calls _ _ _ _ _ from HL.out).mono ?_
    rintro e w3 ⟨rfl, hb3⟩
    have hg3 : w3.heap[w.heap.size]? = some (seObj 0 0) := (hb3.block _ (lt_of_block HGG.out.1)).trans HGG.out.1
    have hq3 : w3.heap[w1.heap.size]? = some (seObj v (T[k].toNat : Nat)) := (hb3.block _ (lt_of_block HGG.out.2)).trans HGG.out.2
    have df := seo_frozen hg3
    have df0 := df 0
    have df1 := df 1
    obtain ⟨c0, c1⟩ := seo_cells hg3
    obtain ⟨g0, g1⟩ := seo_cells hq3
    have hset := seat_set hg3
    have HB3 : Hid (Below w.heap.size w w3) := HBW.out.trans (hb3.mono HBW.out.size)
    clear hb3 HL HGG b0 b1 hg3 hq3 df HBW HB1
    have hcm := HCmp.out
    by_cases hl : lbl (v, (T[k].toNat : Nat)) = T
    · have HE : Hid (parsedT T = some (v, ((T[k].toNat : Nat) : Int))) := by show _ = _; rw [HY.out, if_pos hl]
      rw [decide_eq_true hl] at hcm
      obtain ⟨e0, e1⟩ := hset (v, ((T[k].toNat : Nat) : Int))
      simp only at e0 e1
      clear hset hl HCmp HY
      go_wp2
      refine bodyPost_ret (v := .tuple #[.agg #[.int .i64 v, .int .u8 (T[k].toNat : Nat)], .bool true]) (by simp [results, Tryd.results23, go_sem, e0, e1]) rfl ?_
      refine ⟨by rw [HE.out]; rfl, ?_⟩
      repeat (refine Below.setCell ?_ (by simp) _)
      exact HB3.out
    · have HE : Hid (parsedT T = none) := by show _ = _; rw [HY.out, if_neg hl]
      rw [decide_eq_false hl] at hcm
      obtain ⟨e0, e1⟩ := hset (0, 0)
      simp only at e0 e1
      clear hset hl HCmp HY
      go_wp2
      refine bodyPost_ret (v := .tuple #[.agg #[.int .i64 0, .int .u8 0], .bool false]) (by simp [results, Tryd.results23, go_sem, e0, e1]) rfl ?_
      refine ⟨by rw [HE.out]; rfl, ?_⟩
      repeat (refine Below.setCell ?_ (by simp) _)
      exact HB3.out
set_option maxRecDepth 100000 in
set_option maxHeartbeats 2000000 in
theorem parseR_any (T : ByteArray) (hs : T.size ≤ 281474976710000) (w : World) (hp : Pow w) (he : Errs w) : Calls Tryd.prog 24 #[.string T] w fun e w' => e = .returned (parsedV (parsedT T)) ∧ Below w.heap.size w w' := by
  obtain ⟨X, hX⟩ : ∃ X, X = w.alloc (seObj 0 0) := ⟨_, rfl⟩
  have hbX : Below w.heap.size w X := by rw [hX]; exact (Below.refl _ _).alloc (Nat.le_refl _) _
  have hg : X.heap[w.heap.size]? = some (seObj 0 0) := by rw [hX]; exact heap_alloc_new w _
  by_cases h0 : T.size < 2
  · have HE : Hid (parsedT T = none) := parsed_short h0
    have h0' : decide ((T.size : Int) < 2) = true := decide_eq_true (by omega)
    have df := seo_frozen hg
    have df0 := df 0
    have df1 := df 1
    obtain ⟨c0, c1⟩ := seo_cells hg
    obtain ⟨e0, e1⟩ := seat_set hg (0, 0)
    have HBX : Hid _ := hbX
    unfold seObj at hX
    have HX : Hid _ := hX
    clear hg hX df hbX
    simp only at e0 e1
    go_enter Tryd.func24, Tryd.ntmps24
    go_upto_region 1 with fail
    rw [← HX.out]
    go_wp2
    refine bodyPost_ret (v := .tuple #[.agg #[.int .i64 0, .int .u8 0], .bool false]) (by simp [results, Tryd.results24, go_sem, e0, e1]) rfl ?_
    refine ⟨by rw [HE.out]; rfl, ?_⟩
    repeat (refine Below.setCell ?_ (by simp) _)
    exact HBX.out
  obtain ⟨k, hk⟩ : ∃ k, T.size = k + 1 := ⟨T.size - 1, by omega⟩
  have hkT : k < T.size := by omega
  have HA : Hid _ := fun Y (hY : Below w.heap.size w Y) => atoi_num (T.data.toList.take k) (by rw [List.length_take]; omega) Y (he.below hY)
  have hseat : seatOf T = (numR (T.data.toList.take k), ((T[k].toNat : Nat) : Int)) := by
    unfold seatOf
    rw [hk, Nat.add_sub_cancel, last_of T k hkT]
  have HFr : Hid (T.extract 0 k = ⟨(T.data.toList.take k).toArray⟩) := front_of T k
  have HYes : Hid (parsedT T = if lbl (seatOf T) = T then some (seatOf T) else none) := by
    show _ = _
    unfold parsedT
    by_cases hl : lbl (seatOf T) = T
    · rw [if_pos ⟨by omega, hl⟩, if_pos hl]
    · rw [if_neg (fun h => hl h.2), if_neg hl]
  have HLb : Hid (∀ Y, Below w.heap.size w Y → Calls Tryd.prog 22 #[sev (seatOf T)] Y fun e w' => e = .returned (.string (lbl (seatOf T))) ∧ Below Y.heap.size Y w') := fun Y hY => labelR_any _ Y (hp.below hY)
  have HCmp : Hid (((lbl (seatOf T)).toList == T.toList) = decide (lbl (seatOf T) = T)) := by
    show _ = _
    rw [Bool.eq_iff_iff, beq_iff_eq, decide_eq_true_iff]
    exact ⟨fun h => by rw [ByteArray.toList_eq, ByteArray.toList_eq] at h; exact ByteArray.ext (Array.ext' h), fun h => by rw [h]⟩
  rw [hseat] at HYes HLb HCmp
  unfold sev at HLb
  have HG : Hid _ := hg
  have HBX : Hid _ := hbX
  unfold seObj at hX
  have HX : Hid _ := hX
  have hks : (k : Int) + 1 ≤ 281474976710000 := by omega
  have hk1 : (1 : Int) ≤ (k : Int) := by omega
  have hTi : (T.size : Int) = (k : Int) + 1 := by rw [hk]; simp
  have HTi : Hid _ := hTi
  have HK : Hid _ := hk
  have h0' : decide ((T.size : Int) < 2) = false := decide_eq_false (by omega)
  have h0i : ¬ ((T.size : Int) < 2) := by omega
  generalize hv : numR (T.data.toList.take k) = v at *
  clear hseat hg hbX hX hp he hv h0 hs hTi hk
  go_enter Tryd.func24, Tryd.ntmps24
  go_upto_region 1 with fail
  rw [← HX.out]
  clear HX
  go_upto_region 3 with fail
  have hTi := HTi.out
  have hk := HK.out
  clear h0' h0i
  go_wp2_with fail
  rw [HFr.out]
  refine (show Calls _ _ _ _ _ from HA.out X HBX.out).mono ?_
  rintro e w1 ⟨ev, rfl, hev, hb1⟩
  have HB1 : Hid (Below w.heap.size w w1) := HBX.out.trans (hb1.mono HBX.out.size)
  have hg1 : w1.heap[w.heap.size]? = some (seObj 0 0) := (hb1.block _ (lt_of_block HG.out)).trans HG.out
  have hlt1 := lt_of_block hg1
  obtain ⟨W, hW⟩ : ∃ W, W = w1.alloc (seObj v (T[k].toNat : Nat)) := ⟨_, rfl⟩
  have hbW : Below w1.heap.size w1 W := by rw [hW]; exact (Below.refl _ _).alloc (Nat.le_refl _) _
  have hgW : W.heap[w.heap.size]? = some (seObj 0 0) := (hbW.block _ hlt1).trans hg1
  have hgB : W.heap[w1.heap.size]? = some (seObj v (T[k].toNat : Nat)) := by rw [hW]; exact heap_alloc_new w1 _
  have HBW : Hid (Below w.heap.size w W) := HB1.out.trans (hbW.mono HB1.out.size)
  have HGG : Hid _ := And.intro hgW hgB
  have HL : Hid _ := HLb.out W HBW.out
  have HY : Hid _ := HYes.out
  have hev2 : ev = .nilIface ∨ ∃ t q, ev = .iface t q := by
    unfold errV at hev
    split at hev
    · exact .inl hev
    · exact .inr hev
  clear hev
  rcases hev2 with rfl | ⟨t, q, rfl⟩
  all_goals
    unfold seObj at hW
    have HW : Hid _ := hW
    have hq2 : IntKind.i64.wrap ((T.size : Int) - 1) = (k : Int) := by rw [show (T.size : Int) - 1 = (k : Int) by omega]; exact IntWalk.i64_in _ ⟨by omega, by omega⟩
    clear hW hbW hgW hg1 HYes HLb hgB HA HFr hb1 HG HBX hTi hk hk1 hks
    go_upto_region 5 with fail
    rw [← HW.out]
    clear HW
    obtain ⟨b0, b1⟩ := seo_cells HGG.out.2
    go_wp2_with fail
    refine (show Calls _ _ _ _ _ from HL.out).mono ?_
    rintro e w3 ⟨rfl, hb3⟩
    have hg3 : w3.heap[w.heap.size]? = some (seObj 0 0) := (hb3.block _ (lt_of_block HGG.out.1)).trans HGG.out.1
    have hq3 : w3.heap[w1.heap.size]? = some (seObj v (T[k].toNat : Nat)) := (hb3.block _ (lt_of_block HGG.out.2)).trans HGG.out.2
    have df := seo_frozen hg3
    have df0 := df 0
    have df1 := df 1
    obtain ⟨c0, c1⟩ := seo_cells hg3
    obtain ⟨g0, g1⟩ := seo_cells hq3
    have hset := seat_set hg3
    have HB3 : Hid (Below w.heap.size w w3) := HBW.out.trans (hb3.mono HBW.out.size)
    clear hb3 HL HGG b0 b1 hg3 hq3 df HBW HB1
    have hcm := HCmp.out
    by_cases hl : lbl (v, (T[k].toNat : Nat)) = T
    · have HE : Hid (parsedT T = some (v, ((T[k].toNat : Nat) : Int))) := by show _ = _; rw [HY.out, if_pos hl]
      rw [decide_eq_true hl] at hcm
      obtain ⟨e0, e1⟩ := hset (v, ((T[k].toNat : Nat) : Int))
      simp only at e0 e1
      clear hset hl HCmp HY
      go_wp2
      refine bodyPost_ret (v := .tuple #[.agg #[.int .i64 v, .int .u8 (T[k].toNat : Nat)], .bool true]) (by simp [results, Tryd.results24, go_sem, e0, e1]) rfl ?_
      refine ⟨by rw [HE.out]; rfl, ?_⟩
      repeat (refine Below.setCell ?_ (by simp) _)
      exact HB3.out
    · have HE : Hid (parsedT T = none) := by show _ = _; rw [HY.out, if_neg hl]
      rw [decide_eq_false hl] at hcm
      obtain ⟨e0, e1⟩ := hset (0, 0)
      simp only at e0 e1
      clear hset hl HCmp HY
      go_wp2
      refine bodyPost_ret (v := .tuple #[.agg #[.int .i64 0, .int .u8 0], .bool false]) (by simp [results, Tryd.results24, go_sem, e0, e1]) rfl ?_
      refine ⟨by rw [HE.out]; rfl, ?_⟩
      repeat (refine Below.setCell ?_ (by simp) _)
      exact HB3.out
end Go.Proofs.YtbnmjmapmbdioaaDoor.Cb
