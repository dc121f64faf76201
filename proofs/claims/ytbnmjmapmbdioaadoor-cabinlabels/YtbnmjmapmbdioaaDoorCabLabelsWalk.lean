/-
  The statement CabinLabels, walked: seats and their labels lead to one another, and no other text is a label.
-/
import Derived.Test.YtbnmjmapmbdioaaDoorCabLives
import Derived.Test.YtbnmjmapmbdioaaDoorCabParse
namespace Go.Proofs.YtbnmjmapmbdioaaDoor.Cb
open Go.RowKit Cm Go.Shelf
attribute [local go_sem ↓] Go.wp_at_zero Go.wp_at_succ
set_option linter.unusedVariables false

theorem eq_text (A B : ByteArray) : (A.toList == B.toList) = decide (A = B) := by
  rw [Bool.eq_iff_iff, beq_iff_eq, decide_eq_true_iff]
  exact ⟨fun h => by rw [ByteArray.toList_eq, ByteArray.toList_eq] at h; exact ByteArray.ext (Array.ext' h), fun h => by rw [h]⟩
theorem lbl_dash {a : Int × Int} : ((lbl a).toList == [45]) = !decide (1 ≤ a.1 ∧ a.1 ≤ 99 ∧ isL a.2 = true) := by
  by_cases h : 1 ≤ a.1 ∧ a.1 ≤ 99 ∧ isL a.2 = true
  · rw [decide_eq_true h, Bool.not_true, beq_eq_false_iff_ne, ByteArray.toList_eq, lbl_list h]
    intro e
    have h1 := congrArg List.length e
    rw [List.length_append, List.length_singleton] at h1
    have : Lib.itoa a.1 ≠ [] := by unfold Lib.itoa; rw [if_neg (by omega)]; exact Ma.dec_ne _
    cases hh : Lib.itoa a.1 with
    | nil => exact this hh
    | cons _ _ => rw [hh] at h1; simp at h1
  · rw [decide_eq_false h, lbl_minus h]; decide +kernel
theorem parsedV_is (T : ByteArray) : ∃ c1 c2 q, parsedV (parsedT T) = .tuple #[.agg #[.int .i64 c1, .int .u8 c2], .bool q] ∧ (q = true → parsedT T = some (c1, c2)) := by
  cases h : parsedT T with
  | none => exact ⟨0, 0, false, rfl, fun h => by cases h⟩
  | some c => exact ⟨c.1, c.2, true, rfl, fun _ => rfl⟩
theorem lbl_size (a : Int × Int) : (lbl a).size ≤ 30 := by
  by_cases h : 1 ≤ a.1 ∧ a.1 ≤ 99 ∧ isL a.2 = true
  · rw [lbl_right h, ByteArray.size_append]
    have := digits_size a.1 ⟨by omega, by omega⟩
    have h1 : (letS a.2).size = 1 := rfl
    omega
  · rw [lbl_minus h]; decide
set_option maxRecDepth 100000 in
set_option maxHeartbeats 4000000 in
theorem labels_walk (a : Int × Int) (ha : 0 ≤ a.2 ∧ a.2 ≤ 255) (T : ByteArray) (hs : T.size ≤ 281474976710000) (w : World) (hp : Pow w) (he : Errs w) :
    Calls Tryd.prog 6 #[sev a, .string T] w fun e w' => e = .returned (.bool true) ∧ Below w.heap.size w w' := by
  obtain ⟨X, hX⟩ : ∃ X, X = w.alloc (seObj a.1 a.2) := ⟨_, rfl⟩
  have hbX : Below w.heap.size w X := by rw [hX]; exact (Below.refl _ _).alloc (Nat.le_refl _) _
  have g0 : X.heap[w.heap.size]? = some (seObj a.1 a.2) := by rw [hX]; exact heap_alloc_new w _
  have HT : Hid (∀ Y Z, Below X.heap.size X Y → Below Y.heap.size Y Z → Below X.heap.size X Z) := fun Y Z h1 h2 => h1.trans (h2.mono h1.size)
  have HW : Hid (∀ Y, Below X.heap.size X Y → Below w.heap.size w Y) := fun Y hY => hbX.trans (hY.mono hbX.size)
  have hlt0 := lt_of_block g0
  have HBox : Hid (∀ Y, Below X.heap.size X Y → Y.cell? ⟨w.heap.size, 0, none⟩ = some (.int .i64 a.1) ∧ Y.cell? ⟨w.heap.size, 1, none⟩ = some (.int .u8 a.2)) := fun Y hY => seo_cells ((hY.block _ hlt0).trans g0)
  have HD : Hid (Below X.heap.size X X.drew) := (Below.refl _ _).drew
  have HL : Hid _ := lives_any X.drew (hp.below (HW.out _ HD.out))
  have HLa : Hid (∀ c Y, Below X.heap.size X Y → _) := fun c Y hY => label_any c Y (hp.below (HW.out Y hY))
  have HLr : Hid (∀ Y, Below X.heap.size X Y → _) := fun Y hY => labelR_any a Y (hp.below (HW.out Y hY))
  have HPa : Hid (∀ (S : ByteArray) (hS : S.size ≤ 281474976710000) Y, Below X.heap.size X Y → _) := fun S hS Y hY => parse_any S hS Y (hp.below (HW.out Y hY)) (he.below (HW.out Y hY))
  have HPr : Hid (∀ Y, Below X.heap.size X Y → _) := fun Y hY => parseR_any T hs Y (hp.below (HW.out Y hY)) (he.below (HW.out Y hY))
  have HSZ : Hid ((lbl a).size ≤ 281474976710000) := Nat.le_trans (lbl_size a) (by omega)
  have HTS : Hid (T.size ≤ 281474976710000) := hs
  have HPL : Hid _ := parsed_label ha
  have HPB : Hid (∀ c, parsedT T = some c → lbl c = T) := fun c h => parsed_back h
  have HDash : Hid _ := lbl_dash (a := a)
  have hself : ((lbl a).toList == (lbl a).toList) = true := by simp
  have hgd := guardSe
  have hns := neq_self_seat
  have hes := fun w => eql_seat a a w
  unfold sev at *
  unfold seObj at hX
  have HX : Hid _ := hX
  clear hX hbX hp he hs g0
  go_enter Tryd.func6, Tryd.ntmps6
  go_upto_region 1 with fail
  rw [← HX.out]
  clear HX
  obtain ⟨c0, c1⟩ := HBox.out X (Below.refl _ _)
  go_region_held3 (fun w' => w'.cell? ⟨w.heap.size, 0, none⟩ = some (.int .i64 a.1) ∧ w'.cell? ⟨w.heap.size, 1, none⟩ = some (.int .u8 a.2)) (first | go_keep | trivial)
    ((first
      | (go_at_call 7; refine (show Calls _ _ _ _ _ from HL.out).mono ?_; rintro e w1 ⟨rfl, hb1⟩; have hw1 := HT.out _ _ HD.out hb1; obtain ⟨d0, d1⟩ := HBox.out w1 hw1)
      | (go_at_call 21; refine (show Calls _ _ _ _ _ from HLa.out a w1 hw1).mono ?_; rintro e w2 ⟨rfl, hb2⟩; have hw2 := HT.out _ _ hw1 hb2; obtain ⟨f0, f1⟩ := HBox.out w2 hw2)
      | (go_at_call 22; refine (show Calls _ _ _ _ _ from HLr.out w1 hw1).mono ?_; rintro e w3 ⟨rfl, hb3⟩; have hw3 := HT.out _ _ hw1 hb3; obtain ⟨f0, f1⟩ := HBox.out w3 hw3)
      | (go_at_call 22; refine (show Calls _ _ _ _ _ from HLr.out w2 hw2).mono ?_; rintro e wz ⟨rfl, hbz⟩; have hwz := HT.out _ _ hw2 hbz; obtain ⟨k0, k1⟩ := HBox.out wz hwz)
      | (go_at_call 21; refine (show Calls _ _ _ _ _ from HLa.out a w3 hw3).mono ?_; rintro e wz ⟨rfl, hbz⟩; have hwz := HT.out _ _ hw3 hbz; obtain ⟨k0, k1⟩ := HBox.out wz hwz)
      | fail))
  all_goals
    have HWZ : Hid _ := hwz
    clear hwz hbz d0 d1 f0 f1 k0 k1 c0 c1 HL HLr hself
    obtain ⟨c1, c2, q, hq, hqs⟩ := parsedV_is T
    have HQ : Hid (q = true → lbl (c1, c2) = T) := fun h => HPB.out _ (hqs h)
    have HP1 : Hid _ := HPa.out T HTS.out
    rw [hq] at HP1 HPr
    obtain ⟨z1, z2, r, hz, hzs⟩ := parsedV_is (lbl a)
    have HP2 : Hid _ := HPa.out (lbl a) HSZ.out
    rw [hz] at HP2
    have HR : Hid (if 1 ≤ a.1 ∧ a.1 ≤ 99 ∧ isL a.2 = true then r = true ∧ (z1, z2) = a else r = false) := by
      rw [HPL.out] at hz
      split
      · next hv =>
        rw [if_pos hv] at hz
        simp only [parsedV, sev, Value.tuple.injEq] at hz
        simp at hz
        obtain ⟨⟨h1, h2⟩, h3⟩ := hz
        exact ⟨h3, by rw [← h1, ← h2]⟩
      · next hv =>
        rw [if_neg hv] at hz
        simp only [parsedV, sev, Value.tuple.injEq] at hz
        simp at hz
        exact hz.2
    clear hq hqs hz hzs HPa HPB HPL
    go_wp2_with fail
    refine (show Calls _ _ _ _ _ from HP1.out wz HWZ.out).mono ?_
    rintro e w4 ⟨rfl, hb4⟩
    obtain ⟨Y1, hY1⟩ : ∃ Y1, Y1 = w4.alloc (seObj c1 c2) := ⟨_, rfl⟩
    have h1Y : Below w4.heap.size w4 Y1 := by rw [hY1]; exact (Below.refl _ _).alloc (Nat.le_refl _) _
    have HY1B : Hid (Below X.heap.size X Y1) := HT.out _ _ (HT.out _ _ HWZ.out hb4) h1Y
    have HG1 : Hid (Y1.heap[w4.heap.size]? = some (seObj c1 c2)) := by show _ = _; rw [hY1]; exact heap_alloc_new w4 _
    unfold seObj at hY1
    have HY1 : Hid _ := hY1
    clear hY1 h1Y hb4 HP1 HWZ
    go_upto_region 4 with fail
    rw [← HY1.out]
    clear HY1
    go_wp2_with fail
    refine (show Calls _ _ _ _ _ from HPr.out Y1 HY1B.out).mono ?_
    rintro e w5 ⟨rfl, hb5⟩
    obtain ⟨Y2, hY2⟩ : ∃ Y2, Y2 = w5.alloc (seObj c1 c2) := ⟨_, rfl⟩
    have h2Y : Below w5.heap.size w5 Y2 := by rw [hY2]; exact (Below.refl _ _).alloc (Nat.le_refl _) _
    have HY2B : Hid (Below X.heap.size X Y2) := HT.out _ _ (HT.out _ _ HY1B.out hb5) h2Y
    have HG2 : Hid (Y2.heap[w4.heap.size]? = some (seObj c1 c2) ∧ Y2.heap[w5.heap.size]? = some (seObj c1 c2)) := ⟨(h2Y.block _ (by have := lt_of_block HG1.out; have := hb5.size; omega)).trans ((hb5.block _ (lt_of_block HG1.out)).trans HG1.out), by rw [hY2]; exact heap_alloc_new w5 _⟩
    unfold seObj at hY2
    have HY2 : Hid _ := hY2
    clear hY2 h2Y hb5 HPr HY1B HG1
    go_upto_region 5 with fail
    rw [← HY2.out]
    clear HY2
    obtain ⟨x0, x1⟩ := seo_cells HG2.out.1
    obtain ⟨y0, y1⟩ := seo_cells HG2.out.2
    have hnc := hns (c1, c2)
    have hqq : (q != q) = false := by simp
    have hTT : (T.toList == T.toList) = true := by simp
    have HLc : Hid _ := HLa.out (c1, c2) Y2 HY2B.out
    simp only at hnc
    have HDo : Hid (∀ Y, Below X.heap.size X Y → Calls Tryd.prog 21 #[.agg #[.int .i64 a.1, .int .u8 a.2]] Y fun e w' => e = .returned (.string (lbl a)) ∧ Below Y.heap.size Y w') := fun Y hY => HLa.out a Y hY
    have hd := HDash.out
    have HRR := HR
    clear HR HG2 HLa HDash
    cases q
    · have HVB : Hid (Below X.heap.size X Y2) := HY2B.out
      obtain ⟨m0, m1⟩ := HBox.out Y2 HVB.out
      go_wp2_with fail
      refine (show Calls _ _ _ _ _ from HDo.out Y2 HVB.out).mono ?_
      rintro e w7 ⟨rfl, hb7⟩
      have HB7 : Hid (Below X.heap.size X w7) := HT.out _ _ HVB.out hb7
      clear hb7 m0 m1
      go_wp2_with fail
      refine (show Calls _ _ _ _ _ from HP2.out w7 HB7.out).mono ?_
      rintro e w8 ⟨rfl, hb8⟩
      obtain ⟨Y3, hY3⟩ : ∃ Y3, Y3 = w8.alloc (seObj z1 z2) := ⟨_, rfl⟩
      have h3Y : Below w8.heap.size w8 Y3 := by rw [hY3]; exact (Below.refl _ _).alloc (Nat.le_refl _) _
      have HY3B : Hid (Below X.heap.size X Y3) := HT.out _ _ (HT.out _ _ HB7.out hb8) h3Y
      have HG3 : Hid (Y3.heap[w8.heap.size]? = some (seObj z1 z2)) := by show _ = _; rw [hY3]; exact heap_alloc_new w8 _
      unfold seObj at hY3
      have HY3 : Hid _ := hY3
      clear hY3 h3Y hb8 HP2 HB7 HVB
      go_upto_region 8 with fail
      rw [← HY3.out]
      clear HY3
      obtain ⟨m0, m1⟩ := HBox.out Y3 HY3B.out
      go_wp2_with fail
      refine (show Calls _ _ _ _ _ from HDo.out Y3 HY3B.out).mono ?_
      rintro e w9 ⟨rfl, hb9⟩
      have HB9 : Hid (Below X.heap.size X w9) := HT.out _ _ HY3B.out hb9
      obtain ⟨n0, n1⟩ := HBox.out w9 HB9.out
      obtain ⟨k0, k1⟩ := seo_cells ((hb9.block _ (lt_of_block HG3.out)).trans HG3.out)
      clear hb9 HDo HY3B HG3 m0 m1
      by_cases hv : 1 ≤ a.1 ∧ a.1 ≤ 99 ∧ isL a.2 = true
      · rw [if_pos hv] at HRR
        rw [decide_eq_true hv] at hd
        obtain ⟨rfl, rfl⟩ := HRR.out
        clear HRR hv
        go_wp2
        go_ret
        exact ⟨by first | rfl | simp, HW.out _ HB9.out⟩
      · rw [if_neg hv] at HRR
        rw [decide_eq_false hv] at hd
        have hr := HRR.out
        subst hr
        clear HRR hv
        go_wp2
        go_ret
        exact ⟨by first | rfl | simp, HW.out _ HB9.out⟩
    · have hlc := HQ.out rfl
      rw [hlc] at HLc
      clear hlc
      go_wp2_with fail
      refine (show Calls _ _ _ _ _ from HLc.out).mono ?_
      rintro e w6 ⟨rfl, hb6⟩
      have HVB : Hid (Below X.heap.size X w6) := HT.out _ _ HY2B.out hb6
      clear hb6 HLc x0 x1 y0 y1
      obtain ⟨m0, m1⟩ := HBox.out w6 HVB.out
      go_wp2_with fail
      refine (show Calls _ _ _ _ _ from HDo.out w6 HVB.out).mono ?_
      rintro e w7 ⟨rfl, hb7⟩
      have HB7 : Hid (Below X.heap.size X w7) := HT.out _ _ HVB.out hb7
      clear hb7 m0 m1
      go_wp2_with fail
      refine (show Calls _ _ _ _ _ from HP2.out w7 HB7.out).mono ?_
      rintro e w8 ⟨rfl, hb8⟩
      obtain ⟨Y3, hY3⟩ : ∃ Y3, Y3 = w8.alloc (seObj z1 z2) := ⟨_, rfl⟩
      have h3Y : Below w8.heap.size w8 Y3 := by rw [hY3]; exact (Below.refl _ _).alloc (Nat.le_refl _) _
      have HY3B : Hid (Below X.heap.size X Y3) := HT.out _ _ (HT.out _ _ HB7.out hb8) h3Y
      have HG3 : Hid (Y3.heap[w8.heap.size]? = some (seObj z1 z2)) := by show _ = _; rw [hY3]; exact heap_alloc_new w8 _
      unfold seObj at hY3
      have HY3 : Hid _ := hY3
      clear hY3 h3Y hb8 HP2 HB7 HVB
      go_upto_region 8 with fail
      rw [← HY3.out]
      clear HY3
      obtain ⟨m0, m1⟩ := HBox.out Y3 HY3B.out
      go_wp2_with fail
      refine (show Calls _ _ _ _ _ from HDo.out Y3 HY3B.out).mono ?_
      rintro e w9 ⟨rfl, hb9⟩
      have HB9 : Hid (Below X.heap.size X w9) := HT.out _ _ HY3B.out hb9
      obtain ⟨n0, n1⟩ := HBox.out w9 HB9.out
      obtain ⟨k0, k1⟩ := seo_cells ((hb9.block _ (lt_of_block HG3.out)).trans HG3.out)
      clear hb9 HDo HY3B HG3 m0 m1
      by_cases hv : 1 ≤ a.1 ∧ a.1 ≤ 99 ∧ isL a.2 = true
      · rw [if_pos hv] at HRR
        rw [decide_eq_true hv] at hd
        obtain ⟨rfl, rfl⟩ := HRR.out
        clear HRR hv
        go_wp2
        go_ret
        exact ⟨by first | rfl | simp, HW.out _ HB9.out⟩
      · rw [if_neg hv] at HRR
        rw [decide_eq_false hv] at hd
        have hr := HRR.out
        subst hr
        clear HRR hv
        go_wp2
        go_ret
        exact ⟨by first | rfl | simp, HW.out _ HB9.out⟩
end Go.Proofs.YtbnmjmapmbdioaaDoor.Cb
