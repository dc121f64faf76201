/-
  Package manifest: whether the files of an edit may come.
-/
import Derived.Test.YtjfanbemihheiaaDoorQManMay
namespace Go.Proofs.YtjfanbemihheiaaDoor.Ma
open Go.RowKit Cm Go.Shelf
open Mg (NumAns NumsAt sortI values_any sorted_any)
set_option linter.unusedVariables false

theorem contains_perm {a b : List Int} (h : a.Perm b) (n : Int) : a.contains n = b.contains n := by
  rw [Bool.eq_iff_iff, List.contains_iff_mem, List.contains_iff_mem]; exact h.mem_iff
set_option maxRecDepth 100000 in
set_option maxHeartbeats 2000000 in
theorem mayCome_any (S : Nat → Prop) (q : Nat) (v : Ve) (c : Nat) (aa : Option Addr) (ca : Nat) (ad : Option Addr) (cd : Nat) (e : Ed) (w : World) (h : ShelfAt w S q v c) (he : EdAt w (fun _ => False) aa ca ad cd e) :
    Calls Tryd.prog 22 #[.pointer (some ⟨q, 0, none⟩), edV (.slice aa e.add.length ca) (.slice ad e.del.length cd) e] w fun x w' => x = .returned (.bool (comes v e)) ∧ Below w.heap.size w w' := by
  obtain ⟨i0, hi, hz0, hzs, hz2⟩ := info_parts infoInt
  obtain ⟨w1, hw1⟩ : ∃ w1, w1 = w.alloc (edObj (.slice aa e.add.length ca) (.slice ad e.del.length cd) e) := ⟨_, rfl⟩
  have hb1 : Below w.heap.size w w1 := by rw [hw1]; exact (Below.refl _ _).alloc (Nat.le_refl _) _
  have hx1 : w1.heap[w.heap.size]? = some (edObj (.slice aa e.add.length ca) (.slice ad e.del.length cd) e) := by rw [hw1]; exact heap_alloc_new w _
  have hfew := he.few
  have hso := sorted_any w1.heap.size e.del (by omega) _ (nums_at (sc := cd) (he.del.cells.below hb1))
  have HSo : Hid _ := hso
  have HE : Hid (EdAt w (fun _ => False) aa ca ad cd e) := he
  have HSh : Hid (ShelfAt w S q v c) := h
  have HB1 : Hid (Below w.heap.size w w1) := hb1
  have HX1 : Hid _ := hx1
  obtain ⟨m, hm⟩ : ∃ m, m = e.add.length := ⟨_, rfl⟩
  obtain ⟨n, hn⟩ : ∃ n, n = e.del.length := ⟨_, rfl⟩
  have HM : Hid (m = e.add.length) := hm
  have HN : Hid (n = e.del.length) := hn
  rw [← hm, ← hn] at hfew HX1 hw1 ⊢
  rw [← hn] at HSo
  have hw1' : w.alloc (.cells #[.slice aa m ca, .slice ad n cd, .int .i64 e.wal, .int .i64 e.next, .int .i64 e.seq] 36) = w1 := hw1.symm
  obtain ⟨o0, o1, o2, o3, o4⟩ := ed_cells HX1.out
  clear h he hso hb1 hx1 hm hn hw1
  unfold edV
  go_enter Tryd.func22, Tryd.ntmps22
  go_wp2_with fail
  refine (values_any _ _ _ _).mono ?_
  rintro x w2 ⟨rfl, rfl⟩
  go_wp2_with fail
  refine (show Calls _ _ _ _ _ from HSo.out).mono ?_
  rintro x w3 ⟨v5, rfl, ho5, hb3⟩
  have hB3 : Below w.heap.size w w3 := HB1.out.trans ((((Below.refl _ _).alloc (Nat.le_refl _) _).trans (hb3.mono (by simp))).mono HB1.out.size)
  have hX3 : w3.heap[w.heap.size]? = some (edObj (.slice aa m ca) (.slice ad n cd) e) := by
    have hlt := lt_of_block HX1.out
    rw [hb3.block _ (by simp; omega), Below.heap_alloc _ _ _ hlt]
    exact HX1.out
  have hz1 : w.heap.size < w3.heap.size := lt_of_block hX3
  obtain ⟨o0, o1, o2, o3, o4⟩ := ed_cells hX3
  have hlen5 : (sortI e.del).length = e.del.length := sortI_len _
  have HO5 : Hid (w3.ownsRow w.heap.size 3 1 v5 (sortI e.del).length ((sortI e.del).map (Value.int .i64))) := by
    rcases ho5.2 with ⟨rfl, h0⟩ | ⟨g, cap, cur, h1, h2, h3⟩
    · exact ⟨ho5.1, .inl ⟨rfl, h0⟩⟩
    · exact ⟨ho5.1, .inr ⟨g, cap, cur, h1, by have := HB1.out.size; simp at h2; omega, h3⟩⟩
  have HB3 : Hid (Below w.heap.size w w3) := hB3
  have HX3 : Hid (w3.heap[w.heap.size]? = some (edObj (.slice aa m ca) (.slice ad n cd) e)) := hX3
  clear ho5 hb3 hB3 hX3 HSo hw1' HB1 HX1 hlen5
  go_wp2_with (at_make; refine wpList_make_full _ rfl _ _ 34 rfl w.heap.size 3 i0 (.int .i64 0) 1 Tryd.underlying34 hi hz0 hzs _ _ _ _ m rfl rfl rfl rfl (by rw [hz2]; omega) (by unfold maxLen; omega) (by omega) ?_; intro w4 hrow4 hg4; obtain ⟨p0, p1, p2, p3, p4⟩ := ed_cells ((hg4.block _ hz1 (by simp)).trans HX3.out))
  obtain ⟨g, hgq⟩ : ∃ g, g = w3.heap.size := ⟨_, rfl⟩
  have HCo : Hid (Coming w S q c v aa ca ad cd e v5 g 0 w4) := by
    refine ⟨HB3.out.grown hg4 HB3.out.size (fun j hj => by cases hj), ?_, own_keep HO5.out fun k hk => hg4.block k (HO5.out.lt k hk).2 (by simp), ⟨(madeCells (Value.int .i64 0).cells (m * 1)).toList, ?_, by simp⟩, ⟨fun hk => ?_, by omega⟩, by simp⟩
    · rw [← HM.out, ← HN.out]; exact (hg4.block _ hz1 (by simp)).trans HX3.out
    · rw [← HM.out, hgq]; exact hrow4
    · have := (HO5.out.lt _ hk).2; omega
  rw [← hgq]
  have hgw : w.heap.size < g := by omega
  clear hrow4 hg4 HO5 HB3 HX3 o0 o1 o2 o3 o4 p0 p1 p2 p3 p4 hz1 hgq
  go_loopw [22] (fun i wr => ∃ k : Nat, k ≤ m ∧ i = .int .i64 k ∧ Hid (Coming w S q c v aa ca ad cd e v5 g k wr)) (fun i _ => m - (intOf i).toNat)
  case atStart => exact ⟨0, by omega, rfl, HCo⟩
  case round =>
    clear HCo
    obtain ⟨k, hk, rfl, HC⟩ := hrel
    have hbx := HC.out.box
    rw [← HM.out, ← HN.out] at hbx
    obtain ⟨p0, p1, p2, p3, p4⟩ := ed_cells hbx
    by_cases hlt : k < m
    · have hka : k < e.add.length := by have := HM.out; omega
      obtain ⟨b, off, rfl, e0, e1⟩ := HE.out.add.get (Chg.of_below HC.out.bel) hka
      have HS : Hid (∀ X, Coming w S q c v (some ⟨b, off, none⟩) ca ad cd e v5 g k X → may1 v e (e.add.getD k (0, 0)) = true → Coming w S q c v (some ⟨b, off, none⟩) ca ad cd e v5 g (k + 1) (X.setCell ⟨g, k, none⟩ (.int .i64 (e.add.getD k (0, 0)).2))) := fun X hX hm1 => hX.put hka hm1
      have HNo : Hid (∀ _ : may1 v e (e.add.getD k (0, 0)) = false, comes v e = false) := fun h => comes_not (all_not hka h)
      have hof : OkF (e.add.getD k (0, 0)) := by rw [getD_lt _ _ _ hka]; exact HE.out.okA _ (List.getElem_mem _)
      generalize e.add.getD k (0, 0) = f at *
      clear hka
      obtain ⟨W0, hW0⟩ : ∃ W0, W0 = wr.alloc (fiObj f) := ⟨_, rfl⟩
      have hW0' : wr.alloc (.cells #[.int .i64 f.1, .int .i64 f.2] 28) = W0 := hW0.symm
      have hbW : Below wr.heap.size wr W0 := by rw [hW0]; exact (Below.refl _ _).alloc (Nat.le_refl _) _
      have HC0 : Hid (Coming w S q c v (some ⟨b, off, none⟩) ca ad cd e v5 g k W0) := HC.out.below hbW
      have hF0 : W0.heap[wr.heap.size]? = some (fiObj f) := by rw [hW0]; exact heap_alloc_new wr _
      have HSr : Hid _ := search_any (sortI e.del) (sortI_sorted _) (by rw [sortI_len]; have := HN.out; omega) f.2 W0 HC0.out.going
      have HCt : Hid ((sortI e.del).contains f.2 = e.del.contains f.2) := contains_perm (sortI_perm _) _
      have f0 : W0.cell? ⟨wr.heap.size, 0, none⟩ = some (.int .i64 f.1) := by rw [Joins.cell_of_block hF0]; rfl
      have f1 : W0.cell? ⟨wr.heap.size, 1, none⟩ = some (.int .i64 f.2) := by rw [Joins.cell_of_block hF0]; rfl
      have HF0 : Hid (W0.heap[wr.heap.size]? = some (fiObj f)) := hF0
      clear hbx hW0 hbW hF0
      go_wp2_with fail
      refine (show Calls _ _ _ _ _ from HSr.out).mono ?_
      rintro x w6 ⟨i6, rfl, q6, hq6⟩
      have hb6 : Below W0.heap.size W0 w6 := by rw [hq6]; exact ⟨rfl, rfl, rfl, Nat.le_refl _, fun _ _ => rfl⟩
      have HC6 : Hid (Coming w S q c v (some ⟨b, off, none⟩) ca ad cd e v5 g k w6) := HC0.out.below hb6
      have hF6 : w6.heap[wr.heap.size]? = some (fiObj f) := (hb6.block _ (lt_of_block HF0.out)).trans HF0.out
      have hX6 := HC6.out.box
      rw [← HM.out, ← HN.out] at hX6
      clear hb6 hq6 p0 p1 p2 p3 p4 f0 f1 HSr HC0 HF0 hW0'
      obtain ⟨p0, p1, p2, p3, p4⟩ := ed_cells hX6
      have f0 : w6.cell? ⟨wr.heap.size, 0, none⟩ = some (.int .i64 f.1) := by rw [Joins.cell_of_block hF6]; rfl
      have f1 : w6.cell? ⟨wr.heap.size, 1, none⟩ = some (.int .i64 f.2) := by rw [Joins.cell_of_block hF6]; rfl
      have HH : Hid _ := has_any S q v c f.2 w6 (HSh.out.below HC6.out.bel) hof.2
      have HM1 : Hid (may1 v e f = (decide (f.2 < e.next) && !(hasN v.files f.2 && !(sortI e.del).contains f.2))) := by show _ = _; rw [HCt.out]; rfl
      generalize (sortI e.del).contains f.2 = cc at *
      generalize hasN v.files f.2 = hh at *
      clear hX6 hF6 HCt hof
      by_cases hnx : e.next ≤ f.2
      · have HF : Hid (comes v e = false) := HNo.out (by rw [HM1.out]; simp; omega)
        clear HS HNo HH
        go_wp2
        go_ret
        exact ⟨by rw [HF.out]; rfl, HC6.out.bel⟩
      · cases hh
        · have HS1 : Hid (Coming w S q c v (some ⟨b, off, none⟩) ca ad cd e v5 g (k + 1) (w6.setCell ⟨g, k, none⟩ (.int .i64 f.2))) := HS.out w6 HC6.out (by rw [HM1.out]; simp; omega)
          obtain ⟨u6, c6, d6⟩ := HC6.out.slot (by have := HM.out; omega)
          have hk0 : (0 : Int) ≤ (k : Int) := by omega
          have hk1 : (k : Int) < (m : Int) := by omega
          clear HNo HS
          go_wp2_with (go_at_call 34; refine (show Calls _ _ _ _ _ from HH.out).mono ?_; rintro x w7 ⟨rfl, rfl⟩)
          go_roundw
          case rel => exact ⟨k + 1, by omega, by go_num, HS1.out⟩
          case measure => simp [intOf]; omega
        · cases cc
          · have HF : Hid (comes v e = false) := HNo.out (by rw [HM1.out]; simp)
            clear HS HNo
            go_wp2_with (go_at_call 34; refine (show Calls _ _ _ _ _ from HH.out).mono ?_; rintro x w7 ⟨rfl, rfl⟩)
            go_ret
            exact ⟨by rw [HF.out]; rfl, HC6.out.bel⟩
          · have HS1 : Hid (Coming w S q c v (some ⟨b, off, none⟩) ca ad cd e v5 g (k + 1) (w6.setCell ⟨g, k, none⟩ (.int .i64 f.2))) := HS.out w6 HC6.out (by rw [HM1.out]; simp; omega)
            obtain ⟨u6, c6, d6⟩ := HC6.out.slot (by have := HM.out; omega)
            have hk0 : (0 : Int) ≤ (k : Int) := by omega
            have hk1 : (k : Int) < (m : Int) := by omega
            clear HNo HS
            go_wp2_with (go_at_call 34; refine (show Calls _ _ _ _ _ from HH.out).mono ?_; rintro x w7 ⟨rfl, rfl⟩)
            go_roundw
            case rel => exact ⟨k + 1, by omega, by go_num, HS1.out⟩
            case measure => simp [intOf]; omega
    · obtain rfl : k = m := by omega
      have HAll : Hid (e.add.all (may1 v e) = true) := by have := HC.out.may; rw [HM.out, List.take_length] at this; exact this
      obtain ⟨xs, hx1, hx2⟩ := HC.out.row
      have hx3 : xs = (e.add.map (·.2)).map (Value.int .i64) := by
        have hxl : xs.length = e.add.length := by simpa using hx1.1
        rw [HM.out, List.take_length, List.take_of_length_le (by omega)] at hx2
        rw [hx2, List.map_map]; rfl
      obtain ⟨ao8, cap8, he8, hc8, _⟩ := row_cells hx1
      cases he8
      rw [hx3] at hc8
      have HU : Hid (Calls Tryd.prog 35 #[.slice (some ⟨g, 0, none⟩) k k] wr fun x w' => x = .returned (.bool (decide (e.add.map (·.2)).Nodup)) ∧ Below wr.heap.size wr w') := by
        have := unlike_any (some ⟨g, 0, none⟩) e.add.length (e.add.map (·.2)) wr hc8 (by rw [List.length_map]; have := HE.out.few; omega)
        rw [List.length_map, ← HM.out] at this
        exact this
      have HBl : Hid (Below w.heap.size w wr) := HC.out.bel
      clear hx1 hx2 hx3 hc8 HC hlt hbx
      go_wp2_with (go_at_call 35; refine (show Calls _ _ _ _ _ from HU.out).mono ?_; rintro x w1 ⟨rfl, hb1⟩)
      go_ret
      exact ⟨by rw [comes_is HAll.out]; rfl, HBl.out.trans (hb1.mono HBl.out.size)⟩
end Go.Proofs.YtjfanbemihheiaaDoor.Ma
