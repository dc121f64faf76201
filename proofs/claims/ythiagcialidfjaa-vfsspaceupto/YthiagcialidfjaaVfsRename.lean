/-
  Package vfs: Rename.
-/
import Derived.Test.YthiagcialidfjaaVfsNamed
namespace Go.Proofs.Ythiagcialidfjaa.Vf
open Go.RowKit Cm
attribute [local go_sem ↓] Go.wp_at_zero Go.wp_at_succ
set_option linter.unusedVariables false

set_option maxRecDepth 100000 in
set_option maxHeartbeats 1000000 in
theorem rename_any (S : Nat → Prop) (b : Nat) (s : St) (x y : ByteArray) (w : World) (h : FSAt w S b s) (hS : ∀ k, S k → k < w.heap.size) (hx : x.size ≤ 281474976710656) (hy : y.size ≤ 281474976710656) (hn : s.cnt < 9223372036854775807) (ha : s.armed ≤ s.acts) (hb : s.acts ≤ 9223372036854775000) :
    Calls Try.prog 16 #[.pointer (some ⟨b, 0, none⟩), .string x, .string y] w fun e w' => e = .returned (.int .i64 (s.renameE x.data.toList y.data.toList)) ∧ FSAt w' (New S w) b (s.rename x.data.toList y.data.toList) ∧ Chg S w w' := by
  obtain ⟨W, hW⟩ : ∃ W, W = ((w.alloc (.cells #[.pointer (some ⟨b, 0, none⟩)] 25)).alloc (.cells #[.string x] 9)).alloc (.cells #[.string y] 9) := ⟨_, rfl⟩
  have hB : Below w.heap.size w W := by rw [hW]; exact (((Below.refl _ _).alloc (Nat.le_refl _) _).alloc (by simp) _).alloc (by simp; omega) _
  have hWs : W.heap.size = w.heap.size + 3 := by rw [hW]; simp
  have b1 : W.heap[w.heap.size]? = some (.cells #[.pointer (some ⟨b, 0, none⟩)] 25 (0, 0)) := by
    rw [hW, Below.heap_alloc _ _ _ (by simp; omega), Below.heap_alloc _ _ _ (by simp)]; exact heap_alloc_new w _
  have b2 : W.heap[w.heap.size + 1]? = some (.cells #[.string x] 9 (0, 0)) := by
    rw [hW, Below.heap_alloc _ _ _ (by simp)]; simpa using heap_alloc_new (w.alloc (.cells #[.pointer (some ⟨b, 0, none⟩)] 25)) (.cells #[.string x] 9)
  have b3 : W.heap[w.heap.size + 2]? = some (.cells #[.string y] 9 (0, 0)) := by
    rw [hW]; simpa using heap_alloc_new ((w.alloc (.cells #[.pointer (some ⟨b, 0, none⟩)] 25)).alloc (.cells #[.string x] 9)) (.cells #[.string y] 9)
  obtain ⟨V, hV⟩ := h.vals
  have hVW : FSV W S b s V := hV.keep fun k _ hk => hB.block k hk
  obtain ⟨_, _, _, _, _, cW, _, _⟩ := hVW.at_.cells
  obtain ⟨_, _, _, _, _, c3, _, _⟩ := h.cells
  have hlt := h.lt
  obtain ⟨ao, l, c, n, -, hv, -, hf⟩ := find_form S b s V x W hVW hx
  have HF : Hid _ := hf
  have HNm : Hid _ := isName_any y W
  have HW : Hid (FSAt W (New S w) b s ∧ Chg S w W) := ⟨(h.below hB).mono fun k e => .inl e, Chg.of_below hB⟩
  have HB : Hid (∀ w2 o, Below W.heap.size W w2 → Below w.heap.size w (w2.alloc o)) := fun w2 o h2 => (hB.trans (h2.mono (by omega))).alloc (by have := h2.size; omega) _
  have HO : Hid (∀ w2 o, Below W.heap.size W w2 → FSAt (w2.alloc o) (New S w) b s ∧ Chg S w (w2.alloc o)) := fun w2 o h2 => ⟨(h.below (HB.out w2 o h2)).mono fun k e => .inl e, Chg.of_below (HB.out w2 o h2)⟩
  have HK : Hid (∀ w2 o, Below W.heap.size W w2 → (w2.alloc o).heap[w.heap.size]? = some (.cells #[.pointer (some ⟨b, 0, none⟩)] 25 (0, 0)) ∧ (w2.alloc o).heap[w.heap.size + 1]? = some (.cells #[.string x] 9 (0, 0)) ∧ (w2.alloc o).heap[w.heap.size + 2]? = some (.cells #[.string y] 9 (0, 0)) ∧ w.heap.size + 3 ≤ w2.heap.size) := fun w2 o h2 => by
    have := h2.size
    refine ⟨?_, ?_, ?_, by omega⟩
    · rw [Below.heap_alloc _ _ _ (by omega), h2.block _ (by omega)]; exact b1
    · rw [Below.heap_alloc _ _ _ (by omega), h2.block _ (by omega)]; exact b2
    · rw [Below.heap_alloc _ _ _ (by omega), h2.block _ (by omega)]; exact b3
  have HA : Hid (s.findE x.data.toList = 0 → ∀ w2, Below W.heap.size W w2 → Calls Try.prog 20 #[.pointer (some ⟨b, 0, none⟩)] (w2.alloc (.cells #[.slice ao l c, .int .i64 n] 57)).drew fun e w4 => e = .returned (.int .i64 s.fate) ∧ w4.cell? ⟨w.heap.size, 0, none⟩ = some (.pointer (some ⟨b, 0, none⟩)) ∧
      Hid (Calls Try.prog 21 #[.pointer (some ⟨b, 0, none⟩), .int .i64 s.fate, .func (Fn.func 29) #[] #[.pointer (some ⟨w.heap.size, 0, none⟩), .pointer (some ⟨w.heap.size + 1, 0, none⟩), .pointer (some ⟨w.heap.size + 1 + 1, 0, none⟩), .pointer (some ⟨w2.heap.size, 0, none⟩)]] w4 fun e w5 => e = .returned (.int .i64 (errOf s.fate)) ∧ w5.cell? ⟨w.heap.size, 0, none⟩ = some (.pointer (some ⟨b, 0, none⟩)) ∧
        Hid (FSAt w5 (New S w) b (s.act fun t => (t.del x.data.toList).put y.data.toList (s.old x.data.toList)) ∧ Chg S w w5))) := fun h0 w2 h2 => by
    have hd : s.down = false := by unfold St.findE at h0; cases hd : s.down <;> rw [hd] at h0 <;> simp at h0 ⊢
    obtain ⟨hv1, rfl⟩ := hv hd
    obtain ⟨q1, q2, q3, q4⟩ := HK.out w2 (.cells #[.slice ao l c, .int .i64 (s.old x.data.toList).synced] 57) h2
    have hBl := HB.out w2 (.cells #[.slice ao l c, .int .i64 (s.old x.data.toList).synced] 57) h2
    have hnew := heap_alloc_new w2 (.cells #[.slice ao l c, .int .i64 (s.old x.data.toList).synced] 57)
    have hV2 : FSV (w2.alloc (.cells #[.slice ao l c, .int .i64 (s.old x.data.toList).synced] 57)) S b s V := hV.keep fun k _ hk => hBl.block k hk
    have hno : ∀ k, w.heap.size ≤ k → ¬ S k := fun k hk e => by have := hS k e; omega
    refine tail_any S S S b w.heap.size s V (fun t => (t.del x.data.toList).put y.data.toList (s.old x.data.toList)) 29 _ _ w hV2 ha hb (enters Try.func29 (by decide) rfl _) (fun k e => e) (hno _ (Nat.le_refl _)) (box1 q1) (Chg.of_below hBl)
      (fun k e => .inl e) fun w4 h4 hc4 => ?_
    have hk : ∀ k, w.heap.size ≤ k → k < w2.heap.size + 1 → w4.heap[k]? = (w2.alloc (.cells #[.slice ao l c, .int .i64 (s.old x.data.toList).synced] 57)).heap[k]? := fun k h1 h2 => hc4.block k (by simp; omega) (hno k h1)
    exact renameC_any S b w2.heap.size w.heap.size (w.heap.size + 1) (w.heap.size + 2) s.tick V x y ao l c w4 h4 hv1 hx hy hn ((hk _ (by omega) (by omega)).trans hnew) (box1 ((hk _ (Nat.le_refl _) (by omega)).trans q1)) (box1 ((hk _ (by omega) (by omega)).trans q2)) (box1 ((hk _ (by omega) (by omega)).trans q3))
  clear hB b1 b2 b3 h hV hVW hv hf hWs
  subst hW
  cases hd : s.down
  · rw [hd] at c3 cW
    cases hnm : isName y.data.toList
    · have e1 : s.renameE x.data.toList y.data.toList = 4 := by unfold St.renameE; rw [hd, hnm]; rfl
      have e2 : s.rename x.data.toList y.data.toList = s := by unfold St.rename; rw [hd, hnm]; rfl
      rw [e1, e2]
      rw [hnm] at HNm
      clear e1 e2 hnm hd HA
      go_enter Try.func16, Try.ntmps16
      go_wp2_with fail
      refine (show Calls _ _ _ _ _ from HNm.out).mono ?_
      rintro e w1 ⟨rfl, rfl⟩
      go_wp2
      go_ret
      exact ⟨rfl, HW.out⟩
    · rw [hnm] at HNm
      by_cases h0 : s.findE x.data.toList = 0
      · have e1 : s.renameE x.data.toList y.data.toList = errOf s.fate := by unfold St.renameE; rw [hd, hnm, if_pos h0]; rfl
        have e2 : s.rename x.data.toList y.data.toList = s.act fun t => (t.del x.data.toList).put y.data.toList (s.old x.data.toList) := by unfold St.rename; rw [hd, hnm, if_pos h0]; rfl
        rw [e1, e2]
        have HA2 : Hid _ := HA.out h0
        rw [h0] at HF
        clear e1 e2 HA hd hnm
        go_enter Try.func16, Try.ntmps16
        go_wp2_with fail
        refine (show Calls _ _ _ _ _ from HNm.out).mono ?_
        rintro e w1 ⟨rfl, rfl⟩
        go_wp2_with fail
        refine (show Calls _ _ _ _ _ from HF.out).mono ?_
        rintro e w2 ⟨rfl, h2⟩
        obtain ⟨q1, q2, q3, q4⟩ := HK.out w2 (.cells #[.slice ao l c, .int .i64 n] 57) h2
        have r1 := box1 q1
        have HN : Hid (Calls _ _ _ _ _) := HA2.out w2 h2
        clear h2 q1 q2 q3
        go_wp2_with fail
        go_region_held3 (fun w' => w'.cell? ⟨w.heap.size, 0, none⟩ = some (.pointer (some ⟨b, 0, none⟩))) (first | go_keep | exact t4 | exact t5)
          ((first
            | (go_at_call 20; refine HN.out.mono ?_; rintro e w4 ⟨rfl, t4, HU⟩)
            | (go_at_call 21; refine HU.out.mono ?_; rintro e w5 ⟨rfl, t5, HR⟩)))
        all_goals go_wp2
        all_goals go_ret
        all_goals exact ⟨rfl, HR.out⟩
      · have e1 : s.renameE x.data.toList y.data.toList = s.findE x.data.toList := by unfold St.renameE; rw [hd, hnm, if_neg h0]; rfl
        have e2 : s.rename x.data.toList y.data.toList = s := by unfold St.rename; rw [hd, hnm, if_neg h0]; rfl
        rw [e1, e2]
        have hne : (s.findE x.data.toList == 0) = false := by simpa using h0
        clear e1 e2 HA h0 hd hnm
        generalize s.findE x.data.toList = er at *
        go_enter Try.func16, Try.ntmps16
        go_wp2_with fail
        refine (show Calls _ _ _ _ _ from HNm.out).mono ?_
        rintro e w1 ⟨rfl, rfl⟩
        go_wp2_with fail
        refine (show Calls _ _ _ _ _ from HF.out).mono ?_
        rintro e w2 ⟨rfl, h2⟩
        have HO2 : Hid _ := HO.out w2 (.cells #[.slice ao l c, .int .i64 n] 57) h2
        clear h2
        go_wp2
        go_ret
        exact ⟨rfl, HO2.out⟩
  · have e1 : s.renameE x.data.toList y.data.toList = 7 := by unfold St.renameE; rw [hd]; rfl
    have e2 : s.rename x.data.toList y.data.toList = s := by unfold St.rename; rw [hd]; rfl
    rw [e1, e2]
    rw [hd] at c3 cW
    clear e1 e2 hd HA
    go_enter Try.func16, Try.ntmps16
    go_wp2
    go_ret
    exact ⟨rfl, HW.out⟩
end Go.Proofs.Ythiagcialidfjaa.Vf
