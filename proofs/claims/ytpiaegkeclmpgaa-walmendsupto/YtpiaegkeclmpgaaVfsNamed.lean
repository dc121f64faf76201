/-
  Package vfs: Sync, Rename, Delete, Read.
-/
import Derived.Test.YtpiaegkeclmpgaaVfsSync
namespace Go.Proofs.Ytpiaegkeclmpgaa.Vf
open Go.RowKit Cm
attribute [local go_sem ↓] Go.wp_at_zero Go.wp_at_succ
set_option linter.unusedVariables false

/-- An act: its fate, and what it does under it. -/
theorem tail_any (S S1 S0 : Nat → Prop) (b gf : Nat) (s : St) (V : Lit → Option Value) (eff : St → St) (n : Nat) (caps : Array Value) (w w0 : World) (h : FSV w S b s V) (ha : s.armed ≤ s.acts) (hb : s.acts ≤ 9223372036854775000)
    (hcf : ∀ w : World, (callFunc n caps).run Try.prog w = .ok (.enter n caps) w) (hS1 : ∀ k, S k → S1 k) (hgf : ¬ S1 gf) (hc : w.cell? ⟨gf, 0, none⟩ = some (.pointer (some ⟨b, 0, none⟩))) (hC0 : Chg S0 w0 w) (hSS : ∀ k, S1 k → New S0 w0 k)
    (hcl : ∀ w4, FSV w4 S1 b s.tick V → Chg S w w4 → Calls Try.prog n caps w4 fun e w' => e = .returned (.tuple #[]) ∧ FSAt w' (New S1 w4) b (eff s.tick) ∧ Chg S1 w4 w') :
    Calls Try.prog 40 #[.pointer (some ⟨b, 0, none⟩)] w.drew fun e w4 => e = .returned (.int .i64 s.fate) ∧ w4.cell? ⟨gf, 0, none⟩ = some (.pointer (some ⟨b, 0, none⟩)) ∧
      Hid (Calls Try.prog 39 #[.pointer (some ⟨b, 0, none⟩), .int .i64 s.fate, .func (Fn.func n) #[] caps] w4 fun e w5 => e = .returned (.int .i64 (errOf s.fate)) ∧ w5.cell? ⟨gf, 0, none⟩ = some (.pointer (some ⟨b, 0, none⟩)) ∧ Hid (FSAt w5 (New S0 w0) b (s.act eff) ∧ Chg S0 w0 w5)) := by
  have hlt := cell_lt hc
  refine (nextFateV_any S b s V w.drew (h.keep fun _ _ _ => rfl) ha hb).mono ?_
  rintro e w4 ⟨rfl, h4, hc4⟩
  have hC4 : Chg S w w4 := (Chg.drew S w 1).then hc4
  refine ⟨rfl, (World.cell?_of_block (hC4.block gf hlt fun e => hgf (hS1 _ e))).trans hc, ?_⟩
  refine (under_fs S1 b s.tick eff s.fate n caps w4 (h4.mono hS1).at_ hcf fun _ => hcl w4 (h4.mono hS1) hC4).mono ?_
  rintro e w5 ⟨rfl, h5, hc5⟩
  have hC5 := (hC4.mono fun k _ e => hS1 k e).then hc5
  refine ⟨rfl, (World.cell?_of_block (hC5.block gf hlt hgf)).trans hc, ?_, hC0.trans (hC5.mono fun k _ e => hSS k e)⟩
  refine h5.mono fun k e => ?_
  rcases e with e | e
  · exact hSS k e
  · exact .inr (Nat.le_trans hC0.size (Nat.le_trans hC4.size e))

/-- What find answers, with the value's form. -/
theorem find_form (S : Nat → Prop) (b : Nat) (s : St) (V : Lit → Option Value) (x : ByteArray) (w : World) (h : FSV w S b s V) (hx : x.size ≤ 281474976710656) :
    ∃ ao l c n, (if s.down then zeroF else (V (.string x.data.toList)).getD zeroF) = fv (.slice ao l c) n ∧ (s.down = false → (V (.string x.data.toList)).getD zeroF = fv (.slice ao l c) (s.old x.data.toList).synced ∧ n = (s.old x.data.toList).synced) ∧ RowAt w S (.slice ao l c) (s.found x.data.toList).bytes ∧
    Calls Try.prog 26 #[.pointer (some ⟨b, 0, none⟩), .string x] w fun e w' => e = .returned (.tuple #[.agg #[.slice ao l c, .int .i64 n], .int .i64 (s.findE x.data.toList)]) ∧ Below w.heap.size w w' := by
  obtain ⟨fo, bm, ao, l, c, hP, hv, hi, hR, hs, hA, h7, hl⟩ := h.opened x.data.toList
  have hf := find_any b bm fo V s x w hP.head hP.map hx (fun v e => ⟨ao, l, c, _, h7 v e⟩)
  have hE : (if s.down = true then (7 : Int) else if (V (.string x.data.toList)).isSome = true then 0 else 5) = s.findE x.data.toList := by
    unfold St.findE
    rw [hi]
    cases s.down <;> cases s.files x.data.toList <;> rfl
  rw [hE] at hf
  cases hd : s.down
  · rw [hd] at hf
    have hfd : s.found x.data.toList = s.old x.data.toList := by unfold St.found; rw [hd]; rfl
    rw [hfd]
    refine ⟨ao, l, c, (s.old x.data.toList).synced, by simpa using hv, fun _ => ⟨hv, rfl⟩, hR, ?_⟩
    simp only [Bool.false_eq_true, if_false, hv] at hf
    exact hf
  · rw [hd] at hf
    have hfd : s.found x.data.toList = ⟨[], 0⟩ := by unfold St.found; rw [hd]; rfl
    rw [hfd]
    exact ⟨none, 0, 0, 0, rfl, fun h => (by cases h), ⟨World.ownsRow_nil _ _ _ _, fun k e => by simp [Value.ownBlock] at e⟩, hf⟩

set_option maxRecDepth 100000 in
set_option maxHeartbeats 500000 in
theorem read_any (S : Nat → Prop) (b : Nat) (s : St) (x : ByteArray) (w : World) (h : FSAt w S b s) (hx : x.size ≤ 281474976710656) :
    Calls Try.prog 11 #[.pointer (some ⟨b, 0, none⟩), .string x] w fun e w' => e = .returned (.tuple #[.string ⟨(s.found x.data.toList).bytes.toArray⟩, .int .i64 (s.findE x.data.toList)]) ∧ Below w.heap.size w w' := by
  obtain ⟨V, hV⟩ := h.vals
  obtain ⟨ao, l, c, n, -, -, hR, hf⟩ := find_form S b s V x w hV hx
  have HS : Hid (∀ w1, Below w.heap.size w w1 → (convert 62 9 (.slice ao l c)).run Try.prog w1 = .ok (.string ⟨(s.found x.data.toList).bytes.toArray⟩) w1) := fun w1 h1 => own_string (own_keep hR.1 fun k e => h1.block k (hR.1.lt k e).2)
  have HF : Hid _ := hf
  clear hR hf hV h
  go_enter Try.func11, Try.ntmps11
  go_wp2_with fail
  refine (show Calls _ _ _ _ _ from HF.out).mono ?_
  rintro e w1 ⟨rfl, h1⟩
  have HB : Hid (∀ o, Below w.heap.size w (w1.alloc o)) := fun o => h1.alloc h1.size _
  have hs := HS.out _ (HB.out (.cells #[.slice ao l c, .int .i64 n] 64))
  clear h1
  go_wp2
  go_returns
  exact ⟨rfl, HB.out _⟩

set_option maxRecDepth 100000 in
set_option maxHeartbeats 500000 in
theorem sync_any (S : Nat → Prop) (b : Nat) (s : St) (x : ByteArray) (w : World) (h : FSAt w S b s) (hS : ∀ k, S k → k < w.heap.size) (hx : x.size ≤ 281474976710656) (hn : s.cnt < 9223372036854775807) (ha : s.armed ≤ s.acts) (hb : s.acts ≤ 9223372036854775000) :
    Calls Try.prog 36 #[.pointer (some ⟨b, 0, none⟩), .string x] w fun e w' => e = .returned (.int .i64 (s.syncE x.data.toList)) ∧ FSAt w' (New S w) b (s.sync x.data.toList) ∧ Chg S w w' := by
  obtain ⟨W, hW⟩ : ∃ W, W = (w.alloc (.cells #[.pointer (some ⟨b, 0, none⟩)] 24)).alloc (.cells #[.string x] 9) := ⟨_, rfl⟩
  have hB : Below w.heap.size w W := by rw [hW]; exact ((Below.refl _ _).alloc (Nat.le_refl _) _).alloc (by simp) _
  have hWs : W.heap.size = w.heap.size + 2 := by rw [hW]; simp
  have b1 : W.heap[w.heap.size]? = some (.cells #[.pointer (some ⟨b, 0, none⟩)] 24 (0, 0)) := by
    rw [hW, Below.heap_alloc _ _ _ (by simp)]; exact heap_alloc_new w _
  have b2 : W.heap[w.heap.size + 1]? = some (.cells #[.string x] 9 (0, 0)) := by
    rw [hW]; simpa using heap_alloc_new (w.alloc (.cells #[.pointer (some ⟨b, 0, none⟩)] 24)) (.cells #[.string x] 9)
  obtain ⟨V, hV⟩ := h.vals
  have hVW : FSV W S b s V := hV.keep fun k _ hk => hB.block k hk
  obtain ⟨ao, l, c, n, -, hv, -, hf⟩ := find_form S b s V x W hVW hx
  have HF : Hid _ := hf
  have HB : Hid (∀ w2 o, Below W.heap.size W w2 → Below w.heap.size w (w2.alloc o)) := fun w2 o h2 => (hB.trans (h2.mono (by omega))).alloc (by have := h2.size; omega) _
  have HO : Hid (∀ w2 o, Below W.heap.size W w2 → FSAt (w2.alloc o) (New S w) b s ∧ Chg S w (w2.alloc o)) := fun w2 o h2 => ⟨(h.below (HB.out w2 o h2)).mono fun k e => .inl e, Chg.of_below (HB.out w2 o h2)⟩
  have HK : Hid (∀ w2 o, Below W.heap.size W w2 → (w2.alloc o).heap[w.heap.size]? = some (.cells #[.pointer (some ⟨b, 0, none⟩)] 24 (0, 0)) ∧ (w2.alloc o).heap[w.heap.size + 1]? = some (.cells #[.string x] 9 (0, 0)) ∧ w.heap.size + 2 ≤ w2.heap.size) := fun w2 o h2 => by
    have := h2.size
    refine ⟨?_, ?_, by omega⟩
    · rw [Below.heap_alloc _ _ _ (by omega), h2.block _ (by omega)]; exact b1
    · rw [Below.heap_alloc _ _ _ (by omega), h2.block _ (by omega)]; exact b2
  have HA : Hid (s.findE x.data.toList = 0 → ∀ w2, Below W.heap.size W w2 → Calls Try.prog 40 #[.pointer (some ⟨b, 0, none⟩)] (w2.alloc (.cells #[.slice ao l c, .int .i64 n] 64)).drew fun e w4 => e = .returned (.int .i64 s.fate) ∧ w4.cell? ⟨w.heap.size, 0, none⟩ = some (.pointer (some ⟨b, 0, none⟩)) ∧
      Hid (Calls Try.prog 39 #[.pointer (some ⟨b, 0, none⟩), .int .i64 s.fate, .func (Fn.func 47) #[] #[.pointer (some ⟨w2.heap.size, 0, none⟩), .pointer (some ⟨w.heap.size, 0, none⟩), .pointer (some ⟨w.heap.size + 1, 0, none⟩)]] w4 fun e w5 => e = .returned (.int .i64 (errOf s.fate)) ∧ w5.cell? ⟨w.heap.size, 0, none⟩ = some (.pointer (some ⟨b, 0, none⟩)) ∧ Hid (FSAt w5 (New S w) b (s.act fun t => t.put x.data.toList (s.old x.data.toList).sync) ∧ Chg S w w5))) := fun h0 w2 h2 => by
    have hd : s.down = false := by unfold St.findE at h0; cases hd : s.down <;> rw [hd] at h0 <;> simp at h0 ⊢
    obtain ⟨hv1, rfl⟩ := hv hd
    obtain ⟨q1, q2, q3⟩ := HK.out w2 (.cells #[.slice ao l c, .int .i64 (s.old x.data.toList).synced] 64) h2
    have hBl := HB.out w2 (.cells #[.slice ao l c, .int .i64 (s.old x.data.toList).synced] 64) h2
    have hnew := heap_alloc_new w2 (.cells #[.slice ao l c, .int .i64 (s.old x.data.toList).synced] 64)
    have hV2 : FSV (w2.alloc (.cells #[.slice ao l c, .int .i64 (s.old x.data.toList).synced] 64)) S b s V := hV.keep fun k _ hk => hBl.block k hk
    have hno : ∀ k, w.heap.size ≤ k → ¬ S k := fun k hk e => by have := hS k e; omega
    refine tail_any S (fun k => S k ∨ k = w2.heap.size) S b w.heap.size s V (fun t => t.put x.data.toList (s.old x.data.toList).sync) 47 _ _ w hV2 ha hb (enters Try.func47 (by decide) rfl _) (fun k e => .inl e) (fun e => e.elim (hno _ (Nat.le_refl _)) (fun e => by omega)) (box1 q1) (Chg.of_below hBl)
      (fun k e => e.imp id fun e => by omega) fun w4 h4 hc4 => ?_
    have hk : ∀ k, w.heap.size ≤ k → k < w2.heap.size + 1 → w4.heap[k]? = (w2.alloc (.cells #[.slice ao l c, .int .i64 (s.old x.data.toList).synced] 64)).heap[k]? := fun k h1 h2 => hc4.block k (by simp; omega) (hno k h1)
    exact syncC_any (fun k => S k ∨ k = w2.heap.size) b w2.heap.size w.heap.size (w.heap.size + 1) s.tick V x ao l c w4 h4 hv1 hx hn (.inr rfl) ((hk _ (by omega) (by omega)).trans hnew) (box1 ((hk _ (Nat.le_refl _) (by omega)).trans q1)) (box1 ((hk _ (by omega) (by omega)).trans q2)) (by omega) (by omega)
  clear hB b1 b2 h hV hVW hv hf hWs
  subst hW
  by_cases h0 : s.findE x.data.toList = 0
  · have e1 : s.syncE x.data.toList = errOf s.fate := by unfold St.syncE; rw [if_pos h0]
    have e2 : s.sync x.data.toList = s.act fun t => t.put x.data.toList (s.old x.data.toList).sync := by unfold St.sync; rw [if_pos h0]
    rw [e1, e2]
    have HA2 : Hid _ := HA.out h0
    rw [h0] at HF
    clear e1 e2 HA
    go_enter Try.func36, Try.ntmps36
    go_wp2_with fail
    refine (show Calls _ _ _ _ _ from HF.out).mono ?_
    rintro e w2 ⟨rfl, h2⟩
    obtain ⟨q1, q2, q3⟩ := HK.out w2 (.cells #[.slice ao l c, .int .i64 n] 64) h2
    have r1 := box1 q1
    have HN : Hid (Calls _ _ _ _ _) := HA2.out w2 h2
    clear h2 q1 q2
    go_wp2_with fail
    go_region_held3 (fun w' => w'.cell? ⟨w.heap.size, 0, none⟩ = some (.pointer (some ⟨b, 0, none⟩))) (first | go_keep | exact t4 | exact t5)
      ((first
        | (go_at_call 40; refine HN.out.mono ?_; rintro e w4 ⟨rfl, t4, HU⟩)
        | (go_at_call 39; refine HU.out.mono ?_; rintro e w5 ⟨rfl, t5, HR⟩)))
    all_goals go_wp2
    all_goals go_ret
    all_goals exact ⟨rfl, HR.out⟩
  · have e1 : s.syncE x.data.toList = s.findE x.data.toList := by unfold St.syncE; rw [if_neg h0]
    have e2 : s.sync x.data.toList = s := by unfold St.sync; rw [if_neg h0]
    rw [e1, e2]
    have hne : (s.findE x.data.toList == 0) = false := by simpa using h0
    clear e1 e2 HA h0
    generalize s.findE x.data.toList = er at *
    go_enter Try.func36, Try.ntmps36
    go_wp2_with fail
    refine (show Calls _ _ _ _ _ from HF.out).mono ?_
    rintro e w2 ⟨rfl, h2⟩
    have HO2 : Hid _ := HO.out w2 (.cells #[.slice ao l c, .int .i64 n] 64) h2
    clear h2
    go_wp2
    go_ret
    exact ⟨rfl, HO2.out⟩

set_option maxRecDepth 100000 in
set_option maxHeartbeats 500000 in
theorem delete_any (S : Nat → Prop) (b : Nat) (s : St) (x : ByteArray) (w : World) (h : FSAt w S b s) (hS : ∀ k, S k → k < w.heap.size) (hx : x.size ≤ 281474976710656) (hn : s.cnt < 9223372036854775807) (ha : s.armed ≤ s.acts) (hb : s.acts ≤ 9223372036854775000) :
    Calls Try.prog 30 #[.pointer (some ⟨b, 0, none⟩), .string x] w fun e w' => e = .returned (.int .i64 (s.syncE x.data.toList)) ∧ FSAt w' (New S w) b (s.delete x.data.toList) ∧ Chg S w w' := by
  obtain ⟨W, hW⟩ : ∃ W, W = (w.alloc (.cells #[.pointer (some ⟨b, 0, none⟩)] 24)).alloc (.cells #[.string x] 9) := ⟨_, rfl⟩
  have hB : Below w.heap.size w W := by rw [hW]; exact ((Below.refl _ _).alloc (Nat.le_refl _) _).alloc (by simp) _
  have hWs : W.heap.size = w.heap.size + 2 := by rw [hW]; simp
  have b1 : W.heap[w.heap.size]? = some (.cells #[.pointer (some ⟨b, 0, none⟩)] 24 (0, 0)) := by
    rw [hW, Below.heap_alloc _ _ _ (by simp)]; exact heap_alloc_new w _
  have b2 : W.heap[w.heap.size + 1]? = some (.cells #[.string x] 9 (0, 0)) := by
    rw [hW]; simpa using heap_alloc_new (w.alloc (.cells #[.pointer (some ⟨b, 0, none⟩)] 24)) (.cells #[.string x] 9)
  obtain ⟨V, hV⟩ := h.vals
  have hVW : FSV W S b s V := hV.keep fun k _ hk => hB.block k hk
  obtain ⟨ao, l, c, n, -, hv, -, hf⟩ := find_form S b s V x W hVW hx
  have HF : Hid _ := hf
  have HB : Hid (∀ w2 o, Below W.heap.size W w2 → Below w.heap.size w (w2.alloc o)) := fun w2 o h2 => (hB.trans (h2.mono (by omega))).alloc (by have := h2.size; omega) _
  have HO : Hid (∀ w2 o, Below W.heap.size W w2 → FSAt (w2.alloc o) (New S w) b s ∧ Chg S w (w2.alloc o)) := fun w2 o h2 => ⟨(h.below (HB.out w2 o h2)).mono fun k e => .inl e, Chg.of_below (HB.out w2 o h2)⟩
  have HK : Hid (∀ w2 o, Below W.heap.size W w2 → (w2.alloc o).heap[w.heap.size]? = some (.cells #[.pointer (some ⟨b, 0, none⟩)] 24 (0, 0)) ∧ (w2.alloc o).heap[w.heap.size + 1]? = some (.cells #[.string x] 9 (0, 0)) ∧ w.heap.size + 2 ≤ w2.heap.size) := fun w2 o h2 => by
    have := h2.size
    refine ⟨?_, ?_, by omega⟩
    · rw [Below.heap_alloc _ _ _ (by omega), h2.block _ (by omega)]; exact b1
    · rw [Below.heap_alloc _ _ _ (by omega), h2.block _ (by omega)]; exact b2
  have HA : Hid (s.findE x.data.toList = 0 → ∀ w2, Below W.heap.size W w2 → Calls Try.prog 40 #[.pointer (some ⟨b, 0, none⟩)] (w2.alloc (.cells #[.slice ao l c, .int .i64 n] 64)).drew fun e w4 => e = .returned (.int .i64 s.fate) ∧ w4.cell? ⟨w.heap.size, 0, none⟩ = some (.pointer (some ⟨b, 0, none⟩)) ∧
      Hid (Calls Try.prog 39 #[.pointer (some ⟨b, 0, none⟩), .int .i64 s.fate, .func (Fn.func 41) #[] #[.pointer (some ⟨w.heap.size, 0, none⟩), .pointer (some ⟨w.heap.size + 1, 0, none⟩)]] w4 fun e w5 => e = .returned (.int .i64 (errOf s.fate)) ∧ w5.cell? ⟨w.heap.size, 0, none⟩ = some (.pointer (some ⟨b, 0, none⟩)) ∧ Hid (FSAt w5 (New S w) b (s.act fun t => t.del x.data.toList) ∧ Chg S w w5))) := fun h0 w2 h2 => by
    have hd : s.down = false := by unfold St.findE at h0; cases hd : s.down <;> rw [hd] at h0 <;> simp at h0 ⊢
    obtain ⟨hv1, rfl⟩ := hv hd
    obtain ⟨q1, q2, q3⟩ := HK.out w2 (.cells #[.slice ao l c, .int .i64 (s.old x.data.toList).synced] 64) h2
    have hBl := HB.out w2 (.cells #[.slice ao l c, .int .i64 (s.old x.data.toList).synced] 64) h2
    have hnew := heap_alloc_new w2 (.cells #[.slice ao l c, .int .i64 (s.old x.data.toList).synced] 64)
    have hV2 : FSV (w2.alloc (.cells #[.slice ao l c, .int .i64 (s.old x.data.toList).synced] 64)) S b s V := hV.keep fun k _ hk => hBl.block k hk
    have hno : ∀ k, w.heap.size ≤ k → ¬ S k := fun k hk e => by have := hS k e; omega
    refine tail_any S S S b w.heap.size s V (fun t => t.del x.data.toList) 41 _ _ w hV2 ha hb (enters Try.func41 (by decide) rfl _) (fun k e => e) (hno _ (Nat.le_refl _)) (box1 q1) (Chg.of_below hBl)
      (fun k e => .inl e) fun w4 h4 hc4 => ?_
    have hk : ∀ k, w.heap.size ≤ k → k < w2.heap.size + 1 → w4.heap[k]? = (w2.alloc (.cells #[.slice ao l c, .int .i64 (s.old x.data.toList).synced] 64)).heap[k]? := fun k h1 h2 => hc4.block k (by simp; omega) (hno k h1)
    exact deleteC_any S b w.heap.size (w.heap.size + 1) s.tick V x w4 h4 hx (box1 ((hk _ (Nat.le_refl _) (by omega)).trans q1)) (box1 ((hk _ (by omega) (by omega)).trans q2))
  clear hB b1 b2 h hV hVW hv hf hWs
  subst hW
  by_cases h0 : s.findE x.data.toList = 0
  · have e1 : s.syncE x.data.toList = errOf s.fate := by unfold St.syncE; rw [if_pos h0]
    have e2 : s.delete x.data.toList = s.act fun t => t.del x.data.toList := by unfold St.delete; rw [if_pos h0]
    rw [e1, e2]
    have HA2 : Hid _ := HA.out h0
    rw [h0] at HF
    clear e1 e2 HA
    go_enter Try.func30, Try.ntmps30
    go_wp2_with fail
    refine (show Calls _ _ _ _ _ from HF.out).mono ?_
    rintro e w2 ⟨rfl, h2⟩
    obtain ⟨q1, q2, q3⟩ := HK.out w2 (.cells #[.slice ao l c, .int .i64 n] 64) h2
    have r1 := box1 q1
    have HN : Hid (Calls _ _ _ _ _) := HA2.out w2 h2
    clear h2 q1 q2
    go_wp2_with fail
    go_region_held3 (fun w' => w'.cell? ⟨w.heap.size, 0, none⟩ = some (.pointer (some ⟨b, 0, none⟩))) (first | go_keep | exact t4 | exact t5)
      ((first
        | (go_at_call 40; refine HN.out.mono ?_; rintro e w4 ⟨rfl, t4, HU⟩)
        | (go_at_call 39; refine HU.out.mono ?_; rintro e w5 ⟨rfl, t5, HR⟩)))
    all_goals go_wp2
    all_goals go_ret
    all_goals exact ⟨rfl, HR.out⟩
  · have e1 : s.syncE x.data.toList = s.findE x.data.toList := by unfold St.syncE; rw [if_neg h0]
    have e2 : s.delete x.data.toList = s := by unfold St.delete; rw [if_neg h0]
    rw [e1, e2]
    have hne : (s.findE x.data.toList == 0) = false := by simpa using h0
    clear e1 e2 HA h0
    generalize s.findE x.data.toList = er at *
    go_enter Try.func30, Try.ntmps30
    go_wp2_with fail
    refine (show Calls _ _ _ _ _ from HF.out).mono ?_
    rintro e w2 ⟨rfl, h2⟩
    have HO2 : Hid _ := HO.out w2 (.cells #[.slice ao l c, .int .i64 n] 64) h2
    clear h2
    go_wp2
    go_ret
    exact ⟨rfl, HO2.out⟩
end Go.Proofs.Ytpiaegkeclmpgaa.Vf
