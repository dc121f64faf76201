/-
  Package vfs: Append, Sync, Rename, Delete, Read.
-/
import Derived.Test.YtpiaegkeclmpgaaVfsPut
import Derived.Conc.MuLone
namespace Go.Proofs.Ytpiaegkeclmpgaa.Vf
open Go.RowKit Cm
attribute [local go_sem ↓] Go.wp_at_zero Go.wp_at_succ
set_option linter.unusedVariables false

theorem FSAt.setDown {w : World} {S : Nat → Prop} {b : Nat} {s : St} (h : FSAt w S b s) (d : Bool) : FSAt (w.setCell ⟨b, 3, none⟩ (.bool d)) S b { s with down := d } := by
  obtain ⟨fo, bm, V, h1, h2, h3, h4, h5, h6⟩ := h
  have hk : ∀ k, k ≠ b → (w.setCell ⟨b, 3, none⟩ (.bool d)).heap[k]? = w.heap[k]? := fun k hk => Below.heap_setCell _ _ _ _ (by simpa using hk)
  refine ⟨fo, bm, V, ?_, h2, h3, ?_, h5.keep (hk bm ?_), ⟨h6.dom, h6.short, fun x f hs hf => ?_, h6.apart⟩⟩
  · rw [Joins.block_setCell (show w.heap[b]? = some (.cells _ _ (0, 0)) from h1)]; rfl
  · rcases h4 with q | ⟨bf, n, e, hn, q1, G, q2, q3⟩
    · exact .inl q
    · exact .inr ⟨bf, n, e, hn, q1, G, q2.keep (hk bf (by rintro rfl; exact q2.no_cells h1)), q3⟩
  · rintro rfl; exact h5.no_cells h1
  · obtain ⟨u, q1, q2, q3⟩ := h6.some_ x f hs hf
    exact ⟨u, q1, ⟨own_keep q2.1 fun k e => hk k (by rintro rfl; exact own_far q2.1 (show w.heap[k]? = some (.cells _ _ _) from h1) (by decide) e), q2.2⟩, q3⟩
theorem under_fs (S : Nat → Prop) (b : Nat) (t : St) (eff : St → St) (fate : Int) (n : Nat) (caps : Array Value) (w : World) (h : FSAt w S b t) (hcf : ∀ w : World, (callFunc n caps).run Try.prog w = .ok (.enter n caps) w)
    (hc : fate ≠ 1 → Calls Try.prog n caps w fun e w' => e = .returned (.tuple #[]) ∧ FSAt w' (New S w) b (eff t) ∧ Chg S w w') :
    Calls Try.prog 39 #[.pointer (some ⟨b, 0, none⟩), .int .i64 fate, .func (Fn.func n) #[] caps] w fun e w' => e = .returned (.int .i64 (errOf fate)) ∧ FSAt w' (New S w) b { (if fate = 1 then t else eff t) with down := gone fate } ∧ Chg S w w' := by
  refine (under_any b fate n caps w (fun w' => FSAt w' (New S w) b (if fate = 1 then t else eff t) ∧ Chg S w w') hcf ?_ ?_ ?_).mono ?_
  · intro hf; rw [if_neg hf]; exact hc hf
  · intro hf; rw [if_pos hf]; exact ⟨h.mono fun k e => .inl e, Chg.refl _ _⟩
  · intro w' hq
    obtain ⟨fo, bm, _, _, _, c3, _, fz⟩ := hq.1.cells
    exact ⟨_, c3, fz 3⟩
  · rintro e w' ⟨rfl, w1, ⟨h1, h2⟩, rfl⟩
    exact ⟨rfl, h1.setDown _, h2.then (Chg.set _ _ _ _ h.own)⟩

/-- A box of one cell. -/
theorem box1 {w : World} {c : Nat} {x : Value} {t : TypeId} (h : w.heap[c]? = some (.cells #[x] t (0, 0))) : w.cell? ⟨c, 0, none⟩ = some x := by rw [Joins.cell_of_block h]; rfl
theorem enters {n : Nat} {fn : Func} {c : Code} (hf : Try.prog.funcs[n]? = some fn) (hname : (fn.name == "runtime.NumGoroutine") = false) (hb : fn.body = some c) (caps : Array Value) (w : World) : (callFunc n caps).run Try.prog w = .ok (.enter n caps) w :=
  MuLone.run_callFunc_enter hf hname hb caps w

set_option maxRecDepth 100000 in
set_option maxHeartbeats 500000 in
theorem appendC_any (S : Nat → Prop) (b g1 g2 g3 : Nat) (s : St) (x : ByteArray) (ao : Option Addr) (cap : Nat) (xs : List ByteArray) (w : World) (h : FSAt w S b s) (hc : CellsAt w ao (strVals xs)) (hap : ∀ ad, ao = some ad → ¬ S ad.block)
    (hx : x.size ≤ 281474976710656) (hn : s.cnt < 9223372036854775807) (hsz : (s.old x.data.toList).bytes.length + total xs ≤ 140737488355328) (hxl : xs.length ≤ 140737488355328)
    (k1 : w.cell? ⟨g1, 0, none⟩ = some (.pointer (some ⟨b, 0, none⟩))) (k2 : w.cell? ⟨g2, 0, none⟩ = some (.string x)) (k3 : w.cell? ⟨g3, 0, none⟩ = some (.slice ao xs.length cap)) :
    Calls Try.prog 45 #[.pointer (some ⟨g1, 0, none⟩), .pointer (some ⟨g2, 0, none⟩), .pointer (some ⟨g3, 0, none⟩)] w fun e w' => e = .returned (.tuple #[]) ∧ FSAt w' (New S w) b (s.addTo x.data.toList (cat xs)) ∧ Chg S w w' := by
  have HP : Hid _ := put_any S b s x ao cap xs w h hc hap hx hn hsz hxl
  clear h hc hap hsz
  go_enter Try.func45, Try.ntmps45
  go_wp2_with fail
  refine (show Calls _ _ _ _ _ from HP.out).mono ?_
  rintro e w1 ⟨rfl, h1, h2⟩
  go_wp2
  go_end0
  exact ⟨rfl, h1, h2⟩

theorem St.addTo_old (s : St) (x : Name) (t : List UInt8) : s.tick.old x = s.old x := rfl
set_option maxRecDepth 100000 in
set_option maxHeartbeats 500000 in
theorem append_any (S : Nat → Prop) (b : Nat) (s : St) (x : ByteArray) (ao : Option Addr) (cap : Nat) (xs : List ByteArray) (w : World) (h : FSAt w S b s) (hS : ∀ k, S k → k < w.heap.size) (hc : CellsAt w ao (strVals xs)) (hap : ∀ ad, ao = some ad → ¬ S ad.block)
    (hx : x.size ≤ 281474976710656) (hn : s.cnt < 9223372036854775807) (hsz : (s.old x.data.toList).bytes.length + total xs ≤ 140737488355328) (hxl : xs.length ≤ 140737488355328) (ha : s.armed ≤ s.acts) (hb : s.acts ≤ 9223372036854775000) :
    Calls Try.prog 35 #[.pointer (some ⟨b, 0, none⟩), .string x, .slice ao xs.length cap] w fun e w' => e = .returned (.int .i64 (s.appendE x.data.toList)) ∧ FSAt w' (New S w) b (s.append x.data.toList (cat xs)) ∧ Chg S w w' := by
  obtain ⟨W, hW⟩ : ∃ W, W = ((w.alloc (.cells #[.pointer (some ⟨b, 0, none⟩)] 24)).alloc (.cells #[.string x] 9)).alloc (.cells #[.slice ao xs.length cap] 22) := ⟨_, rfl⟩
  have hB : Below w.heap.size w W := by rw [hW]; exact (((Below.refl _ _).alloc (Nat.le_refl _) _).alloc (by simp) _).alloc (by simp; omega) _
  have b1 : W.heap[w.heap.size]? = some (.cells #[.pointer (some ⟨b, 0, none⟩)] 24 (0, 0)) := by
    rw [hW, Below.heap_alloc _ _ _ (by simp; omega), Below.heap_alloc _ _ _ (by simp)]; exact heap_alloc_new w _
  have b2 : W.heap[w.heap.size + 1]? = some (.cells #[.string x] 9 (0, 0)) := by
    rw [hW, Below.heap_alloc _ _ _ (by simp)]; simpa using heap_alloc_new (w.alloc (.cells #[.pointer (some ⟨b, 0, none⟩)] 24)) (.cells #[.string x] 9)
  have b3 : W.heap[w.heap.size + 2]? = some (.cells #[.slice ao xs.length cap] 22 (0, 0)) := by
    rw [hW]; simpa using heap_alloc_new ((w.alloc (.cells #[.pointer (some ⟨b, 0, none⟩)] 24)).alloc (.cells #[.string x] 9)) (.cells #[.slice ao xs.length cap] 22)
  obtain ⟨fo, bm, c0, c1, c2, c3, c4, fz⟩ := h.cells
  have hlt := h.lt
  have HF : Hid (FSAt W S b s) := h.below hB
  obtain ⟨_, _, _, _, _, cW, _, _⟩ := HF.out.cells
  have HK : Hid (∀ w4, Chg S W w4 → w4.cell? ⟨w.heap.size, 0, none⟩ = some (.pointer (some ⟨b, 0, none⟩)) ∧ w4.cell? ⟨w.heap.size + 1, 0, none⟩ = some (.string x) ∧ w4.cell? ⟨w.heap.size + 2, 0, none⟩ = some (.slice ao xs.length cap)) := fun w4 h4 =>
    ⟨box1 ((h4.block _ (lt_of_block b1) fun e => by have := hS _ e; omega).trans b1), box1 ((h4.block _ (lt_of_block b2) fun e => by have := hS _ e; omega).trans b2), box1 ((h4.block _ (lt_of_block b3) fun e => by have := hS _ e; omega).trans b3)⟩
  have HC : Hid (∀ w4, Chg S W w4 → CellsAt w4 ao (strVals xs)) := fun w4 h4 => by
    rcases hc with hc | ⟨pb, off, rfl, hpl, hcell⟩
    · exact .inl hc
    · exact .inr ⟨pb, off, rfl, by have := h4.size; have := hB.size; omega, fun j hj => by rw [World.cell?_of_block ((h4.block pb (by have := hB.size; omega) (hap _ rfl)).trans (hB.block pb hpl))]; exact hcell j hj⟩
  have HW : Hid (Chg S w W) := Chg.of_below hB
  have HSz : Hid (∀ w4, Chg S W w4 → w.heap.size ≤ w4.heap.size) := fun w4 h4 => Nat.le_trans hB.size h4.size
  have HO : Hid (FSAt W (New S w) b s) := HF.out.mono fun k e => .inl e
  have HN : Hid _ := nextFate_any S b s W HF.out ha hb
  have HNm : Hid _ := isName_any x W
  have HA : Hid (∀ w4, FSAt w4 S b s.tick → Chg S W w4 → Calls Try.prog 39 #[.pointer (some ⟨b, 0, none⟩), .int .i64 s.fate, .func (Fn.func 45) #[] #[.pointer (some ⟨w.heap.size, 0, none⟩), .pointer (some ⟨w.heap.size + 1, 0, none⟩), .pointer (some ⟨w.heap.size + 1 + 1, 0, none⟩)]] w4
      fun e w' => e = .returned (.int .i64 (errOf s.fate)) ∧ FSAt w' (New S w) b (s.act (St.addTo x.data.toList (cat xs))) ∧ Chg S w w') := fun w4 h4 hc4 => by
    obtain ⟨q1, q2, q3⟩ := HK.out w4 hc4
    refine (under_fs S b s.tick (St.addTo x.data.toList (cat xs)) s.fate 45 _ w4 h4 (enters Try.func45 (by decide) rfl _) fun _ => appendC_any S b _ _ _ s.tick x ao cap xs w4 h4 (HC.out w4 hc4) hap hx hn hsz hxl q1 q2 q3).mono ?_
    rintro e w' ⟨rfl, r1, r2⟩
    exact ⟨rfl, r1.mono fun k e => e.imp id (Nat.le_trans (HSz.out w4 hc4)), (HW.out.then hc4).then r2⟩
  clear hB b1 b2 b3 h hc hap hsz
  subst hW
  cases hd : s.down
  · rw [hd] at c3 cW
    cases hnm : isName x.data.toList
    · have e1 : s.appendE x.data.toList = 4 := by unfold St.appendE; rw [hd, hnm]; rfl
      have e2 : s.append x.data.toList (cat xs) = s := by unfold St.append; rw [hd, hnm]; rfl
      rw [e1, e2]
      rw [hnm] at HNm
      clear e1 e2 hnm hd
      go_enter Try.func35, Try.ntmps35
      go_wp2_with fail
      refine (show Calls _ _ _ _ _ from HNm.out).mono ?_
      rintro e w1 ⟨rfl, rfl⟩
      go_wp2
      go_ret
      exact ⟨rfl, HO.out, HW.out⟩
    · rw [hnm] at HNm
      by_cases h3 : s.fate = 3
      · have e1 : s.appendE x.data.toList = 6 := by unfold St.appendE; rw [hd, hnm, h3]; rfl
        have e2 : s.append x.data.toList (cat xs) = s.tick := by unfold St.append; rw [hd, hnm, h3]; rfl
        rw [e1, e2]
        rw [h3] at HN
        clear e1 e2 hnm hd h3
        go_enter Try.func35, Try.ntmps35
        go_wp2_with fail
        refine (show Calls _ _ _ _ _ from HNm.out).mono ?_
        rintro e w1 ⟨rfl, rfl⟩
        go_wp2_with fail
        refine (show Calls _ _ _ _ _ from HN.out).mono ?_
        rintro e w4 ⟨rfl, h4, hc4⟩
        have HR : Hid (FSAt w4 (New S w) b s.tick ∧ Chg S w w4) := ⟨h4.mono fun k e => .inl e, HW.out.then hc4⟩
        clear h4 hc4
        go_wp2
        go_ret
        exact ⟨rfl, HR.out⟩
      · have e1 : s.appendE x.data.toList = errOf s.fate := by unfold St.appendE; rw [hd, hnm]; simp [h3]
        have e2 : s.append x.data.toList (cat xs) = s.act (St.addTo x.data.toList (cat xs)) := by unfold St.append; rw [hd, hnm]; simp [h3]
        rw [e1, e2]
        have e3 : (s.fate == 3) = false := by simpa using h3
        clear e1 e2 hnm hd
        go_enter Try.func35, Try.ntmps35
        go_wp2_with fail
        refine (show Calls _ _ _ _ _ from HNm.out).mono ?_
        rintro e w1 ⟨rfl, rfl⟩
        go_wp2_with fail
        refine (show Calls _ _ _ _ _ from HN.out).mono ?_
        rintro e w4 ⟨rfl, h4, hc4⟩
        have HU : Hid _ := HA.out w4 h4 hc4
        obtain ⟨q1, q2, q3⟩ := HK.out w4 hc4
        clear h4 hc4
        go_wp2_with fail
        refine (show Calls _ _ _ _ _ from HU.out).mono ?_
        rintro e w5 ⟨rfl, r1, r2⟩
        go_wp2
        go_ret
        exact ⟨rfl, r1, r2⟩
  · have e1 : s.appendE x.data.toList = 7 := by unfold St.appendE; rw [hd]; rfl
    have e2 : s.append x.data.toList (cat xs) = s := by unfold St.append; rw [hd]; rfl
    rw [e1, e2]
    rw [hd] at c3 cW
    clear e1 e2 hd
    go_enter Try.func35, Try.ntmps35
    go_wp2
    go_ret
    exact ⟨rfl, HO.out, HW.out⟩
end Go.Proofs.Ytpiaegkeclmpgaa.Vf
