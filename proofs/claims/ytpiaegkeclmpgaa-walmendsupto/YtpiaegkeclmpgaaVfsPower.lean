/-
  Package vfs: New, Acts, Down, the next act's fate, an act under its fate.
-/
import Derived.Test.YtpiaegkeclmpgaaVfsHeap
import Derived.Deep.RegionHeld3
import Derived.Deep.RegionWith
import Derived.Deep.DrawnRows
import Derived.Deep.QuietTactic
namespace Go.Proofs.Ytpiaegkeclmpgaa.Vf
open Go.RowKit Cm
set_option linter.unusedVariables false

theorem new_any (w : World) :
    Calls Try.prog 8 #[] w fun e w' => e = .returned (.pointer (some ⟨w.heap.size + 1, 0, none⟩)) ∧ FSAt w' (fun k => w.heap.size ≤ k) (w.heap.size + 1) St.init ∧ Below w.heap.size w w' := by
  have hmm := @run_makeMap Try.prog
  go_enter Try.func8, Try.ntmps8
  go_wp2
  go_ret
  have h1 : MapAt (w.alloc (.map #[] 0)) Try.prog 9 w.heap.size 0 (fun _ => none) := MapAt.made _ _ _
  refine ⟨rfl, ⟨none, w.heap.size, fun _ => none, ?_, by show w.heap.size ≤ _; omega, Nat.le_refl _, .inl ⟨rfl, fun _ => rfl⟩, h1.keep (Below.heap_alloc _ _ _ (by simp)), ⟨fun _ => rfl, fun x e => (by cases e), fun x f _ e => (by cases e), fun x y u n v m _ _ _ e => (by cases e)⟩⟩, ?_⟩
  · have := heap_alloc_new (w.alloc (.map #[] 0)) (head St.init none w.heap.size)
    simpa [head, St.init] using this
  · exact ((Below.refl _ _).alloc (Nat.le_refl _) _).alloc (by simp) _

set_option maxHeartbeats 500000 in
theorem acts_any (S : Nat → Prop) (b : Nat) (s : St) (w : World) (h : FSAt w S b s) :
    Calls Try.prog 13 #[.pointer (some ⟨b, 0, none⟩)] w fun e w' => e = .returned (.int .i64 s.acts) ∧ w' = w := by
  obtain ⟨fo, bm, c0, c1, c2, c3, c4, fz⟩ := h.cells
  clear h
  go_enter Try.func13, Try.ntmps13
  go_wp2
  go_ret
  exact ⟨rfl, rfl⟩
theorem down_any (S : Nat → Prop) (b : Nat) (s : St) (w : World) (h : FSAt w S b s) :
    Calls Try.prog 19 #[.pointer (some ⟨b, 0, none⟩)] w fun e w' => e = .returned (.bool s.down) ∧ w' = w := by
  obtain ⟨fo, bm, c0, c1, c2, c3, c4, fz⟩ := h.cells
  clear h
  go_enter Try.func19, Try.ntmps19
  go_wp2
  go_ret
  exact ⟨rfl, rfl⟩
theorem isName_any (x : ByteArray) (w : World) :
    Calls Try.prog 44 #[.string x] w fun e w' => e = .returned (.bool (isName x.data.toList)) ∧ w' = w := by
  have hl : x.data.toList.length = x.size := by rw [Array.length_toList]; rfl
  by_cases h0 : x.size = 0
  · have hx : x = ⟨#[]⟩ := by
      cases x with | mk d => cases d with | mk l => simp [ByteArray.size] at h0; subst h0; rfl
    subst hx
    clear hl h0
    go_enter Try.func44, Try.ntmps44
    go_wp2
    go_ret
    exact ⟨rfl, rfl⟩
  · have he : x.data.toList.isEmpty = false := by
      cases h : x.data.toList with
      | nil => rw [h] at hl; exact absurd hl.symm h0
      | cons a l => rfl
    have hne : x.toList.isEmpty = false := by rw [Lib.toList_data]; exact he
    have hE : Hid (isName x.data.toList = decide ((x.size : Int) ≤ 40)) := by
      show _ = _
      unfold isName; rw [he, hl]
      by_cases h : x.size ≤ 40
      · rw [decide_eq_true h, decide_eq_true (by omega)]; rfl
      · rw [decide_eq_false h, decide_eq_false (by omega)]; rfl
    rw [hE.out]
    clear hl he
    go_enter Try.func44, Try.ntmps44
    go_wp2
    go_ret
    exact ⟨rfl, rfl⟩

theorem FSV.tick {w w1 : World} {S : Nat → Prop} {b bm : Nat} {fo : Option Nat} {V : Lit → Option Value} {s : St}
    (hb : w.heap[b]? = some (head s fo bm)) (hSb : S b) (hSm : S bm) (hM : MapAt w Try.prog 9 bm s.cnt V) (hF : Files w S V s.files (fun _ => False))
    (hb1 : w1.heap[b]? = some (head s.tick fo bm)) (hk : ∀ k, k ≠ b → some k ≠ fo → w1.heap[k]? = w.heap[k]?) (hfo : FatesO w1 S bm fo s.tick.fates) (hfc : ∀ k, fo = some k → k ≠ bm ∧ ∃ n G, MapAt w Try.prog 3 k n G) : FSV w1 S b s.tick V := by
  refine ⟨fo, bm, hb1, hSb, hSm, hfo, hM.keep (hk bm ?_ ?_), ⟨hF.dom, hF.short, fun x f hs hf => ?_, hF.apart⟩⟩
  · rintro rfl; exact hM.no_cells hb
  · intro e; exact (hfc bm e.symm).1 rfl
  · obtain ⟨u, h1, h2, h3⟩ := hF.some_ x f hs hf
    refine ⟨u, h1, ⟨own_keep h2.1 fun k e => hk k ?_ ?_, h2.2⟩, h3⟩
    · rintro rfl; exact row_ne h2 hb (by simp [head]) e
    · intro e2
      obtain ⟨_, n, G, hG⟩ := hfc k e2.symm
      rcases h2.1.2 with ⟨rfl, _⟩ | ⟨g, cap, cur, rfl, _, hg, _⟩
      · simp [Value.ownBlock] at e
      · simp [Value.ownBlock] at e
        subst e
        exact hG.no_cells hg

set_option maxRecDepth 100000 in
set_option maxHeartbeats 500000 in
theorem nextFateV_any (S : Nat → Prop) (b : Nat) (s : St) (V : Lit → Option Value) (w : World) (h : FSV w S b s V) (ha : s.armed ≤ s.acts) (hb : s.acts ≤ 9223372036854775000) :
    Calls Try.prog 40 #[.pointer (some ⟨b, 0, none⟩)] w fun e w' => e = .returned (.int .i64 s.fate) ∧ FSV w' S b s.tick V ∧ Chg S w w' := by
  obtain ⟨fo, bm, h1, h2, h3, h4, h5, h6⟩ := h
  have c0 : w.cell? ⟨b, 0, none⟩ = some (.int .i64 s.acts) := by rw [Joins.cell_of_block h1]; rfl
  have c1 : w.cell? ⟨b, 1, none⟩ = some (.int .i64 s.armed) := by rw [Joins.cell_of_block h1]; rfl
  have c2 : w.cell? ⟨b, 2, none⟩ = some (.map fo) := by rw [Joins.cell_of_block h1]; rfl
  have fz : w.frozen? ⟨b, 0, none⟩ = false := by simp [World.frozen?, h1, head]
  have hi : IntKind.i64.wrap ((s.acts : Int) - (s.armed : Int)) = s.at_ := by rw [IntWalk.i64_in _ ⟨by omega, by omega⟩]; rfl
  have hk : keyOf Try.prog 3 (.int .i64 s.at_) = some (.int .i64 s.at_) := keyOfI (by unfold St.at_; omega) (by unfold St.at_; omega)
  have ht : (s.acts : Int) + 1 = ((s.acts + 1 : Nat) : Int) := by omega
  rcases h4 with ⟨rfl, hn⟩ | ⟨bf, n, rfl, hne, ⟨hSf, G, hG, hGF⟩⟩
  · have hl := fun w : World => Maps.look_nil (w := w) false keyI Try.underlying38 (zeroInt w) hk
    have hd := fun (w : World) (ty : TypeId) => Maps.drop_nil (w := w) keyI Try.underlying38 hk ty
    have HE : Hid (s.fate = 0) := by show _ = _; unfold St.fate; rw [hn]; rfl
    rw [HE.out]
    have HA : Hid (∀ n, FSV ((w.drewN n).setCell ⟨b, 0, none⟩ (.int .i64 ((s.acts : Int) + 1))) S b s.tick V) := fun n => by
      rw [ht]
      refine FSV.tick (fo := none) (bm := bm) h1 h2 h3 h5 h6 ?_ (fun k hk _ => Below.heap_setCell _ _ _ _ (by simpa using hk)) (.inl ⟨rfl, fun i => by show (if _ then _ else _) = _; rw [hn]; simp⟩) (fun k e => by cases e)
      rw [Joins.block_setCell (show (w.drewN n).heap[b]? = _ from h1)]
      rfl
    have HC : Hid (∀ n, Chg S w ((w.drewN n).setCell ⟨b, 0, none⟩ (.int .i64 ((s.acts : Int) + 1)))) := fun n => (Chg.drew S w n).then (Chg.set _ _ _ _ h2)
    clear h1 h5 h6 hk hn ht h2 h3
    simp only [Bool.false_eq_true, if_false] at hl
    go_enter Try.func40, Try.ntmps40
    go_wp2_with fail
    go_quiet (fail)
    go_wp2
    go_ret
    exact ⟨rfl, HA.out nq, HC.out nq⟩
  · have hr : (G (.int .i64 s.at_)).getD (.int .i64 0) = .int .i64 s.fate := by
      rw [hGF]; unfold St.fate; cases s.fates s.at_ <;> rfl
    have hbf : bf ≠ b := by rintro rfl; exact hG.no_cells h1
    have HG : Hid (∀ n', MapAt ((w.drewN n').setCell ⟨b, 0, none⟩ (.int .i64 ((s.acts : Int) + 1))) Try.prog 3 bf n G) := fun n' => hG.keep (Below.heap_setCell _ _ _ _ (by simpa using hbf))
    have HA : Hid (∀ n' w1, MapAt w1 Try.prog 3 bf n (upd G (.int .i64 s.at_) none) → ((w.drewN n').setCell ⟨b, 0, none⟩ (.int .i64 ((s.acts : Int) + 1))).mapTurned w1 bf → FSV w1 S b s.tick V ∧ Chg S w w1) := fun n' w1 hM1 ht1 => by
      have hg := ht1.grown
      have hk : ∀ k, k ≠ b → k ≠ bf → w1.heap[k]? = w.heap[k]? := fun k hk hkf => by
        by_cases hlt : k < w.heap.size
        · refine (hg.block k (by simpa [World.setCell] using hlt) (by simpa using hkf)).trans ?_
          exact Below.heap_setCell _ _ _ _ (by simpa using hk)
        · obtain ⟨es, clock, es', clock', q1, rfl⟩ := ht1
          rw [Array.getElem?_eq_none (by simpa [ChangeMaps.setBlock, World.setCell] using Nat.le_of_not_lt hlt), Array.getElem?_eq_none (Nat.le_of_not_lt hlt)]
      refine ⟨FSV.tick (fo := some bf) (bm := bm) h1 h2 h3 h5 h6 ?_ (fun k hkb hkf => hk k hkb (by simpa using hkf)) (.inr ⟨bf, n, rfl, hne, hSf, _, hM1, fun i => ?_⟩) (fun k e => by cases e; exact ⟨hne, n, G, hG⟩), ?_⟩
      · rw [hg.block b (by simpa [World.setCell] using lt_of_block h1) (by simpa using hbf.symm), Joins.block_setCell (show (w.drewN n').heap[b]? = _ from h1), ht]
        rfl
      · show upd G _ none _ = Option.map _ (if _ then _ else _)
        by_cases e : i = s.at_
        · rw [e, upd_same _ (k := .int .i64 s.at_) trivial, if_pos rfl]; rfl
        · rw [upd_other _ (by simpa using e), if_neg e, hGF]
      · exact ((Chg.drew S w n').then (Chg.set _ _ _ _ h2)).then (Chg.turned ht1 hSf)
    clear h1 h5 h6 ht h2 h3 hG hGF
    go_enter Try.func40, Try.ntmps40
    go_wp2_with fail
    go_quiet (fail)
    go_wp2_with (first
      | (at_lookup; refine wpList_lookup_at _ rfl _ _ 38 rfl 3 3 keyI Try.underlying38 (zeroInt _) bf n G rfl (HG.out nq) _ _ rfl hk _ hr ?_)
      | (at_delete; refine wpList_delete_at _ rfl _ _ 38 3 rfl 3 keyI Try.underlying38 bf n G rfl (HG.out nq) _ _ rfl hk ?_; intro w1 hM1 ht1; have HR : Hid _ := HA.out nq w1 hM1 ht1; clear hM1 ht1))
    go_wp2
    go_ret
    exact ⟨rfl, HR.out.1, HR.out.2⟩

theorem nextFate_any (S : Nat → Prop) (b : Nat) (s : St) (w : World) (h : FSAt w S b s) (ha : s.armed ≤ s.acts) (hb : s.acts ≤ 9223372036854775000) :
    Calls Try.prog 40 #[.pointer (some ⟨b, 0, none⟩)] w fun e w' => e = .returned (.int .i64 s.fate) ∧ FSAt w' S b s.tick ∧ Chg S w w' := by
  obtain ⟨V, hV⟩ := h.vals
  refine (nextFateV_any S b s V w hV ha hb).mono ?_
  rintro e w' ⟨rfl, h1, h2⟩
  exact ⟨rfl, h1.at_, h2⟩

set_option maxRecDepth 100000 in
set_option maxHeartbeats 500000 in
theorem under_any (b : Nat) (fate : Int) (n : Nat) (caps : Array Value) (w : World) (Q : World → Prop) (hcf : ∀ w : World, (callFunc n caps).run Try.prog w = .ok (.enter n caps) w) (hc : fate ≠ 1 → Calls Try.prog n caps w fun e w' => e = .returned (.tuple #[]) ∧ Q w') (h0 : fate = 1 → Q w)
    (hq : ∀ w', Q w' → ∃ c, w'.cell? ⟨b, 3, none⟩ = some (.bool c) ∧ w'.frozen? ⟨b, 3, none⟩ = false) :
    Calls Try.prog 39 #[.pointer (some ⟨b, 0, none⟩), .int .i64 fate, .func (Fn.func n) #[] caps] w fun e w' => e = .returned (.int .i64 (errOf fate)) ∧ ∃ w1, Q w1 ∧ w' = w1.setCell ⟨b, 3, none⟩ (.bool (gone fate)) := by
  by_cases h1 : fate = 1
  · subst h1
    have HQ : Hid (Q w) := h0 rfl
    obtain ⟨c, hcell, hf⟩ := hq w HQ.out
    clear hc h0 hq
    go_enter Try.func39, Try.ntmps39
    go_wp2
    go_ret
    exact ⟨rfl, w, HQ.out, rfl⟩
  · have HC : Hid (Calls Try.prog n caps w fun e w' => e = .returned (.tuple #[]) ∧ Q w') := hc h1
    clear hc h0
    have hg : errOf fate = if fate == 2 then 7 else 0 := by unfold errOf gone; simp [h1]
    have hg2 : gone fate = (fate == 2) := by unfold gone; simp [h1]
    rw [hg, hg2]
    have e1 : (fate == 1) = false := by simpa using h1
    have e1' : (fate != 1) = true := by simpa using h1
    by_cases h2 : fate = 2
    · subst h2
      clear e1 e1' hg hg2 h1
      have HH : Hid _ := hq
      clear hq
      go_enter Try.func39, Try.ntmps39
      go_wp2_with fail
      refine HC.out.mono ?_
      rintro e w1 ⟨rfl, hq1⟩
      have HQ : Hid (Q w1) := hq1
      obtain ⟨c, hcell, hf⟩ := HH.out w1 hq1
      clear hq1
      go_wp2
      go_ret
      exact ⟨rfl, w1, HQ.out, rfl⟩
    · have e2 : (fate == 2) = false := by simpa using h2
      rw [e2]
      have HH : Hid _ := hq
      clear hq hg hg2
      go_enter Try.func39, Try.ntmps39
      go_wp2_with fail
      refine HC.out.mono ?_
      rintro e w1 ⟨rfl, hq1⟩
      have HQ : Hid (Q w1) := hq1
      obtain ⟨c, hcell, hf⟩ := HH.out w1 hq1
      clear hq1
      go_wp2
      go_ret
      exact ⟨rfl, w1, HQ.out, rfl⟩
end Go.Proofs.Ytpiaegkeclmpgaa.Vf
