/-
  Package manifest: Whole.
-/
import Derived.Test.YtjfanbemihheiaaDoorQManApplyWalk
import Derived.Deep.RegionHeld3
import Derived.Laws.Cover1
namespace Go.Proofs.YtjfanbemihheiaaDoor.Ma
open Go.RowKit Cm
attribute [local go_sem ↓] Go.wp_at_zero Go.wp_at_succ
set_option linter.unusedVariables false

theorem own_emptyF (w : World) (base : Nat) (h : base ≤ w.heap.size) : (w.alloc (.cells #[] 28)).ownsRow base 28 2 (.slice (some ⟨w.heap.size, 0, none⟩) 0 0) 0 [] :=
  ⟨by simp, .inr ⟨w.heap.size, 0, #[], rfl, h, heap_alloc_new w _, by simp, by simp, by simp, by simp⟩⟩
set_option maxRecDepth 100000 in
theorem clone_any (ao : Option Addr) (cap : Nat) (fs : List Fi) (w : World) (h : ElemsAt fiShape w ao fs) (hn : ao = none → cap = 0) (hl : fs.length ≤ 1000000000000) :
    Calls Tryd.prog 17 #[.slice ao fs.length cap] w fun e w' => ∃ f, e = .returned f ∧ w'.ownsRow w.heap.size 28 2 f fs.length (fiShape.vals fs) ∧ Below w.heap.size w w' := by
  obtain ⟨i0, hi, hz0, hz1, hz2⟩ := info_parts infoFi
  cases ao with
  | none =>
    have h0 : fs = [] := by
      rcases h with h | ⟨b, off, e, _⟩
      · exact h
      · cases e
    subst h0
    have := hn rfl
    subst this
    have hq := fun w => Lib.run_eql_slice_nil (P := Tryd.prog) w 22 28 none 0 0 0 0 Tryd.underlying22
    clear h hn
    go_enter Tryd.func17, Tryd.ntmps17
    go_wp2
    go_ret
    exact ⟨_, rfl, World.ownsRow_nil _ _ _ _, Below.refl _ _⟩
  | some ad =>
    obtain ⟨m, hm⟩ : ∃ m, m = fs.length := ⟨_, rfl⟩
    rw [← hm] at hl ⊢
    have hb : Below w.heap.size w (w.alloc (.cells #[] 28)) := (Below.refl _ _).alloc (Nat.le_refl _) _
    have HEl : Hid (ElemsAt fiShape (w.alloc (.cells #[] 28)) (some ad) fs) := h.later hb
    have HM : Hid (fs.length = m) := hm.symm
    have hq := fun w => Lib.run_eql_slice_nil (P := Tryd.prog) w 22 28 (some ad) m cap 0 0 Tryd.underlying22
    clear h hn hb hm
    go_enter Tryd.func17, Tryd.ntmps17
    go_wp2_with (at_builtin; refine wpList_append_rows (F := fiShape) _ rfl _ _ 22 rfl w.heap.size 28 i0 _ 16 Tryd.underlying22 hi hz0 hz1 hz2 rfl _ 0 [] rfl (own_emptyF w w.heap.size (Nat.le_refl _)) (some ad) m cap fs rfl (fun e => by cases e) HM.out HEl.out (by unfold maxLen; omega) (by omega) (by simp) ?_; intro v5 w5 hown5 hgrow5 hat5)
    have HO : Hid (w5.ownsRow w.heap.size 28 2 v5 m (fiShape.vals fs)) := by show World.ownsRow _ _ _ _ _ _ _; rw [Nat.zero_add] at hown5; exact hown5
    have HB : Hid (Below w.heap.size w w5) := ((Below.refl _ w).alloc (Nat.le_refl _) (.cells #[] 28)).grown hgrow5 (by simp) (fun k hk => by cases hk; exact Nat.le_refl _)
    clear hown5 hgrow5 hat5
    go_wp2
    go_ret
    exact ⟨_, rfl, HO.out, HB.out⟩
theorem ed_set {w : World} {g : Nat} {a d : Value} {e : Ed} (h : w.heap[g]? = some (edObj a d e)) (p q r s t : Value) : ∀ X, X = (((((w.setCell ⟨g, 0, none⟩ p).setCell ⟨g, 1, none⟩ q).setCell ⟨g, 2, none⟩ r).setCell ⟨g, 3, none⟩ s).setCell ⟨g, 4, none⟩ t) →
    X.cell? ⟨g, 0, none⟩ = some p ∧ X.cell? ⟨g, 1, none⟩ = some q ∧ X.cell? ⟨g, 2, none⟩ = some r ∧ X.cell? ⟨g, 3, none⟩ = some s ∧ X.cell? ⟨g, 4, none⟩ = some t := by
  rintro X rfl
  unfold edObj at h
  have e1 := Joins.block_setCell h (i := 0) p
  have e2 := Joins.block_setCell e1 (i := 1) q
  have e3 := Joins.block_setCell e2 (i := 2) r
  have e4 := Joins.block_setCell e3 (i := 3) s
  have e5 := Joins.block_setCell e4 (i := 4) t
  refine ⟨?_, ?_, ?_, ?_, ?_⟩ <;> rw [Joins.cell_of_block e5] <;> rfl
theorem ed_free {w : World} {g : Nat} {a d : Value} {e : Ed} (h : w.heap[g]? = some (edObj a d e)) : ∀ i, w.frozen? ⟨g, i, none⟩ = false := fun i => by simp [World.frozen?, h, edObj]
def WholeAns (w : World) (v : Ve) (e : Ending) (w' : World) : Prop := ∃ ao cap, e = .returned (edV (.slice ao v.files.length cap) (.slice none 0 0) (whole v)) ∧ w'.ownsRow w.heap.size 28 2 (.slice ao v.files.length cap) v.files.length (fiShape.vals v.files) ∧ Below w.heap.size w w'
set_option maxRecDepth 100000 in
set_option maxHeartbeats 2000000 in
theorem whole_any (ao : Option Addr) (cap : Nat) (v : Ve) (w : World) (h : ElemsAt fiShape w ao v.files) (hn : ao = none → cap = 0) (hl : v.files.length ≤ 1000000000000) :
    Calls Tryd.prog 9 #[veV (.slice ao v.files.length cap) v] w (WholeAns w v) := by
  obtain ⟨w2, hw2⟩ : ∃ w2, w2 = (w.alloc (veObj (.slice ao v.files.length cap) v)).alloc (edObj (.slice none 0 0) (.slice none 0 0) ⟨[], [], 0, 0, 0⟩) := ⟨_, rfl⟩
  have hb2 : Below w.heap.size w w2 := by rw [hw2]; exact ((Below.refl _ _).alloc (Nat.le_refl _) _).alloc (by simp) _
  have hs2 : w2.heap.size = w.heap.size + 2 := by rw [hw2]; simp
  have hx : w2.heap[w.heap.size]? = some (veObj (.slice ao v.files.length cap) v) := by rw [hw2]; exact (Below.heap_alloc _ _ _ (by simp)).trans (heap_alloc_new w _)
  have hy : w2.heap[w.heap.size + 1]? = some (edObj (.slice none 0 0) (.slice none 0 0) ⟨[], [], 0, 0, 0⟩) := by
    have := heap_alloc_new (w.alloc (veObj (.slice ao v.files.length cap) v)) (edObj (.slice none 0 0) (.slice none 0 0) ⟨[], [], 0, 0, 0⟩)
    rw [World.size_alloc] at this
    rw [hw2]; exact this
  have HC : Hid (∀ n, Calls Tryd.prog 17 #[.slice ao v.files.length cap] (w2.drewN n) fun e w' => ∃ f, e = .returned f ∧ w'.ownsRow w2.heap.size 28 2 f v.files.length (fiShape.vals v.files) ∧ Below w2.heap.size w2 w') := fun n =>
    (clone_any ao cap v.files (w2.drewN n) (h.later ⟨hb2.os, hb2.tape, hb2.output, hb2.size, hb2.block⟩) hn hl).mono fun e w' ⟨f, h1, h2, h3⟩ => ⟨f, h1, h2, ⟨h3.os, h3.tape, h3.output, h3.size, h3.block⟩⟩
  obtain ⟨m, hm⟩ : ∃ m, m = v.files.length := ⟨_, rfl⟩
  have HM : Hid (m = v.files.length) := hm
  rw [← hm] at HC hx hw2 hl ⊢
  have hw2' : (w.alloc (.cells #[.slice ao m cap, .int .i64 v.wal, .int .i64 v.next, .int .i64 v.seq] 24)).alloc (.cells #[.slice none 0 0, .slice none 0 0, .int .i64 0, .int .i64 0, .int .i64 0] 36) = w2 := hw2.symm
  have HX : Hid (w2.heap[w.heap.size]? = some (veObj (.slice ao m cap) v)) := hx
  have HY : Hid (w2.heap[w.heap.size + 1]? = some (edObj (.slice none 0 0) (.slice none 0 0) ⟨[], [], 0, 0, 0⟩)) := hy
  have HB2 : Hid (Below w.heap.size w w2) := hb2
  have HS2 : Hid (w2.heap.size = w.heap.size + 2) := hs2
  obtain ⟨x0, x1, x2, x3, _⟩ := ve_cells hx
  clear h hn hb2 hs2 hx hy hm hw2
  unfold veV
  go_enter Tryd.func9, Tryd.ntmps9
  have HK : Hid (∀ X : World, X.heap[w.heap.size]? = w2.heap[w.heap.size]? → X.cell? ⟨w.heap.size, 0, none⟩ = some (.slice ao m cap) ∧ X.cell? ⟨w.heap.size, 1, none⟩ = some (.int .i64 v.wal) ∧ X.cell? ⟨w.heap.size, 2, none⟩ = some (.int .i64 v.next) ∧ X.cell? ⟨w.heap.size, 3, none⟩ = some (.int .i64 v.seq)) := fun X hX =>
    ⟨(World.cell?_of_block hX).trans x0, (World.cell?_of_block hX).trans x1, (World.cell?_of_block hX).trans x2, (World.cell?_of_block hX).trans x3⟩
  have HEnd : Hid (∀ (w5 : World) (p5 : Option Addr) (c5 : Nat), w5.ownsRow w2.heap.size 28 2 (.slice p5 m c5) m (fiShape.vals v.files) → Below w2.heap.size w2 w5 →
      w5.heap[w.heap.size]? = w2.heap[w.heap.size]? ∧ (∀ i, w5.frozen? ⟨w.heap.size + 1, i, none⟩ = false) ∧ (w5.cell? ⟨w.heap.size + 1, 0, none⟩ = some (.slice none 0 0) ∧ w5.cell? ⟨w.heap.size + 1, 1, none⟩ = some (.slice none 0 0) ∧ w5.cell? ⟨w.heap.size + 1, 2, none⟩ = some (.int .i64 0) ∧ w5.cell? ⟨w.heap.size + 1, 3, none⟩ = some (.int .i64 0) ∧ w5.cell? ⟨w.heap.size + 1, 4, none⟩ = some (.int .i64 0)) ∧
      ∀ X, X = (((((w5.setCell ⟨w.heap.size + 1, 0, none⟩ (.slice p5 m c5)).setCell ⟨w.heap.size + 1, 1, none⟩ (.slice none 0 0)).setCell ⟨w.heap.size + 1, 2, none⟩ (.int .i64 v.wal)).setCell ⟨w.heap.size + 1, 3, none⟩ (.int .i64 v.next)).setCell ⟨w.heap.size + 1, 4, none⟩ (.int .i64 v.seq)) → X.heap[w.heap.size]? = w2.heap[w.heap.size]? ∧ (X.cell? ⟨w.heap.size + 1, 0, none⟩ = some (.slice p5 m c5) ∧ X.cell? ⟨w.heap.size + 1, 1, none⟩ = some (.slice none 0 0) ∧ X.cell? ⟨w.heap.size + 1, 2, none⟩ = some (.int .i64 v.wal) ∧ X.cell? ⟨w.heap.size + 1, 3, none⟩ = some (.int .i64 v.next) ∧ X.cell? ⟨w.heap.size + 1, 4, none⟩ = some (.int .i64 v.seq)) ∧ WholeAns w v (.returned (edV (.slice p5 m c5) (.slice none 0 0) (whole v))) X) := fun w5 p5 c5 ho hb => by
    have hs2 := HS2.out
    have hx5 : w5.heap[w.heap.size]? = w2.heap[w.heap.size]? := hb.block _ (by omega)
    have hy5 := (hb.block (w.heap.size + 1) (by omega)).trans HY.out
    refine ⟨hx5, ed_free hy5, ed_cells hy5, fun X hX => ⟨?_, ed_set hy5 _ _ _ _ _ X hX, p5, c5, by rw [HM.out], ?_, ?_⟩⟩
    · rw [hX, Below.heap_setCell _ _ _ _ (by simp), Below.heap_setCell _ _ _ _ (by simp), Below.heap_setCell _ _ _ _ (by simp), Below.heap_setCell _ _ _ _ (by simp), Below.heap_setCell _ _ _ _ (by simp)]
      exact hx5
    · rw [← HM.out]
      rcases ho.2 with ⟨e1, hn⟩ | ⟨g, cp, cur, e1, hBg, hg, hrest⟩
      · exact ⟨ho.1, .inl ⟨e1, hn⟩⟩
      · cases e1
        have hgw : g ≠ w.heap.size + 1 := by omega
        refine ⟨ho.1, .inr ⟨g, c5, cur, rfl, by omega, ?_, hrest⟩⟩
        show X.heap[g]? = _
        rw [hX, Below.heap_setCell _ _ _ _ (by simpa using hgw), Below.heap_setCell _ _ _ _ (by simpa using hgw), Below.heap_setCell _ _ _ _ (by simpa using hgw), Below.heap_setCell _ _ _ _ (by simpa using hgw), Below.heap_setCell _ _ _ _ (by simpa using hgw)]
        exact hg
    · have hbw := HB2.out.trans (hb.mono HB2.out.size)
      have := (((((hbw.setCell (p := ⟨w.heap.size + 1, 0, none⟩) (by simp) (.slice p5 m c5)).setCell (p := ⟨w.heap.size + 1, 1, none⟩) (by simp) (.slice none 0 0)).setCell (p := ⟨w.heap.size + 1, 2, none⟩) (by simp) (.int .i64 v.wal)).setCell (p := ⟨w.heap.size + 1, 3, none⟩) (by simp) (.int .i64 v.next)).setCell (p := ⟨w.heap.size + 1, 4, none⟩) (by simp) (.int .i64 v.seq))
      rw [← hX] at this
      exact this
  have hk2 := HK.out w2 rfl
  have hk2d := HK.out w2.drew rfl
  have HC1 : Hid (Calls Tryd.prog 17 #[.slice ao m cap] w2.drew fun e w' => ∃ f, e = .returned f ∧ w'.ownsRow w2.heap.size 28 2 f m (fiShape.vals v.files) ∧ Below w2.heap.size w2 w') := HC.out 1
  clear HC x0 x1 x2 x3
  go_wp2_with fail
  obtain ⟨x0, x1, x2, x3⟩ := hk2
  have hk2 := HK.out w2 rfl
  go_region_held3 (fun w' => w'.cell? ⟨w.heap.size, 0, none⟩ = some (.slice ao m cap) ∧ w'.cell? ⟨w.heap.size, 1, none⟩ = some (.int .i64 v.wal) ∧ w'.cell? ⟨w.heap.size, 2, none⟩ = some (.int .i64 v.next) ∧ w'.cell? ⟨w.heap.size, 3, none⟩ = some (.int .i64 v.seq))
    (first | with_reducible exact hk2 | with_reducible exact hk2d | with_reducible exact hk5s | with_reducible exact hkXs)
    ((go_at_call 17; refine (show Calls _ _ _ _ _ from HC1.out).mono ?_; rintro e w5 ⟨f, rfl, hf5, hb5⟩; obtain ⟨p5, c5, rfl⟩ := form_any hf5; obtain ⟨hk5, hfz, ⟨f0, f1, f2, f3, f4⟩, hkX⟩ := HEnd.out w5 p5 c5 hf5 hb5; have hk5s := HK.out w5 hk5; have hkXs := HK.out _ (hkX _ rfl).1; have HXE : Hid _ := (hkX _ rfl).2; clear hkX hk5 hf5 hb5; have z0 := hfz 0; have z1 := hfz 1; have z2 := hfz 2; have z3 := hfz 3; have z4 := hfz 4))
  obtain ⟨⟨r0, r1, r2, r3, r4⟩, hAns⟩ := HXE.out
  have HA : Hid _ := hAns
  clear hAns HXE hk5s hkXs hk2 hk2d x0 x1 x2 x3 f0 f1 f2 f3 f4 z0 z1 z2 z3 z4 hfz HEnd HK HC1
  generalize (((((w5.setCell ⟨w.heap.size + 1, 0, none⟩ (.slice p5 m c5)).setCell ⟨w.heap.size + 1, 1, none⟩ (.slice none 0 0)).setCell ⟨w.heap.size + 1, 2, none⟩ (.int .i64 v.wal)).setCell ⟨w.heap.size + 1, 3, none⟩ (.int .i64 v.next)).setCell ⟨w.heap.size + 1, 4, none⟩ (.int .i64 v.seq)) = X at *
  go_wp2
  refine bodyPost_ret (v := .agg #[.slice p5 m c5, .slice none 0 0, .int .i64 v.wal, .int .i64 v.next, .int .i64 v.seq]) (by simp [results, Tryd.results9, go_sem, r0, r1, r2, r3, r4]) rfl ?_
  exact HA.out
end Go.Proofs.YtjfanbemihheiaaDoor.Ma
