/-
  ManifestWhole: one edit makes any version that edits led to out of nothing.
-/
import Derived.Test.YtjfanbemihheiaaDoorQManLives
import Derived.Test.YtjfanbemihheiaaDoorQManWhole
namespace Go.Proofs.YtjfanbemihheiaaDoor.Ma
open Go.RowKit Cm
set_option linter.unusedVariables false

/-! ### Versions that edits led to -/
structure PG (u : Ve) : Prop where
  good : Good u
  sorted : u.sort = u
  files : ∀ f ∈ u.files, OkF f
  wal : OkI u.wal
  next : OkI u.next
  seq : OkI u.seq
theorem PG.zero : PG Ve.zero := ⟨Good.zero, by show (⟨srt [], 0, 0, 0⟩ : Ve) = _; rw [srt_nil]; rfl, fun f hf => (by cases hf), OkI.zero, OkI.zero, OkI.zero⟩
theorem PG.step {u x : Ve} {e : Ed} (h : PG u) (he : e.Ok') (h1 : one u e = some x) : PG x.sort := by
  have hg := h.good.step h1
  obtain ⟨_, rfl⟩ := one_some h1
  refine ⟨(Like.sort _).symm.good hg, sort_sort _, fun f hf => ?_, he.wal, he.next, he.seq⟩
  have hf := (srt_perm _).mem_iff.1 hf
  rcases List.mem_append.1 hf with hf | hf
  · exact h.files f (mem_stay.1 hf).1
  · exact he.add f hf
theorem PG.one {u : Ve} (h : PG u) : app Ve.zero [whole u] = some u := by rw [app_cons, h.good.whole]; rfl
theorem PG.ok {u : Ve} (h : PG u) : (whole u).Ok' := ⟨h.files, fun n hn => (by cases hn), h.wal, h.next, h.seq⟩
/-- The version behind some edits is kept in a box. -/
structure Playing (w : World) (b : Nat) (u : Ve) (wr : World) : Prop where
  bel : Below w.heap.size w wr
  hb : w.heap.size ≤ b
  row : ∃ ao cap, wr.heap[b]? = some (veObj (.slice ao u.files.length cap) u) ∧ ElemsAt fiShape wr ao u.files ∧ (∀ a, ao = some a → a.block ≠ b) ∧ (ao = none → cap = 0)
theorem Playing.below {w wr X : World} {b : Nat} {u : Ve} (h : Playing w b u wr) (hb : Below wr.heap.size wr X) : Playing w b u X := by
  obtain ⟨ao, cap, h1, h2, h3, h4⟩ := h.row
  exact ⟨h.bel.trans (hb.mono h.bel.size), h.hb, ao, cap, (hb.block _ (lt_of_block h1)).trans h1, h2.later hb, h3, h4⟩
theorem Playing.put {w wr : World} {b : Nat} {u : Ve} (h : Playing w b u wr) {v : Ve} {ao : Option Addr} {cap : Nat} (hrow : wr.ownsRow (b + 1) 28 2 (.slice ao v.files.length cap) v.files.length (fiShape.vals v.files)) :
    Playing w b v ((((wr.setCell ⟨b, 0, none⟩ (.slice ao v.files.length cap)).setCell ⟨b, 1, none⟩ (.int .i64 v.wal)).setCell ⟨b, 2, none⟩ (.int .i64 v.next)).setCell ⟨b, 3, none⟩ (.int .i64 v.seq)) := by
  obtain ⟨ao0, cap0, h1, h2, h3, h4⟩ := h.row
  obtain ⟨ao', cap', e, e0, e1, _, e3⟩ := own_rows (F := fiShape) hrow
  cases e
  refine ⟨(((h.bel.setCell h.hb _).setCell h.hb _).setCell h.hb _).setCell h.hb _, h.hb, ao, cap, ?_, ?_, fun a ha => ?_, e0⟩
  · unfold veObj at h1
    have q1 := Joins.block_setCell h1 (i := 0) (.slice ao v.files.length cap)
    have q2 := Joins.block_setCell q1 (i := 1) (.int .i64 v.wal)
    have q3 := Joins.block_setCell q2 (i := 2) (.int .i64 v.next)
    have q4 := Joins.block_setCell q3 (i := 3) (.int .i64 v.seq)
    rw [q4]; rfl
  · refine e3.keep (fun a ha hlt => ?_) (by simp [World.setCell])
    have hab : a.block ≠ b := by have := (e1 a ha).2.1; omega
    rw [Below.heap_setCell _ _ _ _ (by simpa using hab), Below.heap_setCell _ _ _ _ (by simpa using hab), Below.heap_setCell _ _ _ _ (by simpa using hab), Below.heap_setCell _ _ _ _ (by simpa using hab)]
  · have := (e1 a ha).2.1; omega
theorem rows_le {w : World} {B B' n k : Nat} {t : TypeId} {v : Value} {ys : List Value} (h : w.ownsRow B' t k v n ys) (hB : B ≤ B') : w.ownsRow B t k v n ys := by
  refine ⟨h.1, ?_⟩
  rcases h.2 with h | ⟨g, cap, cur, h1, h2, h3⟩
  · exact .inl h
  · exact .inr ⟨g, cap, cur, h1, by omega, h3⟩
theorem app_one {u : Ve} {e : Ed} : app u [e] = one u e := by rw [app_cons]; cases one u e <;> rfl
/-- Apply of one edit in a slice of its own. -/
theorem apply_one {u : Ve} {x : Ei} {ao : Option Addr} {cap g : Nat} {X : World} (hu : PG u) (hv : ElemsAt fiShape X ao u.files) (hg : X.heap[g]? = some (.cells #[x.a, x.d, .int .i64 x.e.wal, .int .i64 x.e.next, .int .i64 x.e.seq] 36 (0, 0))) (hx : EiAt X x) (hl : u.files.length + x.e.add.length ≤ 100000000000) :
    Calls Tryd.prog 6 #[veV (.slice ao u.files.length cap) u, .slice (some ⟨g, 0, none⟩) 1 1] X (ApplyAns X u [x.e]) :=
  apply_any ao cap u (some ⟨g, 0, none⟩) 1 [x] X hv hu.files (elems_block hg rfl) (fun y hy => by obtain rfl := List.mem_singleton.1 hy; exact hx) (by simpa [addsum] using hl) (by simp)
theorem EiAt.later {w X : World} {x : Ei} (h : EiAt w x) (hb : Below w.heap.size w X) : EiAt X x := ⟨h.add.later hb, h.del.below hb, h.na, h.nd, h.ok, h.few⟩

/-- An edit whose files are written over. -/
structure Marking (w8 : World) (g : Nat) (p : Option Addr) (l c : Nat) (e : Ed) (wr : World) : Prop where
  bel : Below w8.heap.size w8 wr
  box : wr.heap[g]? = some (edObj (.slice p l c) (.slice none 0 0) e)
  row : ∃ ys, wr.ownsRow w8.heap.size 28 2 (.slice p l c) l ys
  hg : w8.heap.size ≤ g
theorem Marking.slot {w8 wr : World} {g : Nat} {p : Option Addr} {l c : Nat} {e : Ed} (h : Marking w8 g p l c e wr) {j : Nat} (hj : j < l) : ∃ r, p = some ⟨r, 0, none⟩ ∧ (∃ u, wr.cell? ⟨r, j * 2 + 1, none⟩ = some u) ∧ wr.frozen? ⟨r, j * 2 + 1, none⟩ = false ∧ ∀ v, Marking w8 g p l c e (wr.setCell ⟨r, j * 2 + 1, none⟩ v) := by
  obtain ⟨ys, hr⟩ := h.row
  obtain ⟨r, cp, hv, hB, _, _⟩ : ∃ r cp, Value.slice p l c = .slice (some ⟨r, 0, none⟩) l cp ∧ w8.heap.size ≤ r ∧ r < wr.heap.size ∧ l ≤ cp := by
    rcases hr.2 with ⟨_, h0⟩ | ⟨r, cp, cur, hv, hB, hg, hle, _⟩
    · omega
    · exact ⟨r, cp, hv, hB, lt_of_block hg, hle⟩
  cases hv
  have hyl : ys.length = l * 2 := by simpa using hr.1
  have hc := hr.cellAt (j * 2 + 1) (by omega)
  rw [List.getElem?_eq_getElem (by omega)] at hc
  have hgr : g ≠ r := by
    rintro rfl
    exact rows_far hr h.box (fun cs e => by simp [edObj] at e) rfl
  refine ⟨r, rfl, ⟨_, hc⟩, hr.frozenAt _, fun v => ?_⟩
  obtain ⟨h1, h2⟩ := hr.stored (j * 2 + 1) v
  exact ⟨h.bel.setCell hB _, by rw [Below.heap_setCell _ _ _ _ (by simpa using hgr)]; exact h.box, ⟨_, h1⟩, h.hg⟩
set_option maxRecDepth 100000 in
set_option maxHeartbeats 4000000 in
theorem whole_law (bo : Option Addr) (cap : Nat) (xs : List Ei) (w : World) (hx : ElemsAt eiShape w bo xs) (hxs : ∀ x ∈ xs, EiAt w x) (hl : addsum (xs.map (·.e)) ≤ 10000000000) (hxl : xs.length ≤ 100000000000) :
    Calls Tryd.prog 4 #[.slice bo xs.length cap] w fun e w' => e = .returned (.bool true) ∧ Below w.heap.size w w' := by
  obtain ⟨n, hn⟩ : ∃ n, n = xs.length := ⟨_, rfl⟩
  have HN : Hid (n = xs.length) := hn
  have HX : Hid (ElemsAt eiShape w bo xs) := hx
  have HXs : Hid (∀ x ∈ xs, EiAt w x) := hxs
  have HL : Hid (addsum (xs.map (·.e)) ≤ 10000000000) := hl
  rw [← hn]
  have hnl : n ≤ 100000000000 := by omega
  clear hx hxs hl hxl hn
  go_enter Tryd.func4, Tryd.ntmps4
  go_wp2_with fail
  refine (lives_any _).mono ?_
  rintro e w1 ⟨rfl, hb1⟩
  have HP : Hid (Playing w w1.heap.size Ve.zero (w1.alloc (veObj (.slice none 0 0) Ve.zero))) := ⟨hb1.alloc hb1.size _, hb1.size, none, 0, heap_alloc_new w1 _, .inl rfl, fun a e => (by cases e), fun _ => rfl⟩
  obtain ⟨b, hbq⟩ : ∃ b, b = w1.heap.size := ⟨_, rfl⟩
  rw [← hbq] at HP
  clear hb1
  go_wp2
  rw [← hbq]
  clear hbq
  go_loopw [16] (fun i wr => ∃ (k : Nat) (u : Ve), k ≤ n ∧ i = .int .i64 k ∧ Hid (Playing w b u wr) ∧ Hid (PG u) ∧ Hid (u.files.length ≤ addsum ((xs.map (·.e)).take k))) (fun i _ => n - (intOf i).toNat)
  case atStart => exact ⟨0, Ve.zero, by omega, rfl, HP, PG.zero, Nat.zero_le _⟩
  case round =>
    clear HP
    obtain ⟨k, u, hk, rfl, HP, HG, HU⟩ := hrel
    by_cases hlt : k < n
    · have hkx : k < xs.length := by have := HN.out; omega
      obtain ⟨b1, off, rfl, e0, e1, e2, e3, e4⟩ := ei_get HX.out HP.out.bel hkx
      have hei := (HXs.out (xs.getD k Ei.zero) (by rw [getD_lt _ _ _ hkx]; exact List.getElem_mem _)).later HP.out.bel
      have HSum : Hid (addsum ((xs.map (·.e)).take (k + 1)) = addsum ((xs.map (·.e)).take k) + (xs.getD k Ei.zero).e.add.length) := by
        show _ = _
        rw [addsum_at (by simpa using hkx), es_at hkx]
      have HSle : Hid (addsum ((xs.map (·.e)).take (k + 1)) ≤ 10000000000) := Nat.le_trans (addsum_take _ _) HL.out
      generalize xs.getD k Ei.zero = x at *
      obtain ⟨ao, ca, hbx, hel, hfar, hnil⟩ := HP.out.row
      obtain ⟨W0, hW0⟩ : ∃ W0, W0 = wr.alloc (.cells #[x.a, x.d, .int .i64 x.e.wal, .int .i64 x.e.next, .int .i64 x.e.seq] 36) := ⟨_, rfl⟩
      obtain ⟨X, hX⟩ : ∃ X, X = W0.alloc (.cells #[x.a, x.d, .int .i64 x.e.wal, .int .i64 x.e.next, .int .i64 x.e.seq] 36) := ⟨_, rfl⟩
      have hbW : Below wr.heap.size wr W0 := by rw [hW0]; exact (Below.refl _ _).alloc (Nat.le_refl _) _
      have hsW : W0.heap.size = wr.heap.size + 1 := by rw [hW0]; simp
      have hbX : Below wr.heap.size wr X := by rw [hX]; exact hbW.alloc (by omega) _
      have hg0 : W0.heap[wr.heap.size]? = some (.cells #[x.a, x.d, .int .i64 x.e.wal, .int .i64 x.e.next, .int .i64 x.e.seq] 36 (0, 0)) := by rw [hW0]; exact heap_alloc_new wr _
      have hg1 : X.heap[wr.heap.size + 1]? = some (.cells #[x.a, x.d, .int .i64 x.e.wal, .int .i64 x.e.next, .int .i64 x.e.seq] 36 (0, 0)) := by rw [hX, ← hsW]; exact heap_alloc_new W0 _
      have hap := apply_one (cap := ca) HG.out (hel.later hbX) hg1 (hei.later hbX) (by have := HU.out; have := HSum.out; have := HSle.out; omega)
      have HAp : Hid _ := hap
      have HOk : Hid x.e.Ok' := hei.ok
      obtain ⟨c0, c1, c2, c3, _⟩ := ve_cells ((hbW.block _ (lt_of_block hbx)).trans hbx)
      have hX' := hX.symm
      have hW0' := hW0.symm
      have HSW : Hid (W0.heap.size = wr.heap.size + 1) := hsW
      rw [← hsW] at HAp
      have ha : ∃ p l c, x.a = .slice p l c := ⟨_, _, _, rfl⟩
      have hd : ∃ p l c, x.d = .slice p l c := ⟨_, _, _, rfl⟩
      generalize x.a = xa at *
      generalize x.d = xd at *
      obtain ⟨p1, l1, c1', rfl⟩ := ha
      obtain ⟨p2, l2, c2', rfl⟩ := hd
      have HBX : Hid (Below wr.heap.size wr X) := hbX
      unfold veV at HAp
      have g0 : W0.cell? ⟨wr.heap.size, 0, none⟩ = some (.slice p1 l1 c1') := by rw [Joins.cell_of_block hg0]; rfl
      have g1 : W0.cell? ⟨wr.heap.size, 1, none⟩ = some (.slice p2 l2 c2') := by rw [Joins.cell_of_block hg0]; rfl
      have g2 : W0.cell? ⟨wr.heap.size, 2, none⟩ = some (.int .i64 x.e.wal) := by rw [Joins.cell_of_block hg0]; rfl
      have g3 : W0.cell? ⟨wr.heap.size, 3, none⟩ = some (.int .i64 x.e.next) := by rw [Joins.cell_of_block hg0]; rfl
      have g4 : W0.cell? ⟨wr.heap.size, 4, none⟩ = some (.int .i64 x.e.seq) := by rw [Joins.cell_of_block hg0]; rfl
      clear hei hbx hel hfar hnil hX hW0 hbW hsW hbX hg0 hg1 hap hkx
      go_wp2_with fail
      refine (show Calls _ _ _ _ _ from HAp.out).mono ?_
      rintro y w5 (⟨u1, f, hu1, rfl, hf, hb5⟩ | ⟨hno, rfl, hb5⟩)
      · rw [app_one] at hu1
        have hpg := HG.out.step HOk.out hu1
        have hle : u1.sort.files.length ≤ addsum ((xs.map (·.e)).take (k + 1)) := by
          have h1 := app_len (v := u) (es := [x.e]) (u := u1) (by rw [app_one]; exact hu1)
          have h2 := HU.out
          have h3 := HSum.out
          have h4 : u1.sort.files.length = u1.files.length := srt_len _
          simp [addsum] at h1
          omega
        generalize u1.sort = u2 at *
        have hbw5 : Below wr.heap.size wr w5 := HBX.out.trans (hb5.mono HBX.out.size)
        obtain ⟨p6, c6, rfl⟩ := form_any hf
        obtain ⟨W6, hW6⟩ : ∃ W6, W6 = w5.alloc (veObj (.slice p6 u2.files.length c6) u2) := ⟨_, rfl⟩
        have hb6 : Below w5.heap.size w5 W6 := by rw [hW6]; exact (Below.refl _ _).alloc (Nat.le_refl _) _
        have hn6 : W6.heap[w5.heap.size]? = some (veObj (.slice p6 u2.files.length c6) u2) := by rw [hW6]; exact heap_alloc_new w5 _
        have hP6 := HP.out.below (hbw5.trans (hb6.mono hbw5.size))
        have hblt : b < wr.heap.size := by obtain ⟨_, _, h1, _⟩ := HP.out.row; exact lt_of_block h1
        have hrow6 : W6.ownsRow (b + 1) 28 2 (.slice p6 u2.files.length c6) u2.files.length (fiShape.vals u2.files) := rows_keep (rows_le hf (by have := HBX.out.size; omega)) fun j hj => hb6.block j (World.ownsRow.lt hf j hj).2
        have HPut : Hid _ := hP6.put hrow6
        obtain ⟨ao6, ca6, hbx6, _⟩ := hP6.row
        obtain ⟨d0, d1, d2, d3, _⟩ := ve_cells hn6
        obtain ⟨k0, k1, k2, k3, kf⟩ := ve_cells hbx6
        have kf0 := kf 0
        have kf1 := kf 1
        have kf2 := kf 2
        have kf3 := kf 3
        have hW6' : w5.alloc (.cells #[.slice p6 u2.files.length c6, .int .i64 u2.wal, .int .i64 u2.next, .int .i64 u2.seq] 24) = W6 := hW6.symm
        have HG2 : Hid (PG u2) := hpg
        have HU2 : Hid (u2.files.length ≤ addsum ((xs.map (·.e)).take (k + 1))) := hle
        unfold veV
        clear hu1 hpg hle hbw5 hf hb5 hb6 hW6 hn6 hP6 hrow6 hbx6 kf c0 c1 c2 c3 g0 g1 g2 g3 g4 hX' hW0' HAp hblt HU HG
        generalize hl2 : u2.files.length = l2 at *
        have HL2 : Hid (u2.files.length = l2) := hl2
        clear hl2
        go_wp2
        go_roundw
        case rel => exact ⟨k + 1, u2, by omega, by go_num, HPut.out, HG2, by show u2.files.length ≤ _; rw [HL2.out]; exact HU2.out⟩
        case measure => simp [intOf]; omega
      · have HP5 : Hid (Playing w b u (w5.alloc (veObj (.slice none 0 0) Ve.zero))) := HP.out.below ((HBX.out.trans (hb5.mono HBX.out.size)).alloc (by have := HBX.out.size; have := hb5.size; omega) _)
        have HU2 : Hid (u.files.length ≤ addsum ((xs.map (·.e)).take (k + 1))) := by have := HU.out; have := HSum.out; show _ ≤ _; omega
        unfold veV
        clear hno hb5 c0 c1 c2 c3 g0 g1 g2 g3 g4 hX' hW0' HAp
        unfold veObj Ve.zero at HP5
        simp only [Ve.zero]
        go_wp2
        go_roundw
        case rel => exact ⟨k + 1, u, by omega, by go_num, HP5.out, HG, HU2⟩
        case measure => simp [intOf]; omega
    · obtain rfl : k = n := by omega
      have hul : u.files.length ≤ 10000000000 := Nat.le_trans HU.out (Nat.le_trans (addsum_take _ _) HL.out)
      obtain ⟨ao, ca, hbx, hel, hfar, hnil⟩ := HP.out.row
      obtain ⟨c0, c1, c2, c3, _⟩ := ve_cells hbx
      have HWh : Hid _ := whole_any ao ca u wr hel hnil (by omega)
      have HEl : Hid (ElemsAt fiShape wr ao u.files) := hel
      have HNil : Hid (ao = none → ca = 0) := hnil
      have HBx : Hid (wr.heap[b]? = some (veObj (.slice ao u.files.length ca) u)) := hbx
      have HBl : Hid (Below w.heap.size w wr) := HP.out.bel
      clear hbx hel hfar hnil HP HU hlt HX HXs HN HL
      obtain ⟨l, hlq⟩ : ∃ l, l = u.files.length := ⟨_, rfl⟩
      have HLq : Hid (l = u.files.length) := hlq
      unfold WholeAns edV veV at HWh
      unfold veObj at HBx
      rw [← hlq] at c0 HWh HBx hul
      clear hlq
      go_wp2_with fail
      refine (show Calls _ _ _ _ _ from HWh.out).mono ?_
      rintro y w5 ⟨p5, c5, rfl, hr5, hb5⟩
      obtain ⟨x, hx⟩ : ∃ x : Ei, x = ⟨p5, c5, none, 0, whole u⟩ := ⟨_, rfl⟩
      obtain ⟨X, hX⟩ : ∃ X, X = w5.alloc (.cells #[.slice p5 l c5, .slice none 0 0, .int .i64 u.wal, .int .i64 u.next, .int .i64 u.seq] 36) := ⟨_, rfl⟩
      have hbX : Below w5.heap.size w5 X := by rw [hX]; exact (Below.refl _ _).alloc (Nat.le_refl _) _
      have hgX : X.heap[w5.heap.size]? = some (.cells #[.slice p5 l c5, .slice none 0 0, .int .i64 u.wal, .int .i64 u.next, .int .i64 u.seq] 36 (0, 0)) := by rw [hX]; exact heap_alloc_new w5 _
      have hr5' : w5.ownsRow wr.heap.size 28 2 (.slice p5 u.files.length c5) u.files.length (fiShape.vals u.files) := by rw [← HLq.out]; exact hr5
      obtain ⟨p5', c5', e5, n5, _, _, el5⟩ := own_rows (F := fiShape) hr5'
      cases e5
      have hei : EiAt X x := by
        rw [hx]
        exact ⟨el5.later hbX, .inl rfl, n5, fun _ => rfl, HG.out.ok, by show u.files.length + 0 ≤ _; rw [← HLq.out]; omega⟩
      have hap := apply_one (u := Ve.zero) (ao := none) (cap := 0) (x := x) (g := w5.heap.size) PG.zero (.inl rfl) (by rw [hx]; show X.heap[w5.heap.size]? = some (.cells #[.slice p5 u.files.length c5, .slice none 0 0, _, _, _] _ _); rw [← HLq.out]; exact hgX) hei (by rw [hx]; show 0 + u.files.length ≤ _; rw [← HLq.out]; omega)
      have hxe : x.e = whole u := by rw [hx]
      rw [hxe] at hap
      have HAp : Hid _ := hap
      have HBX : Hid (Below wr.heap.size wr X) := hb5.trans (hbX.mono hb5.size)
      have hX' : w5.alloc (.cells #[.slice p5 l c5, .slice none 0 0, .int .i64 u.wal, .int .i64 u.next, .int .i64 u.seq] 36) = X := hX.symm
      unfold veV Ve.zero at HAp
      unfold whole
      clear hx hX hbX hgX hr5 hr5' el5 n5 hei hap hxe hb5 HWh c0 c1 c2 c3
      go_wp2_with fail
      refine (show Calls _ _ _ _ _ from HAp.out).mono ?_
      rintro y w6 (⟨u1, f, hu1, rfl, hf, hb6⟩ | ⟨hno, _⟩)
      · have hu1' : u1 = u := Option.some.inj (hu1.symm.trans HG.out.one)
        subst hu1'
        rw [HG.out.sorted] at hf ⊢
        have hbw6 : Below wr.heap.size wr w6 := HBX.out.trans (hb6.mono HBX.out.size)
        obtain ⟨p6, c6, rfl⟩ := form_any hf
        unfold VerAt at hf
        obtain ⟨p6', c6', e6, n6, _, _, el6⟩ := own_rows (F := fiShape) hf
        cases e6
        rw [← HLq.out]
        obtain ⟨W7, hW7⟩ : ∃ W7, W7 = w6.alloc (.cells #[.slice p6 l c6, .int .i64 u1.wal, .int .i64 u1.next, .int .i64 u1.seq] 24) := ⟨_, rfl⟩
        have hb7 : Below w6.heap.size w6 W7 := by rw [hW7]; exact (Below.refl _ _).alloc (Nat.le_refl _) _
        have hbw7 : Below wr.heap.size wr W7 := hbw6.trans (hb7.mono hbw6.size)
        have h8 : W7.heap[w6.heap.size]? = some (veObj (.slice p6 l c6) u1) := by rw [hW7]; exact heap_alloc_new w6 _
        have h3 : W7.heap[b]? = some (veObj (.slice ao l ca) u1) := (hbw7.block _ (lt_of_block HBx.out)).trans HBx.out
        have hsm := same_any p6 ao c6 ca u1 W7 (el6.later hb7) (HEl.out.later hbw7) (by rw [← HLq.out]; omega)
        have HSm : Hid _ := hsm
        rw [← HLq.out] at HSm
        unfold veV at HSm
        obtain ⟨d0, d1, d2, d3, _⟩ := ve_cells h8
        obtain ⟨k0, k1, k2, k3, _⟩ := ve_cells h3
        have hW7' : w6.alloc (.cells #[.slice p6 l c6, .int .i64 u1.wal, .int .i64 u1.next, .int .i64 u1.seq] 24) = W7 := hW7.symm
        have HE7 : Hid (ElemsAt fiShape W7 p6 u1.files) := el6.later hb7
        have HB7 : Hid (Below wr.heap.size wr W7) := hbw7
        have H8 : Hid (W7.heap[w6.heap.size]? = some (veObj (.slice p6 l c6) u1)) := h8
        unfold veV
        clear hu1 hf hb6 hbw6 n6 el6 hW7 hb7 hbw7 h8 h3 hsm hX' HAp
        go_wp2_with fail
        refine (show Calls _ _ _ _ _ from HSm.out).mono ?_
        rintro y w8 ⟨rfl, hb8⟩
        have hbw8 : Below wr.heap.size wr w8 := HB7.out.trans (hb8.mono HB7.out.size)
        have h38 : w8.heap[b]? = some (veObj (.slice ao l ca) u1) := (hbw8.block _ (lt_of_block HBx.out)).trans HBx.out
        have h88 : w8.heap[w6.heap.size]? = some (veObj (.slice p6 l c6) u1) := (hb8.block _ (lt_of_block H8.out)).trans H8.out
        have HWh8 : Hid _ := whole_any ao ca u1 w8 (HEl.out.later hbw8) HNil.out (by rw [← HLq.out]; omega)
        unfold WholeAns edV veV whole at HWh8
        rw [← HLq.out] at HWh8
        have H38 : Hid _ := h38
        have H88 : Hid _ := h88
        have HBW8 : Hid (Below w.heap.size w w8) := HBl.out.trans (hbw8.mono HBl.out.size)
        have HE8 : Hid (ElemsAt fiShape w8 p6 u1.files) := HE7.out.later hb8
        have HA8 : Hid (ElemsAt fiShape w8 ao u1.files) := HEl.out.later hbw8
        clear d0 d1 d2 d3 k0 k1 k2 k3 HSm hW7' hb8 hbw8 h88 HE7 HB7 H8
        obtain ⟨k0, k1, k2, k3, _⟩ := ve_cells h38
        clear h38
        go_wp2_with fail
        refine (show Calls _ _ _ _ _ from HWh8.out).mono ?_
        rintro y w9 ⟨p9, c9, rfl, hr9, hb9⟩
        obtain ⟨W10, hW10⟩ : ∃ W10, W10 = w9.alloc (.cells #[.slice p9 l c9, .slice none 0 0, .int .i64 u1.wal, .int .i64 u1.next, .int .i64 u1.seq] 36) := ⟨_, rfl⟩
        have hM : Marking w8 w9.heap.size p9 l c9 (whole u1) W10 := by
          rw [hW10]
          exact ⟨hb9.alloc hb9.size _, heap_alloc_new w9 _, ⟨_, rows_keep hr9 fun j hj => Below.heap_alloc _ _ _ (hr9.lt j hj).2⟩, hb9.size⟩
        have HM : Hid (Marking w8 w9.heap.size p9 l c9 (whole u1) W10) := hM
        obtain ⟨e0, _⟩ := ed_cells hM.box
        have hW10' : w9.alloc (.cells #[.slice p9 l c9, .slice none 0 0, .int .i64 u1.wal, .int .i64 u1.next, .int .i64 u1.seq] 36) = W10 := hW10.symm
        clear hr9 hb9 hW10 hM k0 k1 k2 k3 HWh8
        go_wp2
        obtain ⟨gx, hgx⟩ : ∃ gx, gx = w9.heap.size := ⟨_, rfl⟩
        rw [← hgx] at HM ⊢
        clear hgx hW10' e0
        generalize wr = wr0 at *
        go_loopw [52] (fun i wr => ∃ j : Nat, j ≤ l ∧ i = .int .i64 j ∧ Hid (Marking w8 gx p9 l c9 (whole u1) wr)) (fun i _ => l - (intOf i).toNat)
        case atStart => exact ⟨0, by omega, rfl, HM⟩
        case round =>
          clear HM
          obtain ⟨j, hj, rfl, HM⟩ := hrel
          obtain ⟨e0, e1, e2, e3, e4⟩ := ed_cells HM.out.box
          by_cases hlt : j < l
          · obtain ⟨r, rfl, ⟨uu, hcu⟩, hfz, hset⟩ := HM.out.slot hlt
            have HS : Hid (Marking w8 gx (some ⟨r, 0, none⟩) l c9 (whole u1) (wr.setCell ⟨r, j * 2 + 1, none⟩ (.int .i64 (-1)))) := hset _
            have hj0 : (0 : Int) ≤ (j : Int) := by omega
            have hj1 : (j : Int) < (l : Int) := by omega
            clear hset
            go_wp2
            go_roundw
            case rel => exact ⟨j + 1, by omega, by go_num, HS.out⟩
            case measure => simp [intOf]; omega
          · obtain rfl : j = l := by omega
            obtain ⟨i0, hi, hz0, hz1, hz2⟩ := info_parts infoFi
            obtain ⟨ys, hrow⟩ := HM.out.row
            have hfar := rows_far hrow HM.out.box (fun cs e => by simp [edObj] at e)
            have hgl := lt_of_block HM.out.box
            have hbel := HM.out.bel.alloc HM.out.bel.size (.cells #[.int .i64 0, .int .i64 0] 28)
            have HGx : Hid (∀ (w2 : World), (wr.alloc (.cells #[.int .i64 0, .int .i64 0] 28)).grownBy w2 (Value.slice p9 j c9).ownBlock → w2.cell? ⟨gx, 0, none⟩ = some (.slice p9 j c9) ∧ w2.frozen? ⟨gx, 0, none⟩ = false ∧ ∀ v', Below w8.heap.size w8 (w2.setCell ⟨gx, 0, none⟩ v')) := by
              intro w2 hgr
              have hb := (hgr.block gx (by simp; omega) (fun e => hfar e.symm)).trans ((Below.heap_alloc _ _ _ hgl).trans HM.out.box)
              exact ⟨(ed_cells hb).1, ed_free hb 0, fun v' => (hbel.grown hgr (by have := HM.out.bel.size; simp; omega) (fun k hk => (World.ownsRow.lt hrow k hk).1)).setCell HM.out.hg _⟩
            have hb0 := HM.out.bel.size
            have hsm := same_any ao p6 ca c6 u1
            have HRow : Hid (wr.ownsRow w8.heap.size 28 2 (.slice p9 j c9) j ys) := hrow
            clear hfar hbel hrow
            clear e1 e2 e3 e4 HM hgl
            go_wp2_with (at_builtin; refine wpList_append_lies _ rfl _ _ 22 rfl w8.heap.size 28 i0 (.agg #[.int .i64 0, .int .i64 0]) 2 16 Tryd.underlying22 hi hz0 hz1 hz2 rfl (by decide) (.slice p9 j c9) j ys rfl (HRow.out.alloc _) ⟨wr.heap.size, 0, none⟩ 1 1 [.int .i64 0, .int .i64 0] rfl rfl ?c1 ?c2 (by decide) ?c3 ?c4 ?c5 (wr.heap.size + 1) (by simp) ?_)
            case c1 => exact World.news_of_block (heap_alloc_new wr _)
            case c2 => intro u hu; simp at hu; rcases hu with rfl | rfl <;> rfl
            case c3 => unfold maxLen; omega
            case c4 => omega
            case c5 => simp; omega
            intro g6 c7 w11 hown hgrow hat hlt
            obtain ⟨e0', ef', hb11⟩ := HGx.out w11 hgrow
            clear hown hgrow hat hlt HRow HGx e0 hsm
            obtain ⟨W12, hW12⟩ : ∃ W12, W12 = w11.setCell ⟨gx, 0, none⟩ (.slice (some ⟨g6, 0, none⟩) (j + 1) c7) := ⟨_, rfl⟩
            have hb12 : Below w8.heap.size w8 W12 := by rw [hW12]; exact hb11 _
            have hW12' := hW12.symm
            obtain ⟨k0, k1, k2, k3, _⟩ := ve_cells ((hb12.block _ (lt_of_block H38.out)).trans H38.out)
            obtain ⟨d0, d1, d2, d3, _⟩ := ve_cells ((hb12.block _ (lt_of_block H88.out)).trans H88.out)
            have HSm : Hid _ := same_any ao p6 ca c6 u1 W12 (HA8.out.later hb12) (HE8.out.later hb12) (by rw [← HLq.out]; omega)
            rw [← HLq.out] at HSm
            unfold veV at HSm
            have HB12 : Hid (Below w.heap.size w W12) := HBW8.out.trans (hb12.mono HBW8.out.size)
            clear hW12 hb11 hb12
            go_wp2_with fail
            refine (show Calls _ _ _ _ _ from HSm.out).mono ?_
            rintro y w13 ⟨rfl, hb13⟩
            have HBf : Hid (Below w.heap.size w w13) := HB12.out.trans (hb13.mono HB12.out.size)
            clear hb13 HSm k0 k1 k2 k3 d0 d1 d2 d3
            go_wp2
            go_ret
            exact ⟨rfl, HBf.out⟩
      · change app Ve.zero _ = none at hno
        rw [HG.out.one] at hno; cases hno
end Go.Proofs.YtjfanbemihheiaaDoor.Ma
