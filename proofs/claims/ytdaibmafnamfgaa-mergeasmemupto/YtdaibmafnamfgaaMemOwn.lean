/-
  Package mem: a version of the table's own.
-/
import Derived.Test.YtdaibmafnamfgaaMemSmall
import Derived.Test.YtdaibmafnamfgaaCmClone
namespace Go.Proofs.Ytdaibmafnamfgaa.Mm
open Go.RowKit Cm
set_option linter.unusedVariables false

/-- The argument's box, the answer's. -/
structure Boxes (w : World) (e : En) (X : World) : Prop where
  arg : X.heap[w.heap.size]? = some (entObj e)
  res : X.heap[w.heap.size + 1]? = some zeroObj
  bel : Below w.heap.size w X
theorem Boxes.below {w X Y : World} {e : En} (h : Boxes w e X) (hb : Below X.heap.size X Y) : Boxes w e Y :=
  ⟨(hb.block _ (lt_of_block h.arg)).trans h.arg, (hb.block _ (lt_of_block h.res)).trans h.res, h.bel.trans (hb.mono h.bel.size)⟩
theorem Boxes.set {w X : World} {e : En} (h : Boxes w e X) {c i : Nat} {v : Value} (hc : w.heap.size + 2 ≤ c) : Boxes w e (X.setCell ⟨c, i, none⟩ v) :=
  ⟨(Below.heap_setCell _ _ _ _ (by simp; omega)).trans h.arg, (Below.heap_setCell _ _ _ _ (by simp; omega)).trans h.res, h.bel.setCell (by simp; omega) _⟩
theorem Boxes.cells {w X : World} {e : En} (h : Boxes w e X) : X.cell? ⟨w.heap.size, 0, none⟩ = some (.string e.key) ∧ X.cell? ⟨w.heap.size, 1, none⟩ = some (.int .i64 e.seq) ∧ X.cell? ⟨w.heap.size, 2, none⟩ = some (.bool e.dead) ∧ X.cell? ⟨w.heap.size, 3, none⟩ = some (.string e.val) := by
  obtain ⟨h0, h1, h2, h3, _⟩ := ent_cells h.arg
  exact ⟨h0, h1, h2, h3⟩
theorem Boxes.alloc {w X : World} {e : En} (h : Boxes w e X) (o : Obj) : Boxes w e (X.alloc o) := h.below ((Below.refl _ _).alloc (Nat.le_refl _) _)
theorem Boxes.three {w X : World} {e : En} {d : Bool} (h : Boxes w e X) (hd : e.dead = d) : X.cell? ⟨w.heap.size, 0, none⟩ = some (.string e.key) ∧ X.cell? ⟨w.heap.size, 1, none⟩ = some (.int .i64 e.seq) ∧ X.cell? ⟨w.heap.size, 2, none⟩ = some (.bool d) := by
  obtain ⟨h0, h1, h2, h3⟩ := h.cells
  rw [hd] at h2
  exact ⟨h0, h1, h2⟩
set_option maxRecDepth 100000 in
set_option maxHeartbeats 1000000 in
theorem own_any (e : En) (w : World) (hs : sizeE e ≤ 1000000000000) :
    Calls Try.prog 20 #[env e] w fun r w' => r = .returned (env (clean e)) ∧ Below w.heap.size w w' := by
  have HC : Hid (∀ w2 : World, Calls Try.prog 44 #[.string e.key] w2 fun r w' => r = .returned (.string e.key) ∧ Below w2.heap.size w2 w') := fun w2 => clone_any e.key w2 (by unfold sizeE at hs; omega)
  have HD : Hid (∀ w2 : World, Calls Try.prog 44 #[.string e.val] w2 fun r w' => r = .returned (.string e.val) ∧ Below w2.heap.size w2 w') := fun w2 => clone_any e.val w2 (by unfold sizeE at hs; omega)
  obtain ⟨w1, hw1⟩ : ∃ w1, w1 = (w.alloc (entObj e)).alloc zeroObj := ⟨_, rfl⟩
  have k1 : Boxes w e w1 := by
    rw [hw1]
    refine ⟨by rw [Below.heap_alloc _ _ _ (by simp)]; exact heap_alloc_new w _, ?_, ((Below.refl _ _).alloc (Nat.le_refl _) _).alloc (by simp) _⟩
    have := heap_alloc_new (w.alloc (entObj e)) zeroObj
    simpa using this
  have HZ : Hid (w1.heap.size = w.heap.size + 2) := by show _ = _; rw [hw1]; simp
  unfold entObj zeroObj at hw1
  have HK1 : Hid (Boxes w e w1.drew) := k1.below ((Below.refl _ _).drew)
  have HK2 : Hid (Boxes w e (w1.alloc (.cells #[.string ⟨#[]⟩, .int .i64 0, .bool false, .string ⟨#[]⟩] 28)).drew) := k1.below (((Below.refl _ _).alloc (Nat.le_refl _) _).drew)
  have hO : (w1.alloc (.cells #[.string ⟨#[]⟩, .int .i64 0, .bool false, .string ⟨#[]⟩] 28)).drew.heap[w1.heap.size]? = some zeroObj := heap_alloc_new w1 _
  have HO : Hid (∀ w2, Below (w1.alloc (.cells #[.string ⟨#[]⟩, .int .i64 0, .bool false, .string ⟨#[]⟩] 28)).drew.heap.size (w1.alloc (.cells #[.string ⟨#[]⟩, .int .i64 0, .bool false, .string ⟨#[]⟩] 28)).drew w2 → w2.heap[w1.heap.size]? = some zeroObj) := fun w2 h => (h.block _ (lt_of_block hO)).trans hO
  unfold env
  obtain ⟨e0, e1, e2, e3⟩ := k1.cells
  cases hd : e.dead
  · rw [hd] at e2 hw1
    clear k1 hO
    go_enter Try.func20, Try.ntmps20
    go_wp2_with fail
    rw [← hw1]
    clear hw1
    go_region_held3 (fun w' => w'.cell? ⟨w.heap.size, 0, none⟩ = some (.string e.key) ∧ w'.cell? ⟨w.heap.size, 1, none⟩ = some (.int .i64 e.seq) ∧ w'.cell? ⟨w.heap.size, 2, none⟩ = some (.bool false)) (first | with_reducible exact ⟨by assumption, by assumption, by assumption⟩ | (refine Boxes.three ?_ hd; with_reducible first | exact HK2.out | exact HK1.out | exact q | exact q.alloc _ | exact (((q.set hc).set hc).set hc).set hc | exact ((((q.alloc _).set hc).set hc).set hc).set hc))
      ((go_at_call 44; refine (HC.out _).mono ?_; rintro r w2 ⟨rfl, hb2⟩; first | (have q := Boxes.below HK1.out hb2; have hc : w.heap.size + 2 ≤ w2.heap.size := lt_of_block q.res) | (have q := Boxes.below HK2.out hb2; have q4 := HO.out w2 hb2; obtain ⟨o3, o4, o5, o6, oz⟩ := ent_cells (e := En.zero) q4; have oz0 := oz 0; have oz1 := oz 1; have oz2 := oz 2; have oz3 := oz 3; have hc : w.heap.size + 2 ≤ w1.heap.size := Nat.le_of_eq HZ.out.symm)))
    · have hv : (w2.alloc (.cells #[.string e.key, .int .i64 e.seq, .bool false, .string ⟨#[]⟩] 28)).heap[w2.heap.size]? = some (entObj ⟨e.key, e.seq, false, ⟨#[]⟩⟩) := heap_alloc_new w2 _
      have hq := q.alloc (.cells #[.string e.key, .int .i64 e.seq, .bool false, .string ⟨#[]⟩] 28)
      clear q hb2
      generalize w2.alloc (.cells #[.string e.key, .int .i64 e.seq, .bool false, .string ⟨#[]⟩] 28) = W at *
      generalize w2.heap.size = vb at *
      obtain ⟨r0, r1, r2, r3⟩ := hq.cells
      rw [hd] at r2
      have HV : Hid (∀ w4, Below W.heap.size W w4 → w4.heap[vb]? = some (entObj ⟨e.key, e.seq, false, ⟨#[]⟩⟩) ∧ Boxes w e w4) := fun w4 h4 => ⟨(h4.block _ (lt_of_block hv)).trans hv, hq.below h4⟩
      clear hq hv
      go_wp2_with fail
      refine (HD.out _).mono ?_
      rintro r w3 ⟨rfl, hb3⟩
      obtain ⟨hv3, hq3⟩ := HV.out w3 hb3
      obtain ⟨v0, v1, v2, v3, vz⟩ := ent_cells hv3
      have vz3 := vz 3
      have hvs := Joins.block_setCell (show w3.heap[vb]? = some (.cells #[.string e.key, .int .i64 e.seq, .bool false, .string ⟨#[]⟩] 28 (0, 0)) from hv3) (i := 3) (.string e.val)
      have hv4 : (w3.setCell ⟨vb, 3, none⟩ (.string e.val)).heap[vb]? = some (entObj ⟨e.key, e.seq, false, e.val⟩) := hvs
      have hq4 := hq3.set (i := 3) (v := .string e.val) hc
      obtain ⟨u0, u1, u2, u3, _⟩ := ent_cells hv4
      obtain ⟨a0, a1, a2, a3, az⟩ := ent_cells (e := En.zero) hq4.res
      have z0 := az 0
      have z1 := az 1
      have z2 := az 2
      have z3 := az 3
      obtain ⟨g0, g1, g2, g3⟩ := ent_set (e := En.zero) hq4.res e.key e.seq false e.val
      have HB : Hid (Below w.heap.size w ((((w3.setCell ⟨vb, 3, none⟩ (.string e.val)).setCell ⟨w.heap.size + 1, 0, none⟩ (.string e.key)).setCell ⟨w.heap.size + 1, 1, none⟩ (.int .i64 e.seq)).setCell ⟨w.heap.size + 1, 2, none⟩ (.bool false) |>.setCell ⟨w.heap.size + 1, 3, none⟩ (.string e.val))) := (((hq4.bel.setCell (by simp) _).setCell (by simp) _).setCell (by simp) _).setCell (by simp) _
      clear hq3 hv3 hvs hv4 hq4 hb3 az vz HV
      go_wp2
      refine bodyPost_ret (by simp [results, Try.results20, go_sem, g0, g1, g2, g3]; try rfl) rfl ?_
      exact ⟨by simp [clean, hd], HB.out⟩
    · have hv : ((((w2.setCell ⟨w1.heap.size, 0, none⟩ (.string e.key)).setCell ⟨w1.heap.size, 1, none⟩ (.int .i64 e.seq)).setCell ⟨w1.heap.size, 2, none⟩ (.bool false)).setCell ⟨w1.heap.size, 3, none⟩ (.string ⟨#[]⟩)).heap[w1.heap.size]? = some (entObj ⟨e.key, e.seq, false, ⟨#[]⟩⟩) := by
        rw [Joins.block_setCell (Joins.block_setCell (Joins.block_setCell (Joins.block_setCell (show w2.heap[w1.heap.size]? = some (.cells #[.string ⟨#[]⟩, .int .i64 0, .bool false, .string ⟨#[]⟩] 28 (0, 0)) from q4) _) _) _)]
        rfl
      have hq := (((q.set (i := 0) (v := .string e.key) hc).set (i := 1) (v := .int .i64 e.seq) hc).set (i := 2) (v := .bool false) hc).set (i := 3) (v := .string ⟨#[]⟩) hc
      clear q hb2 q4 o3 o4 o5 o6 oz oz0 oz1 oz2 oz3
      generalize (((w2.setCell ⟨w1.heap.size, 0, none⟩ (.string e.key)).setCell ⟨w1.heap.size, 1, none⟩ (.int .i64 e.seq)).setCell ⟨w1.heap.size, 2, none⟩ (.bool false)).setCell ⟨w1.heap.size, 3, none⟩ (.string ⟨#[]⟩) = W at *
      clear HO HK1 HK2 e0 e1 e2 e3 HZ
      generalize w1.heap.size = vb at *
      obtain ⟨r0, r1, r2, r3⟩ := hq.cells
      rw [hd] at r2
      have HV : Hid (∀ w4, Below W.heap.size W w4 → w4.heap[vb]? = some (entObj ⟨e.key, e.seq, false, ⟨#[]⟩⟩) ∧ Boxes w e w4) := fun w4 h4 => ⟨(h4.block _ (lt_of_block hv)).trans hv, hq.below h4⟩
      clear hq hv
      go_wp2_with fail
      refine (HD.out _).mono ?_
      rintro r w3 ⟨rfl, hb3⟩
      obtain ⟨hv3, hq3⟩ := HV.out w3 hb3
      obtain ⟨v0, v1, v2, v3, vz⟩ := ent_cells hv3
      have vz3 := vz 3
      have hvs := Joins.block_setCell (show w3.heap[vb]? = some (.cells #[.string e.key, .int .i64 e.seq, .bool false, .string ⟨#[]⟩] 28 (0, 0)) from hv3) (i := 3) (.string e.val)
      have hv4 : (w3.setCell ⟨vb, 3, none⟩ (.string e.val)).heap[vb]? = some (entObj ⟨e.key, e.seq, false, e.val⟩) := hvs
      have hq4 := hq3.set (i := 3) (v := .string e.val) hc
      obtain ⟨u0, u1, u2, u3, _⟩ := ent_cells hv4
      obtain ⟨a0, a1, a2, a3, az⟩ := ent_cells (e := En.zero) hq4.res
      have z0 := az 0
      have z1 := az 1
      have z2 := az 2
      have z3 := az 3
      obtain ⟨g0, g1, g2, g3⟩ := ent_set (e := En.zero) hq4.res e.key e.seq false e.val
      have HB : Hid (Below w.heap.size w ((((w3.setCell ⟨vb, 3, none⟩ (.string e.val)).setCell ⟨w.heap.size + 1, 0, none⟩ (.string e.key)).setCell ⟨w.heap.size + 1, 1, none⟩ (.int .i64 e.seq)).setCell ⟨w.heap.size + 1, 2, none⟩ (.bool false) |>.setCell ⟨w.heap.size + 1, 3, none⟩ (.string e.val))) := (((hq4.bel.setCell (by simp) _).setCell (by simp) _).setCell (by simp) _).setCell (by simp) _
      clear hq3 hv3 hvs hv4 hq4 hb3 az vz HV
      go_wp2
      refine bodyPost_ret (by simp [results, Try.results20, go_sem, g0, g1, g2, g3]; try rfl) rfl ?_
      exact ⟨by simp [clean, hd], HB.out⟩
  · rw [hd] at e2 hw1
    clear k1 hO
    go_enter Try.func20, Try.ntmps20
    go_wp2_with fail
    rw [← hw1]
    clear hw1
    go_region_held3 (fun w' => w'.cell? ⟨w.heap.size, 0, none⟩ = some (.string e.key) ∧ w'.cell? ⟨w.heap.size, 1, none⟩ = some (.int .i64 e.seq) ∧ w'.cell? ⟨w.heap.size, 2, none⟩ = some (.bool true)) (first | with_reducible exact ⟨by assumption, by assumption, by assumption⟩ | (refine Boxes.three ?_ hd; with_reducible first | exact HK2.out | exact HK1.out | exact q | exact q.alloc _ | exact (((q.set hc).set hc).set hc).set hc | exact ((((q.alloc _).set hc).set hc).set hc).set hc))
      ((go_at_call 44; refine (HC.out _).mono ?_; rintro r w2 ⟨rfl, hb2⟩; first | (have q := Boxes.below HK1.out hb2; have hc : w.heap.size + 2 ≤ w2.heap.size := lt_of_block q.res) | (have q := Boxes.below HK2.out hb2; have q4 := HO.out w2 hb2; obtain ⟨o3, o4, o5, o6, oz⟩ := ent_cells (e := En.zero) q4; have oz0 := oz 0; have oz1 := oz 1; have oz2 := oz 2; have oz3 := oz 3; have hc : w.heap.size + 2 ≤ w1.heap.size := Nat.le_of_eq HZ.out.symm)))
    · have hv : (w2.alloc (.cells #[.string e.key, .int .i64 e.seq, .bool true, .string ⟨#[]⟩] 28)).heap[w2.heap.size]? = some (entObj ⟨e.key, e.seq, true, ⟨#[]⟩⟩) := heap_alloc_new w2 _
      have hq := q.alloc (.cells #[.string e.key, .int .i64 e.seq, .bool true, .string ⟨#[]⟩] 28)
      clear q hb2
      generalize w2.alloc (.cells #[.string e.key, .int .i64 e.seq, .bool true, .string ⟨#[]⟩] 28) = W at *
      generalize w2.heap.size = vb at *
      obtain ⟨r0, r1, r2, r3⟩ := hq.cells
      rw [hd] at r2
      obtain ⟨v0, v1, v2, v3, _⟩ := ent_cells hv
      obtain ⟨a0, a1, a2, a3, az⟩ := ent_cells (e := En.zero) hq.res
      have z0 := az 0
      have z1 := az 1
      have z2 := az 2
      have z3 := az 3
      obtain ⟨g0, g1, g2, g3⟩ := ent_set (e := En.zero) hq.res e.key e.seq true ⟨#[]⟩
      have HB : Hid (Below w.heap.size w (((W.setCell ⟨w.heap.size + 1, 0, none⟩ (.string e.key)).setCell ⟨w.heap.size + 1, 1, none⟩ (.int .i64 e.seq)).setCell ⟨w.heap.size + 1, 2, none⟩ (.bool true) |>.setCell ⟨w.heap.size + 1, 3, none⟩ (.string ⟨#[]⟩))) := (((hq.bel.setCell (by simp) _).setCell (by simp) _).setCell (by simp) _).setCell (by simp) _
      clear hq hv az
      go_wp2
      refine bodyPost_ret (by simp [results, Try.results20, go_sem, g0, g1, g2, g3]; try rfl) rfl ?_
      exact ⟨by simp [clean, hd], HB.out⟩
    · have hv : ((((w2.setCell ⟨w1.heap.size, 0, none⟩ (.string e.key)).setCell ⟨w1.heap.size, 1, none⟩ (.int .i64 e.seq)).setCell ⟨w1.heap.size, 2, none⟩ (.bool true)).setCell ⟨w1.heap.size, 3, none⟩ (.string ⟨#[]⟩)).heap[w1.heap.size]? = some (entObj ⟨e.key, e.seq, true, ⟨#[]⟩⟩) := by
        rw [Joins.block_setCell (Joins.block_setCell (Joins.block_setCell (Joins.block_setCell (show w2.heap[w1.heap.size]? = some (.cells #[.string ⟨#[]⟩, .int .i64 0, .bool false, .string ⟨#[]⟩] 28 (0, 0)) from q4) _) _) _)]
        rfl
      have hq := (((q.set (i := 0) (v := .string e.key) hc).set (i := 1) (v := .int .i64 e.seq) hc).set (i := 2) (v := .bool true) hc).set (i := 3) (v := .string ⟨#[]⟩) hc
      clear q hb2 q4 o3 o4 o5 o6 oz oz0 oz1 oz2 oz3
      generalize (((w2.setCell ⟨w1.heap.size, 0, none⟩ (.string e.key)).setCell ⟨w1.heap.size, 1, none⟩ (.int .i64 e.seq)).setCell ⟨w1.heap.size, 2, none⟩ (.bool true)).setCell ⟨w1.heap.size, 3, none⟩ (.string ⟨#[]⟩) = W at *
      clear HO HK1 HK2 e0 e1 e2 e3 HZ
      generalize w1.heap.size = vb at *
      obtain ⟨r0, r1, r2, r3⟩ := hq.cells
      rw [hd] at r2
      obtain ⟨v0, v1, v2, v3, _⟩ := ent_cells hv
      obtain ⟨a0, a1, a2, a3, az⟩ := ent_cells (e := En.zero) hq.res
      have z0 := az 0
      have z1 := az 1
      have z2 := az 2
      have z3 := az 3
      obtain ⟨g0, g1, g2, g3⟩ := ent_set (e := En.zero) hq.res e.key e.seq true ⟨#[]⟩
      have HB : Hid (Below w.heap.size w (((W.setCell ⟨w.heap.size + 1, 0, none⟩ (.string e.key)).setCell ⟨w.heap.size + 1, 1, none⟩ (.int .i64 e.seq)).setCell ⟨w.heap.size + 1, 2, none⟩ (.bool true) |>.setCell ⟨w.heap.size + 1, 3, none⟩ (.string ⟨#[]⟩))) := (((hq.bel.setCell (by simp) _).setCell (by simp) _).setCell (by simp) _).setCell (by simp) _
      clear hq hv az
      go_wp2
      refine bodyPost_ret (by simp [results, Try.results20, go_sem, g0, g1, g2, g3]; try rfl) rfl ?_
      exact ⟨by simp [clean, hd], HB.out⟩
end Go.Proofs.Ytdaibmafnamfgaa.Mm
