/-
  Package mem: its small calls.
-/
import Derived.Test.YtdaibmafnamfgaaMemGrow
import Derived.Deep.RegionHeld3
import Derived.BigQuiet
import Derived.Deep.RegionWith
namespace Go.Proofs.Ytdaibmafnamfgaa.Mm
open Go.RowKit Cm
set_option linter.unusedVariables false

theorem tab_cells {w : World} {b n m hb turn : Nat} {hv : Value} (h : w.heap[b]? = some (tabObj n m hb hv turn)) : w.cell? ⟨b, 0, none⟩ = some (.int .i64 n) ∧ w.cell? ⟨b, 1, none⟩ = some (.int .i64 m) ∧ w.cell? ⟨b, 7, none⟩ = some hv ∧ w.cell? ⟨b, 8, none⟩ = some (.int .i64 turn) ∧ ∀ i, w.frozen? ⟨b, i, none⟩ = false := by
  refine ⟨?_, ?_, ?_, ?_, fun i => by simp [World.frozen?, h, tabObj]⟩ <;> rw [Joins.cell_of_block h] <;> rfl

set_option maxRecDepth 100000 in
theorem ahead_any (n : Nd) (rest : List Nd) (k : ByteArray) (s : Int) (w : World) (h : NodeAt w n rest) :
    Calls Try.prog 53 #[.pointer (some ⟨n.blk, 0, none⟩), .string k, .int .i64 s] w fun e w' => e = .returned (.bool (n.e.ahead k s)) ∧ w' = w := by
  obtain ⟨c0, c1, _, _, _⟩ := h.cells
  clear h
  generalize n.blk = B at *
  generalize n.e = E at *
  have hb := beq_toList E.key k
  by_cases hk : E.key = k
  · rw [decide_eq_true hk] at hb
    have hq : E.ahead k s = decide (s < E.seq) := by unfold En.ahead; rw [if_pos hk]
    rw [hq]
    clear hk hq
    generalize E.key = K at *
    go_enter Try.func53, Try.ntmps53
    go_wp2
    go_ret
    exact ⟨rfl, rfl⟩
  · rw [decide_eq_false hk] at hb
    have hq : E.ahead k s = Op.bytesLess E.key.toList k.toList := by unfold En.ahead; rw [if_neg hk]; rfl
    rw [hq]
    clear hk hq
    generalize E.key = K at *
    go_enter Try.func53, Try.ntmps53
    go_wp2
    go_ret
    exact ⟨rfl, rfl⟩
set_option maxRecDepth 100000 in
theorem size_any (e : En) (w : World) (hs : sizeE e ≤ 1000000000000) : Calls Try.prog 54 #[env e] w fun r w' => r = .returned (.int .i64 (sizeE e : Nat)) ∧ w' = w.alloc (entObj e) := by
  unfold env sizeE entObj at *
  go_enter Try.func54, Try.ntmps54
  go_wp2
  go_ret
  exact ⟨by go_num, rfl⟩
set_option maxRecDepth 100000 in
set_option maxHeartbeats 500000 in
theorem comes_any (b n m hb turn : Nat) (hv : Value) (e : En) (w : World) (h : w.heap[b]? = some (tabObj n m hb hv turn)) (hs : sizeE e ≤ 1000000000000) (hn : n ≤ 1000000000000) (hm : m ≤ 1000000000000) :
    Calls Try.prog 41 #[.pointer (some ⟨b, 0, none⟩), env e] w fun r w' => r = .returned (.tuple #[]) ∧ w'.heap[b]? = some (tabObj (n + 1) (m + sizeE e) hb hv turn) ∧ Chg (fun k => k = b) w w' := by
  obtain ⟨c0, c1, _, _, fz⟩ := tab_cells h
  have f0 := fz 0
  have hlt := lt_of_block h
  obtain ⟨w1, hw1⟩ : ∃ w1, w1 = (w.setCell ⟨b, 0, none⟩ (.int .i64 ((n : Int) + 1))).alloc (entObj e) := ⟨_, rfl⟩
  have hC : Chg (fun k => k = b) w w1 := by rw [hw1]; exact (Chg.set (S := fun k => k = b) _ _ _ _ rfl).then (Chg.alloc _ _ _)
  have h1 : w1.heap[b]? = some (tabObj (n + 1) m hb hv turn) := by
    rw [hw1, Below.heap_alloc _ _ b (by simpa [World.setCell] using hlt), Joins.block_setCell h]
    rfl
  have h2 : w1.heap[w.heap.size]? = some (entObj e) := by
    rw [hw1]
    have := heap_alloc_new (w.setCell ⟨b, 0, none⟩ (.int .i64 ((n : Int) + 1))) (entObj e)
    simpa [World.setCell] using this
  obtain ⟨_, d1, _, _, fz1⟩ := tab_cells h1
  obtain ⟨e0, e1, e2, e3, _⟩ := ent_cells h2
  have HK : Hid (∀ w2, Below w1.heap.size w1 w2 → w2.heap[b]? = some (tabObj (n + 1) m hb hv turn) ∧ w2.heap[w.heap.size]? = some (entObj e) ∧ Chg (fun k => k = b) w w2) := fun w2 h3 =>
    ⟨(h3.block b (lt_of_block h1)).trans h1, (h3.block _ (lt_of_block h2)).trans h2, hC.then (Chg.of_below h3)⟩
  have g1 := fz1 1
  have HSz : Hid (sizeE e ≤ 1000000000000) := hs
  have hz0 : (0 : Int) ≤ sizeE e := by omega
  unfold entObj at hw1
  have HQ : Hid (∀ w2 : World, Calls Try.prog 54 #[.agg #[.string e.key, .int .i64 e.seq, .bool e.dead, .string e.val]] w2 fun r w' => r = .returned (.int .i64 (sizeE e : Nat)) ∧ Below w2.heap.size w2 w') := fun w2 => (size_any e w2 HSz.out).mono fun r w' hr => ⟨hr.1, by rw [hr.2]; exact (Below.refl _ _).alloc (Nat.le_refl _) _⟩
  unfold env
  generalize sizeE e = z at *
  clear fz fz1 h1 h2 hC h
  go_enter Try.func41, Try.ntmps41
  go_wp2_with fail
  rw [← hw1]
  clear hw1 c0 c1 f0
  go_region_with (go_at_call 54; refine (HQ.out _).mono ?_; rintro r w2 ⟨rfl, hb2⟩; obtain ⟨q1, q2, q3⟩ := HK.out w2 ⟨hb2.os, hb2.tape, hb2.output, hb2.size, hb2.block⟩; obtain ⟨_, p1, _, _, p0⟩ := tab_cells q1; have p2 := p0 1; obtain ⟨p3, p4, p5, p6, _⟩ := ent_cells q2)
  all_goals (go_wp2; go_end0; refine ⟨rfl, ?_, q3.then (Chg.set (S := fun k => k = b) _ _ _ _ rfl)⟩; rw [Joins.block_setCell q1, wrap_nat (n := m + z) (by omega) (by omega)]; rfl)
set_option maxRecDepth 100000 in
set_option maxHeartbeats 500000 in
theorem goes_any (b n m hb turn : Nat) (hv : Value) (e : En) (w : World) (h : w.heap[b]? = some (tabObj (n + 1) (m + sizeE e) hb hv turn)) (hs : sizeE e ≤ 1000000000000) (hn : n ≤ 1000000000000) (hm : m ≤ 1000000000000) :
    Calls Try.prog 42 #[.pointer (some ⟨b, 0, none⟩), env e] w fun r w' => r = .returned (.tuple #[]) ∧ w'.heap[b]? = some (tabObj n m hb hv turn) ∧ Chg (fun k => k = b) w w' := by
  obtain ⟨c0, c1, _, _, fz⟩ := tab_cells h
  have f0 := fz 0
  have hlt := lt_of_block h
  obtain ⟨w1, hw1⟩ : ∃ w1, w1 = (w.setCell ⟨b, 0, none⟩ (.int .i64 (n : Int))).alloc (entObj e) := ⟨_, rfl⟩
  have hC : Chg (fun k => k = b) w w1 := by rw [hw1]; exact (Chg.set (S := fun k => k = b) _ _ _ _ rfl).then (Chg.alloc _ _ _)
  have h1 : w1.heap[b]? = some (tabObj n (m + sizeE e) hb hv turn) := by
    rw [hw1, Below.heap_alloc _ _ b (by simpa [World.setCell] using hlt), Joins.block_setCell h]
    rfl
  have h2 : w1.heap[w.heap.size]? = some (entObj e) := by
    rw [hw1]
    have := heap_alloc_new (w.setCell ⟨b, 0, none⟩ (.int .i64 (n : Int))) (entObj e)
    simpa [World.setCell] using this
  obtain ⟨_, d1, _, _, fz1⟩ := tab_cells h1
  obtain ⟨e0, e1, e2, e3, _⟩ := ent_cells h2
  have HK : Hid (∀ w2, Below w1.heap.size w1 w2 → w2.heap[b]? = some (tabObj n (m + sizeE e) hb hv turn) ∧ w2.heap[w.heap.size]? = some (entObj e) ∧ Chg (fun k => k = b) w w2) := fun w2 h3 =>
    ⟨(h3.block b (lt_of_block h1)).trans h1, (h3.block _ (lt_of_block h2)).trans h2, hC.then (Chg.of_below h3)⟩
  have g1 := fz1 1
  have HSz : Hid (sizeE e ≤ 1000000000000) := hs
  have hz0 : (0 : Int) ≤ sizeE e := by omega
  unfold entObj at hw1
  have HQ : Hid (∀ w2 : World, Calls Try.prog 54 #[.agg #[.string e.key, .int .i64 e.seq, .bool e.dead, .string e.val]] w2 fun r w' => r = .returned (.int .i64 (sizeE e : Nat)) ∧ Below w2.heap.size w2 w') := fun w2 => (size_any e w2 HSz.out).mono fun r w' hr => ⟨hr.1, by rw [hr.2]; exact (Below.refl _ _).alloc (Nat.le_refl _) _⟩
  unfold env
  generalize sizeE e = z at *
  clear fz fz1 h1 h2 hC h
  go_enter Try.func42, Try.ntmps42
  go_wp2_with fail
  rw [← hw1]
  clear hw1 c0 c1 f0
  go_region_with (go_at_call 54; refine (HQ.out _).mono ?_; rintro r w2 ⟨rfl, hb2⟩; obtain ⟨q1, q2, q3⟩ := HK.out w2 ⟨hb2.os, hb2.tape, hb2.output, hb2.size, hb2.block⟩; obtain ⟨_, p1, _, _, p0⟩ := tab_cells q1; have p2 := p0 1; obtain ⟨p3, p4, p5, p6, _⟩ := ent_cells q2)
  all_goals (go_wp2; go_end0; refine ⟨rfl, ?_, q3.then (Chg.set (S := fun k => k = b) _ _ _ _ rfl)⟩; rw [Joins.block_setCell q1, wrap_nat (n := m) (by omega) (by omega)]; rfl)
end Go.Proofs.Ytdaibmafnamfgaa.Mm
