/-
  The reference's comparison of edits: like lists are the same.
-/
import Derived.Test.YtjfanbemihheiaaGreatDoorQManSame
import Derived.Test.YtjfanbemihheiaaGreatDoorQManRight
namespace Go.Proofs.YtjfanbemihheiaaGreatDoor.Ma
open Go.RowKit Cm
set_option linter.unusedVariables false

set_option maxRecDepth 100000 in
set_option maxHeartbeats 2000000 in
theorem sameInts_any (ao bo : Option Addr) (ca cb : Nat) (xs : List Int) (w : World) (ha : CellsAt w ao (xs.map (Value.int .i64))) (hb : CellsAt w bo (xs.map (Value.int .i64))) (hlen : xs.length ≤ 140737488351232) :
    Calls Tryz.prog 44 #[.slice ao xs.length ca, .slice bo xs.length cb] w fun e w' => e = .returned (.bool true) ∧ ∃ n, w' = w.drewN n := by
  go_enter Tryz.func44, Tryz.ntmps44
  go_wp2
  go_loopw [13] (fun i wr => ∃ k m : Nat, k ≤ xs.length ∧ i = .int .i64 k ∧ Hid (wr = w.drewN m)) (fun i _ => xs.length - (intOf i).toNat)
  case atStart => exact ⟨0, 0, by omega, rfl, rfl⟩
  case round =>
    obtain ⟨k, m, hk, rfl, HW⟩ := hrel
    by_cases hlt : k < xs.length
    · have hwr := HW.out
      subst hwr
      clear HW
      have hl : k < (xs.map (Value.int .i64)).length := by simpa using hlt
      have hx : (xs.map (Value.int .i64))[k]? = some (.int .i64 (xs.getD k 0)) := by simp [hlt]
      rcases ha with h0 | ⟨b1, o1, rfl, _, hc1⟩
      · rw [h0] at hl; simp at hl
      rcases hb with h0 | ⟨b2, o2, rfl, _, hc2⟩
      · rw [h0] at hl; simp at hl
      have hd1 := hc1 k hl
      have hd2 := hc2 k hl
      rw [hx] at hd1 hd2
      generalize xs.getD k 0 = x at *
      have hk0 : (0 : Int) ≤ (k : Int) := by omega
      have hk1 : (k : Int) < (xs.length : Int) := by omega
      clear hc1 hc2 hx hl
      go_wp2
      go_quiet (fail)
      go_wp2
      go_roundw
      case rel => exact ⟨k + 1, _, by omega, by go_num, hid_rfl⟩
      case measure => simp [intOf]; omega
    · go_wp2
      go_ret
      exact ⟨rfl, m, HW.out⟩
set_option maxRecDepth 100000 in
set_option maxHeartbeats 2000000 in
theorem sameEdit_any (aa ab ad bd : Option Addr) (ca cb cd dd : Nat) (e : Ed) (w : World) (ha : ElemsAt fiShape w aa e.add) (hb : ElemsAt fiShape w ab e.add) (hd : CellsAt w ad (e.del.map (Value.int .i64))) (hd' : CellsAt w bd (e.del.map (Value.int .i64))) (hlen : e.add.length + e.del.length ≤ 100000000000) :
    Calls Tryz.prog 15 #[edV (.slice aa e.add.length ca) (.slice ad e.del.length cd) e, edV (.slice ab e.add.length cb) (.slice bd e.del.length dd) e] w fun x w' => x = .returned (.bool true) ∧ Below w.heap.size w w' := by
  obtain ⟨m, hm⟩ : ∃ m, m = e.add.length := ⟨_, rfl⟩
  obtain ⟨n, hn⟩ : ∃ n, n = e.del.length := ⟨_, rfl⟩
  obtain ⟨w2, hw2⟩ : ∃ w2, w2 = (w.alloc (edObj (.slice aa m ca) (.slice ad n cd) e)).alloc (edObj (.slice ab m cb) (.slice bd n dd) e) := ⟨_, rfl⟩
  have hb2 : Below w.heap.size w w2 := by rw [hw2]; exact ((Below.refl _ _).alloc (Nat.le_refl _) _).alloc (by simp) _
  have hx : w2.heap[w.heap.size]? = some (edObj (.slice aa m ca) (.slice ad n cd) e) := by rw [hw2]; exact (Below.heap_alloc _ _ _ (by simp)).trans (heap_alloc_new w _)
  have hy : w2.heap[w.heap.size + 1]? = some (edObj (.slice ab m cb) (.slice bd n dd) e) := by
    have := heap_alloc_new (w.alloc (edObj (.slice aa m ca) (.slice ad n cd) e)) (edObj (.slice ab m cb) (.slice bd n dd) e)
    rw [World.size_alloc] at this
    rw [hw2]; exact this
  have HF : Hid _ := sameFiles_any aa ab ca cb e.add w2 (ha.later hb2) (hb.later hb2) (by omega)
  have HI : Hid (∀ k, Calls Tryz.prog 44 #[.slice ad e.del.length cd, .slice bd e.del.length dd] (w2.drewN k) fun x w' => x = .returned (.bool true) ∧ ∃ n, w' = (w2.drewN k).drewN n) := fun k => sameInts_any ad bd cd dd e.del (w2.drewN k) (CellsAt.drew (hd.below hb2)) (CellsAt.drew (hd'.below hb2)) (by omega)
  rw [← hm] at HF ⊢
  rw [← hn] at HI ⊢
  have HX : Hid (w2.heap[w.heap.size]? = some (edObj (.slice aa m ca) (.slice ad n cd) e)) := hx
  have HY : Hid (w2.heap[w.heap.size + 1]? = some (edObj (.slice ab m cb) (.slice bd n dd) e)) := hy
  obtain ⟨x0, x1, x2, x3, x4⟩ := ed_cells hx
  obtain ⟨y0, y1, y2, y3, y4⟩ := ed_cells hy
  have HB2 : Hid (Below w.heap.size w w2) := hb2
  have hw2' : (w.alloc (.cells #[.slice aa m ca, .slice ad n cd, .int .i64 e.wal, .int .i64 e.next, .int .i64 e.seq] 30)).alloc (.cells #[.slice ab m cb, .slice bd n dd, .int .i64 e.wal, .int .i64 e.next, .int .i64 e.seq] 30) = w2 := hw2.symm
  unfold edV
  clear ha hb hd hd' hlen hm hn hb2 hx hy hw2
  go_enter Tryz.func15, Tryz.ntmps15
  go_wp2_with fail
  refine (show Calls _ _ _ _ _ from HF.out).mono ?_
  rintro x w3 ⟨rfl, k, hk⟩
  have HI3 : Hid _ := HI.out k
  rw [← hk] at HI3
  have hx : w3.heap[w.heap.size]? = some (edObj (.slice aa m ca) (.slice ad n cd) e) := by rw [hk]; exact HX.out
  have hy : w3.heap[w.heap.size + 1]? = some (edObj (.slice ab m cb) (.slice bd n dd) e) := by rw [hk]; exact HY.out
  have HB3 : Hid (Below w.heap.size w w3) := by show Below _ _ _; rw [hk]; exact ⟨HB2.out.os, HB2.out.tape, HB2.out.output, HB2.out.size, HB2.out.block⟩
  have HX3 : Hid (w3.heap[w.heap.size]? = some (edObj (.slice aa m ca) (.slice ad n cd) e)) := hx
  have HY3 : Hid (w3.heap[w.heap.size + 1]? = some (edObj (.slice ab m cb) (.slice bd n dd) e)) := hy
  clear x0 x1 x2 x3 x4 y0 y1 y2 y3 y4 hk HF HI hw2' HX HY
  obtain ⟨x0, x1, x2, x3, x4⟩ := ed_cells hx
  obtain ⟨y0, y1, y2, y3, y4⟩ := ed_cells hy
  clear hx hy
  go_wp2_with fail
  refine (show Calls _ _ _ _ _ from HI3.out).mono ?_
  rintro x w4 ⟨rfl, k, hk⟩
  have hx : w4.heap[w.heap.size]? = some (edObj (.slice aa m ca) (.slice ad n cd) e) := by rw [hk]; exact HX3.out
  have hy : w4.heap[w.heap.size + 1]? = some (edObj (.slice ab m cb) (.slice bd n dd) e) := by rw [hk]; exact HY3.out
  have HB4 : Hid (Below w.heap.size w w4) := by show Below _ _ _; rw [hk]; exact ⟨HB3.out.os, HB3.out.tape, HB3.out.output, HB3.out.size, HB3.out.block⟩
  clear x0 x1 x2 x3 x4 y0 y1 y2 y3 y4 hk HI3
  obtain ⟨x0, x1, x2, x3, x4⟩ := ed_cells hx
  obtain ⟨y0, y1, y2, y3, y4⟩ := ed_cells hy
  clear hx hy
  have e1 : (e.wal == e.wal) = true := by simp
  have e2 : (e.next == e.next) = true := by simp
  have e3 : (e.seq == e.seq) = true := by simp
  go_wp2
  go_ret
  exact ⟨rfl, HB4.out⟩
end Go.Proofs.YtjfanbemihheiaaGreatDoor.Ma
