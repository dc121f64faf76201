/-
  Package manifest: what the frames of a text come to.
-/
import Derived.Test.YtjfanbemihheiaaGreatDoorQManFrame
namespace Go.Proofs.YtjfanbemihheiaaGreatDoor.Ma
open Go.RowKit Cm
set_option linter.unusedVariables false

/-- How far a reading has come: the version, the place. -/
structure Came (l : List UInt8) (v : Ve) (n : Nat) : Prop where
  way : ∃ es rest, Way l v n es rest
theorem Came.start (l : List UInt8) : Came l Ve.zero 0 := ⟨[], l, Way.start l⟩
theorem Came.step {l : List UInt8} {v u : Ve} {n m : Nat} (h : Came l v n) (k : Steps l n v m u) : Came l u m ∧ n < m := by
  obtain ⟨es, rest, hw⟩ := h.way
  obtain ⟨p, r, d, hp, hl, ht, rfl⟩ := k
  refine ⟨⟨es ++ [d], r, hw.next hp ?_ ht⟩, by omega⟩
  rw [← hw.drop.1]; exact hl
theorem Came.stop {l : List UInt8} {v : Ve} {n : Nat} (h : Came l v n) (k : Stops l n v) : Comes l v n := by
  obtain ⟨es, rest, hw⟩ := h.way
  refine hw.stop fun p r d u hp hr ht => k p r d u hp ?_ ht
  rw [hw.drop.1]; exact hr
theorem Came.le {l : List UInt8} {v : Ve} {n : Nat} (h : Came l v n) : n ≤ l.length := by
  obtain ⟨es, rest, hw⟩ := h.way
  exact hw.drop.2.2
theorem Came.files {l : List UInt8} {v : Ve} {n : Nat} (h : Came l v n) : ∀ f ∈ v.files, OkF f := by
  obtain ⟨es, rest, hw⟩ := h.way
  exact app_ok hw.led (fun f hf => by cases hf) (fun e he => (hw.eds e he).1.ok.add)
/-- What Read answers. -/
def ReadAns (w : World) (l : List UInt8) (x : Ending) (w' : World) : Prop :=
  ∃ v n ao cap, Comes l v n ∧ x = .returned (.tuple #[veV (.slice ao v.sort.files.length cap) v.sort, .int .i64 ((n : Nat) : Int)]) ∧ VerAt w' w.heap.size (.slice ao v.sort.files.length cap) v.sort ∧ Below w.heap.size w w' ∧ v.files.length ≤ l.length
set_option maxRecDepth 100000 in
set_option maxHeartbeats 2000000 in
theorem read_any (T : ByteArray) (w : World) (hT : T.size ≤ 10000000000) : Calls Tryz.prog 11 #[.string T] w (ReadAns w T.data.toList) := by
  obtain ⟨w1, hw1⟩ : ∃ w1, w1 = w.alloc (veObj (.slice none 0 0) Ve.zero) := ⟨_, rfl⟩
  have hb1 : Below w.heap.size w w1 := by rw [hw1]; exact (Below.refl _ _).alloc (Nat.le_refl _) _
  have hs1 : w1.heap.size = w.heap.size + 1 := by rw [hw1]; simp
  have HX1 : Hid (w1.heap[w.heap.size]? = some (veObj (.slice none 0 0) Ve.zero)) := by show _ = _; rw [hw1]; exact heap_alloc_new w _
  have HB1 : Hid (Below w.heap.size w w1) := hb1
  have HS1 : Hid (w1.heap.size = w.heap.size + 1) := hs1
  have HSv : Hid _ := shelve_any none 0 Ve.zero w1 (.inl rfl) (fun f hf => by cases hf) (Nat.zero_le _)
  have HTl : Hid (T.data.toList.length = T.size) := by show _ = _; rw [← Lib.size_eq]
  have hw1' : w.alloc (.cells #[.slice none 0 0, .int .i64 0, .int .i64 0, .int .i64 0] 26) = w1 := hw1.symm
  unfold veV Ve.zero at HSv
  clear hb1 hs1 hw1
  go_enter Tryz.func11, Tryz.ntmps11
  go_wp2_with fail
  refine (show Calls _ _ _ _ _ from HSv.out).mono ?_
  rintro x w2 ⟨q, rfl, hsh, hb2⟩
  have HSh2 : Hid (ShB w2 w1.heap.size q Ve.zero 0) := hsh
  have HB2 : Hid (Below w1.heap.size w1 w2) := hb2
  clear hsh hb2 HSv hw1'
  go_wp2
  go_loopw [5] (fun at_ wr => ∃ (n : Nat) (v : Ve) (c : Nat), at_ = .int .i64 n ∧ n ≤ T.size ∧ c ≤ n ∧ v.files.length ≤ n ∧ Hid (ShB wr w1.heap.size q v c) ∧ Hid (Below w1.heap.size w1 wr) ∧ Hid (Came T.data.toList v n)) (fun at_ _ => T.size - (intOf at_).toNat)
  case atStart => exact ⟨0, Ve.zero, 0, rfl, by omega, by omega, Nat.zero_le _, HSh2, HB2, Came.start _⟩
  case round =>
    clear HSh2 HB2
    obtain ⟨n, v, c, rfl, hnT, hcn, hvn, HSh, HB, HG⟩ := hrel
    have HTf : Hid _ := takeFrame_any w1.heap.size q c v T n wr HSh.out HB.out.size hT hnT (by omega) (by omega)
    go_wp2_with fail
    refine (show Calls _ _ _ _ _ from HTf.out).mono ?_
    rintro x w3 ⟨hb3, hs3, ⟨m, u, k, hst, hk, hu, rfl, hsh3⟩ | ⟨hst, rfl, hsh3⟩⟩
    · obtain ⟨hg, hlt⟩ := HG.out.step hst
      have hle := hg.le
      have HSh3 : Hid (ShB w3 w1.heap.size q u (c + k)) := hsh3
      have HB3 : Hid (Below w1.heap.size w1 w3) := HB.out.trans hb3
      have HG3 : Hid (Came T.data.toList u m) := hg
      have hmT : m ≤ T.size := by have := HTl.out; omega
      clear hb3 hs3 hst hsh3 hg hle HTf HSh HB HG
      go_wp2
      go_roundw
      case rel => exact ⟨m, u, c + k, rfl, hmT, by omega, by omega, HSh3, HB3, HG3⟩
      case measure => simp [intOf]; omega
    · have HC : Hid (Comes T.data.toList v n) := HG.out.stop hst
      have HB3 : Hid (Below w1.heap.size w1 w3) := HB.out.trans hb3
      have HVe : Hid _ := version_any (fun k => w1.heap.size ≤ k) q v c w3 hsh3 (by omega) (by omega) HG.out.files
      clear hb3 hs3 hst hsh3 HTf HSh HB HG
      go_wp2_with fail
      refine (show Calls _ _ _ _ _ from HVe.out).mono ?_
      rintro x w5 ⟨f, rfl, hfr, hb5⟩
      have hb25 : Below w1.heap.size w1 w5 := HB3.out.trans (hb5.mono HB3.out.size)
      have hbx : w5.heap[w.heap.size]? = some (veObj (.slice none 0 0) Ve.zero) := (hb25.block _ (by have := HS1.out; omega)).trans HX1.out
      obtain ⟨x0, x1, x2, x3, xf⟩ := ve_cells hbx
      have xf0 := xf 0
      have xf1 := xf 1
      have xf2 := xf 2
      have xf3 := xf 3
      obtain ⟨p6, c6, rfl⟩ := form_any hfr
      have HSet : Hid _ := ve_set hbx (.slice p6 v.sort.files.length c6) (.int .i64 v.sort.wal) (.int .i64 v.sort.next) (.int .i64 v.sort.seq)
      have hwe : ReadAns w T.data.toList (.returned (.tuple #[veV (.slice p6 v.sort.files.length c6) v.sort, .int .i64 n])) ((((w5.setCell ⟨w.heap.size, 0, none⟩ (.slice p6 v.sort.files.length c6)).setCell ⟨w.heap.size, 1, none⟩ (.int .i64 v.sort.wal)).setCell ⟨w.heap.size, 2, none⟩ (.int .i64 v.sort.next)).setCell ⟨w.heap.size, 3, none⟩ (.int .i64 v.sort.seq)) := by
        refine ⟨v, n, p6, c6, HC.out, rfl, ?_, ((((HB1.out.trans (hb25.mono HB1.out.size)).setCell (Nat.le_refl _) _).setCell (Nat.le_refl _) _).setCell (Nat.le_refl _) _).setCell (Nat.le_refl _) _, by have := HTl.out; omega⟩
        unfold VerAt at hfr ⊢
        have h1 := HB3.out.size
        have h2 := HS1.out
        refine rows_keep (Joins.ownsRow_le hfr (by omega)) fun g hg => ?_
        have hgw : g ≠ w.heap.size := by have := (World.ownsRow.lt hfr g hg).1; omega
        rw [Below.heap_setCell _ _ _ _ (by simpa using hgw), Below.heap_setCell _ _ _ _ (by simpa using hgw), Below.heap_setCell _ _ _ _ (by simpa using hgw), Below.heap_setCell _ _ _ _ (by simpa using hgw)]
      have HWe : Hid _ := hwe
      unfold veV
      clear hwe hb5 hb25 xf hbx hfr HVe HC
      simp only [Ve.zero] at x1 x2 x3
      generalize v.sort.files.length = l6 at *
      go_wp2
      obtain ⟨z0, z1, z2, z3⟩ := HSet.out _ rfl
      refine bodyPost_ret (v := .tuple #[.agg #[.slice p6 l6 c6, .int .i64 v.sort.wal, .int .i64 v.sort.next, .int .i64 v.sort.seq], .int .i64 n]) (by simp [results, Tryz.results11, go_sem, z0, z1, z2, z3]) rfl ?_
      exact HWe.out
end Go.Proofs.YtjfanbemihheiaaGreatDoor.Ma
