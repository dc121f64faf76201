/-
  ManifestReads: a manifest's text comes to just what its first whole edits make.
-/
import Derived.Test.YtjfanbemihheiaaGreatDoorQManLives
import Derived.Test.YtjfanbemihheiaaGreatDoorQManRefReadM
namespace Go.Proofs.YtjfanbemihheiaaGreatDoor.Ma
open Go.RowKit Cm
set_option linter.unusedVariables false

theorem ver_els {w : World} {B : Nat} {ao : Option Addr} {cap : Nat} {v : Ve} (h : VerAt w B (.slice ao v.files.length cap) v) : ElemsAt fiShape w ao v.files := by
  unfold VerAt at h
  obtain ⟨ao', cap', h1, _, _, _, h4⟩ := own_rows (F := fiShape) h
  cases h1
  exact h4
/-- What is read, without rows. -/
theorem ReadAns.out {w w' : World} {l : List UInt8} {x : Ending} (h : ReadAns w l x w') : ∃ v n ao cap, Comes l v n ∧ x = .returned (.tuple #[veV (.slice ao v.sort.files.length cap) v.sort, .int .i64 ((n : Nat) : Int)]) ∧ ElemsAt fiShape w' ao v.sort.files ∧ Below w.heap.size w w' ∧ v.sort.files.length ≤ l.length := by
  obtain ⟨v, n, ao, cap, h1, h2, h3, h4, h5⟩ := h
  exact ⟨v, n, ao, cap, h1, h2, ver_els h3, h4, by rw [show v.sort.files.length = v.files.length from srt_len _]; exact h5⟩
set_option maxRecDepth 100000 in
set_option maxHeartbeats 4000000 in
theorem reads_law (T : ByteArray) (w : World) (hT : T.size ≤ 10000000) : Calls Tryz.prog 5 #[.string T] w fun x w' => x = .returned (.bool true) ∧ Below w.heap.size w w' := by
  have HTl : Hid (T.data.toList.length = T.size) := by show _ = _; rw [← Lib.size_eq]
  go_enter Tryz.func5, Tryz.ntmps5
  go_wp2_with fail
  refine (lives_any _).mono ?_
  rintro x w1 ⟨rfl, hb1⟩
  have HB1 : Hid (Below w.heap.size w w1) := hb1
  have HRd : Hid _ := read_any T w1 (by omega)
  clear hb1
  go_wp2_with fail
  refine (show Calls _ _ _ _ _ from HRd.out).mono ?_
  rintro x w2 hr
  obtain ⟨v, n, ao, cap, hc, rfl, hel, hb2, hlv⟩ := hr.out
  have hn := hc.again
  have HC : Hid (Comes T.data.toList v n) := hc
  have hnT : n ≤ T.size := by have := hn.1; have := HTl.out; omega
  obtain ⟨lv, hlv2⟩ : ∃ lv, lv = v.sort.files.length := ⟨_, rfl⟩
  have HLv : Hid (lv = v.sort.files.length) := hlv2
  obtain ⟨W2, hW2⟩ : ∃ W2, W2 = w2.alloc (veObj (.slice ao lv cap) v.sort) := ⟨_, rfl⟩
  have hbW : Below w2.heap.size w2 W2 := by rw [hW2]; exact (Below.refl _ _).alloc (Nat.le_refl _) _
  have HB2 : Hid (Below w.heap.size w W2) := HB1.out.trans ((hb2.trans (hbW.mono hb2.size)).mono HB1.out.size)
  have HG2 : Hid (W2.heap[w2.heap.size]? = some (veObj (.slice ao lv cap) v.sort)) := by show _ = _; rw [hW2]; exact heap_alloc_new w2 _
  have HE2 : Hid (ElemsAt fiShape W2 ao v.sort.files) := hel.later hbW
  have hW2' : w2.alloc (.cells #[.slice ao lv cap, .int .i64 v.sort.wal, .int .i64 v.sort.next, .int .i64 v.sort.seq] 26) = W2 := hW2.symm
  have HRd2 : Hid _ := readR_any T W2 (by omega)
  have HLl : Hid (v.sort.files.length ≤ T.size) := by have := HTl.out; show _ ≤ _; omega
  unfold veV
  rw [← hlv2]
  clear hr hc hel hb2 hlv hn hlv2 hW2 hbW HB1 HRd
  go_wp2_with fail
  refine (show Calls _ _ _ _ _ from HRd2.out).mono ?_
  rintro x w3 hr
  obtain ⟨u, m, bo, cup, hc3, rfl, hel3, hb3, _⟩ := hr.out
  obtain ⟨rfl, rfl⟩ := HC.out.unique hc3
  have HB3 : Hid (Below w.heap.size w w3) := HB2.out.trans (hb3.mono HB2.out.size)
  have hg3 := (hb3.block _ (lt_of_block HG2.out)).trans HG2.out
  have he3 := HE2.out.later hb3
  obtain ⟨W3, hW3⟩ : ∃ W3, W3 = w3.alloc (veObj (.slice bo lv cup) v.sort) := ⟨_, rfl⟩
  have hbW : Below w3.heap.size w3 W3 := by rw [hW3]; exact (Below.refl _ _).alloc (Nat.le_refl _) _
  have HB4 : Hid (Below w.heap.size w W3) := HB3.out.trans (hbW.mono HB3.out.size)
  have HG4 : Hid (W3.heap[w2.heap.size]? = some (veObj (.slice ao lv cap) v.sort)) := (hbW.block _ (lt_of_block hg3)).trans hg3
  have HH4 : Hid (W3.heap[w3.heap.size]? = some (veObj (.slice bo lv cup) v.sort)) := by show _ = _; rw [hW3]; exact heap_alloc_new w3 _
  have HE4 : Hid (ElemsAt fiShape W3 ao v.sort.files) := he3.later hbW
  have hsm := same_any ao bo cap cup v.sort W3 HE4.out (hel3.later hbW) (by have := HLl.out; omega)
  rw [← HLv.out] at hsm
  unfold veV at hsm ⊢
  rw [← HLv.out]
  have HSm : Hid _ := hsm
  have hW3' : w3.alloc (.cells #[.slice bo lv cup, .int .i64 v.sort.wal, .int .i64 v.sort.next, .int .i64 v.sort.seq] 26) = W3 := hW3.symm
  obtain ⟨x0, x1, x2, x3, _⟩ := ve_cells HG4.out
  obtain ⟨y0, y1, y2, y3, _⟩ := ve_cells HH4.out
  clear hr hc3 hel3 hb3 hg3 he3 hW3 hbW hsm HRd2 HB2 HG2 HE2 hW2' HB3
  go_wp2_with fail
  refine (show Calls _ _ _ _ _ from HSm.out).mono ?_
  rintro x w5 ⟨rfl, hb5⟩
  have HB5 : Hid (Below w.heap.size w w5) := HB4.out.trans (hb5.mono HB4.out.size)
  have HG5 : Hid (w5.heap[w2.heap.size]? = some (veObj (.slice ao lv cap) v.sort)) := (hb5.block _ (lt_of_block HG4.out)).trans HG4.out
  have HE5 : Hid (ElemsAt fiShape w5 ao v.sort.files) := HE4.out.later hb5
  clear hb5 HSm HB4 HG4 HH4 HE4 hW3' x0 x1 x2 x3 y0 y1 y2 y3
  obtain ⟨S, hS⟩ : ∃ S, S = T.extract 0 n := ⟨_, rfl⟩
  have hSl : S.data.toList = T.data.toList.take n := by rw [hS, Lib.extract_data]; simp
  have hSz : S.size ≤ T.size := by rw [Lib.size_eq, hSl, List.length_take, HTl.out]; omega
  have HSl : Hid (S.data.toList = T.data.toList.take n) := hSl
  have HRd : Hid _ := read_any S w5 (by omega)
  have hS' := hS.symm
  have hn0 : (0 : Int) ≤ (n : Int) := by omega
  have hn1 : (n : Int) ≤ (T.size : Int) := by omega
  clear hS hSl
  go_wp2_with fail
  refine (show Calls _ _ _ _ _ from HRd.out).mono ?_
  rintro x w6 hr
  obtain ⟨u, m, do_, cdp, hc6, rfl, hel6, hb6, _⟩ := hr.out
  rw [HSl.out] at hc6
  obtain ⟨rfl, rfl⟩ := HC.out.again.2.unique hc6
  have HB6 : Hid (Below w.heap.size w w6) := HB5.out.trans (hb6.mono HB5.out.size)
  have hg6 := (hb6.block _ (lt_of_block HG5.out)).trans HG5.out
  have he6 := HE5.out.later hb6
  obtain ⟨W6, hW6⟩ : ∃ W6, W6 = w6.alloc (veObj (.slice do_ lv cdp) v.sort) := ⟨_, rfl⟩
  have hbW : Below w6.heap.size w6 W6 := by rw [hW6]; exact (Below.refl _ _).alloc (Nat.le_refl _) _
  have HB7 : Hid (Below w.heap.size w W6) := HB6.out.trans (hbW.mono HB6.out.size)
  have hg7 := (hbW.block _ (lt_of_block hg6)).trans hg6
  have hh7 : W6.heap[w6.heap.size]? = some (veObj (.slice do_ lv cdp) v.sort) := by rw [hW6]; exact heap_alloc_new w6 _
  have hsm := same_any do_ ao cdp cap v.sort W6 (hel6.later hbW) (he6.later hbW) (by have := HLl.out; omega)
  rw [← HLv.out] at hsm
  unfold veV at hsm ⊢
  rw [← HLv.out]
  have HSm : Hid _ := hsm
  have hW6' : w6.alloc (.cells #[.slice do_ lv cdp, .int .i64 v.sort.wal, .int .i64 v.sort.next, .int .i64 v.sort.seq] 26) = W6 := hW6.symm
  obtain ⟨x0, x1, x2, x3, _⟩ := ve_cells hg7
  obtain ⟨y0, y1, y2, y3, _⟩ := ve_cells hh7
  clear hr hc6 hel6 hb6 hg6 he6 hW6 hbW hsm HRd HB5 HG5 HE5 HB6 hg7 hh7 hS' HSl
  go_wp2_with fail
  refine (show Calls _ _ _ _ _ from HSm.out).mono ?_
  rintro x w8 ⟨rfl, hb8⟩
  have HB8 : Hid (Below w.heap.size w w8) := HB7.out.trans (hb8.mono HB7.out.size)
  clear hb8 HSm hW6' x0 x1 x2 x3 y0 y1 y2 y3
  go_wp2
  go_ret
  exact ⟨rfl, HB8.out⟩
end Go.Proofs.YtjfanbemihheiaaGreatDoor.Ma
