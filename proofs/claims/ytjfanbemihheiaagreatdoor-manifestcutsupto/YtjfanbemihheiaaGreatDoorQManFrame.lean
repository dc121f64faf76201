/-
  Package manifest: the edit of one frame, put in force.
-/
import Derived.Test.YtjfanbemihheiaaGreatDoorQManDecodeWalk
import Derived.Test.YtjfanbemihheiaaGreatDoorQManApplyWalk
import Derived.Test.YtjfanbemihheiaaGreatDoorPart3
namespace Go.Proofs.YtjfanbemihheiaaGreatDoor.Ma
open Go.RowKit Cm
set_option linter.unusedVariables false

/-- A shelf that owns all from B on. -/
abbrev ShB (w : World) (B q : Nat) (v : Ve) (c : Nat) : Prop := ShelfAt w (fun k => B ≤ k) q v c
/-- The next frame of a text that begins here, if it is an edit that can be applied. -/
def Steps (l : List UInt8) (n : Nat) (v : Ve) (m : Nat) (u : Ve) : Prop := ∃ p r d, p.length ≤ 65536 ∧ l.drop n = Fr.frame p ++ r ∧ Takes v p d u ∧ m = n + 8 + p.length
def Stops (l : List UInt8) (n : Nat) (v : Ve) : Prop := ∀ p r d u, p.length ≤ 65536 → l.drop n = Fr.frame p ++ r → ¬ Takes v p d u
theorem Stops.first {l : List UInt8} {n : Nat} {v : Ve} (h : Fr.first (l.drop n) = none) : Stops l n v := fun p r d u hp hr _ => by
  rw [hr, Fr.first_frame p r hp] at h; cases h
theorem Stops.not {l p r : List UInt8} {n : Nat} {v : Ve} (hp : p.length ≤ 65536) (hr : l.drop n = Fr.frame p ++ r) (h : ∀ d u, ¬ Takes v p d u) : Stops l n v := fun q s d u hq hs ht => by
  obtain ⟨rfl, _⟩ := Fr.frame_first hp hq (hr.symm.trans hs)
  exact h d u ht
theorem Takes.len {v u : Ve} {p : List UInt8} {d : Ed} (h : Takes v p d u) : d.add.length ≤ p.length := by
  have := (encE_len d).2
  rw [h.1.eq]
  omega
/-- What takeFrame answers. -/
def TfAns (w : World) (B q c : Nat) (v : Ve) (l : List UInt8) (n : Nat) (x : Ending) (w' : World) : Prop :=
  Below B w w' ∧ w.heap.size ≤ w'.heap.size ∧
  ((∃ m u k, Steps l n v m u ∧ k ≤ m - n ∧ u.files.length ≤ v.files.length + (m - n) ∧ x = .returned (.tuple #[.int .i64 m, .bool true]) ∧ ShB w' B q u (c + k)) ∨
   (Stops l n v ∧ x = .returned (.tuple #[.int .i64 0, .bool false]) ∧ ShB w' B q v c))
theorem str_bs (p : List UInt8) : bs (Fr.str p) = p := by unfold bs; exact Fr.str_data p
set_option maxRecDepth 100000 in
set_option maxHeartbeats 2000000 in
theorem takeFrame_any (B q c : Nat) (v : Ve) (T : ByteArray) (n : Nat) (w : World) (h : ShB w B q v c) (hB : B ≤ w.heap.size) (hT : T.size ≤ 10000000000) (hn : n ≤ T.size) (hc : c ≤ 100000000000) (hv : v.files.length ≤ 100000000000) :
    Calls Tryz.prog 35 #[.pointer (some ⟨q, 0, none⟩), .string T, .int .i64 n] w (TfAns w B q c v T.data.toList n) := by
  have HS : Hid (ShB w B q v c) := h
  clear h
  cases hf : Fr.first (T.data.toList.drop n) with
  | none =>
    have HSt : Hid (Stops T.data.toList n v) := Stops.first hf
    have HF : Hid _ := Fr.first_none T n w (by omega) (by omega) (by omega) (fun _ _ => by simpa using hf)
    clear hf
    go_enter Tryz.func35, Tryz.ntmps35
    go_wp2_with fail
    refine (show Calls _ _ _ _ _ from HF.out).mono ?_
    rintro x w1 ⟨rfl, hb1⟩
    have HB1 : Hid (Below w.heap.size w w1) := hb1
    clear hb1 HF
    go_wp2
    refine bodyPost_ret (v := .tuple #[.int .i64 0, .bool false]) (by simp [results, Tryz.results35, go_sem]) rfl ?_
    exact ⟨HB1.out.mono hB, HB1.out.size, .inr ⟨HSt.out, rfl, HS.out.below HB1.out⟩⟩
  | some m =>
    obtain ⟨p, r, hpm, hp, hl⟩ := Fr.first_some hf
    have hl2 := congrArg List.length hl
    rw [List.length_drop, List.length_append, Fr.frame_len, ← Lib.size_eq] at hl2
    have HL : Hid (T.data.toList.drop n = Fr.frame p ++ r) := hl
    have HF : Hid _ := Fr.first_at T n w (by omega) p r hp hl
    have hps : (Fr.str p).size ≤ 65536 := by rw [Fr.str_size]; exact hp
    clear hf hl hpm
    go_enter Tryz.func35, Tryz.ntmps35
    go_wp2_with fail
    refine (show Calls _ _ _ _ _ from HF.out).mono ?_
    rintro x w1 ⟨rfl, hb1⟩
    have HB1 : Hid (Below w.heap.size w w1) := hb1
    have HD : Hid _ := decode_any (Fr.str p) w1 (by omega)
    clear hb1 HF
    go_wp2_with fail
    refine (show Calls _ _ _ _ _ from HD.out).mono ?_
    rintro x w2 (⟨d, a, b, hd, rfl, hown, hfew, hb2⟩ | ⟨hno, rfl, hb2⟩)
    · obtain ⟨aa, ca, ad, cd, rfl, rfl⟩ := hown.form
      rw [str_bs] at hd
      have HDd : Hid (IsEd p d) := hd
      have hlen : d.add.length ≤ p.length := by have := (encE_len d).2; rw [hd.eq]; omega
      obtain ⟨W, hW⟩ : ∃ W, W = w2.alloc (edObj (.slice aa d.add.length ca) (.slice ad d.del.length cd) d) := ⟨_, rfl⟩
      have hb3 : Below w2.heap.size w2 W := by rw [hW]; exact (Below.refl _ _).alloc (Nat.le_refl _) _
      have hbw : Below w.heap.size w W := HB1.out.trans ((hb2.trans (hb3.mono hb2.size)).mono HB1.out.size)
      have HBw : Hid (Below w.heap.size w W) := hbw
      have hs1 := HB1.out.size
      have hownW : EdOwn W w1.heap.size (.slice aa d.add.length ca) (.slice ad d.del.length cd) d := hown.keep fun k _ hk => hb3.block k hk
      have hShW : ShelfAt W (fun k => B ≤ k ∧ k < w.heap.size) q v c := (HS.out.cut).below hbw
      have htk := take_any (fun k => B ≤ k ∧ k < w.heap.size) q v c aa ca ad cd d W hShW (hownW.ed (fun k hk => by have := hk.1.2; omega) hd.ok.add hd.ok.del hfew) (by omega) (by omega)
      have HTk : Hid _ := htk
      have hg : W.heap[w2.heap.size]? = some (edObj (.slice aa d.add.length ca) (.slice ad d.del.length cd) d) := by rw [hW]; exact heap_alloc_new w2 _
      obtain ⟨g0, g1, g2, g3, g4⟩ := ed_cells hg
      have hW' : w2.alloc (.cells #[.slice aa d.add.length ca, .slice ad d.del.length cd, .int .i64 d.wal, .int .i64 d.next, .int .i64 d.seq] 30) = W := hW.symm
      obtain ⟨la, hla⟩ : ∃ la, la = d.add.length := ⟨_, rfl⟩
      obtain ⟨ld, hld⟩ : ∃ ld, ld = d.del.length := ⟨_, rfl⟩
      have HLa : Hid (la = d.add.length) := hla
      rw [← hla] at g0 hW' HTk
      rw [← hld] at g1 hW' HTk
      unfold edV at HTk ⊢
      rw [← hla, ← hld]
      clear hd hown hfew hb2 hb3 hbw hownW hShW htk hg hW HD HB1 hs1 hla hld
      go_wp2_with fail
      refine (show Calls _ _ _ _ _ from HTk.out).mono ?_
      rintro y w5 ⟨rfl, ht1, ht2, ht3⟩
      have hb5 : Below B w w5 := (HBw.out.mono hB).trans (ht3.below (fun k hk => hk.1) (by have := HBw.out.size; omega))
      have hs5 : w.heap.size ≤ w5.heap.size := by have := HBw.out.size; have := ht3.size; omega
      cases hok : okE v d
      · have HSt : Hid (Stops T.data.toList n v) := Stops.not hp HL.out (fun d' u' ht' => by
          obtain rfl := ht'.1.unique HDd.out
          have h2 := ht'.2
          rw [one_none hok] at h2
          cases h2)
        have HAn : Hid (TfAns w B q c v T.data.toList n (.returned (.tuple #[.int .i64 0, .bool false])) w5) := ⟨hb5, hs5, .inr ⟨HSt.out, rfl, HS.out.below (HBw.out.trans ((ht2 hok).mono HBw.out.size))⟩⟩
        clear ht1 ht2 ht3 hb5 hs5 hok HSt g0 g1 g2 g3 g4 hW'
        go_wp2
        refine bodyPost_ret (v := .tuple #[.int .i64 0, .bool false]) (by simp [results, Tryz.results35, go_sem]) rfl ?_
        exact HAn.out
      · have hsh : ShB w5 B q (nxt v d) (c + la) := by rw [HLa.out]; exact (ht1 hok).mono fun k hk => hk.elim (fun e => e.1) (fun e => by have := HBw.out.size; omega)
        have hfl : (nxt v d).files.length ≤ v.files.length + p.length := by
          have := stay_len v.files d.del
          simp only [nxt, List.length_append]
          omega
        have HAn : Hid (TfAns w B q c v T.data.toList n (.returned (.tuple #[.int .i64 ((n + 8 + p.length : Nat) : Int), .bool true])) w5) :=
          ⟨hb5, hs5, .inl ⟨n + 8 + p.length, nxt v d, la, ⟨p, r, d, hp, HL.out, ⟨HDd.out, one_is hok⟩, rfl⟩, by have := HLa.out; omega, by omega, rfl, hsh⟩⟩
        clear ht1 ht2 ht3 hb5 hs5 hok hsh g0 g1 g2 g3 g4 hW' hfl
        go_wp2
        refine bodyPost_ret (v := .tuple #[.int .i64 ((n : Int) + 8 + (p.length : Int)), .bool true]) (by simp [results, Tryz.results35, go_sem]) rfl ?_
        have hcast : ((n + 8 + p.length : Nat) : Int) = (n : Int) + 8 + (p.length : Int) := by omega
        rw [← hcast]
        exact HAn.out
    · have HSt : Hid (Stops T.data.toList n v) := Stops.not hp HL.out (fun d u ht => hno d (by rw [str_bs]; exact ht.1))
      have hbw : Below w.heap.size w (w2.alloc (.cells #[.slice none 0 0, .slice none 0 0, .int .i64 0, .int .i64 0, .int .i64 0] 30)) := (HB1.out.trans (hb2.mono HB1.out.size)).alloc (by have := HB1.out.size; have := hb2.size; omega) _
      have HBw : Hid _ := hbw
      unfold edV edZero
      clear hno hbw hb2 HD
      go_wp2
      refine bodyPost_ret (v := .tuple #[.int .i64 0, .bool false]) (by simp [results, Tryz.results35, go_sem]) rfl ?_
      exact ⟨HBw.out.mono hB, HBw.out.size, .inr ⟨HSt.out, rfl, HS.out.below HBw.out⟩⟩
end Go.Proofs.YtjfanbemihheiaaGreatDoor.Ma
