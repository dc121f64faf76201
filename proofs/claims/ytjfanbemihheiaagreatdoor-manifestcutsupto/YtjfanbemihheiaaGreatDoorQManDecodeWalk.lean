/-
  Package manifest: what Decode answers, for any text.
-/
import Derived.Test.YtjfanbemihheiaaGreatDoorQManDecode
namespace Go.Proofs.YtjfanbemihheiaaGreatDoor.Ma
open Go.RowKit Cm
open Pk (RdAt Step enc enc_len fold unfold)
set_option linter.unusedVariables false

set_option maxRecDepth 100000 in
set_option maxHeartbeats 4000000 in
theorem decode_any (s : ByteArray) (w : World) (hs : s.size ≤ 10000000000) : Calls Tryz.prog 14 #[.string s] w (DecAns w s) := by
  obtain ⟨X, hX⟩ : ∃ X, X = (((w.alloc (edObj (.slice none 0 0) (.slice none 0 0) edZero)).alloc (.cells #[.string s] 122)).alloc (rdObj (w.heap.size + 1) false)).alloc (edObj (.slice none 0 0) (.slice none 0 0) edZero) := ⟨_, rfl⟩
  have hXs : X.heap.size = w.heap.size + 4 := by rw [hX]; simp
  have hb : ∀ o1 o2 o3 o4 : Obj, ((((w.alloc o1).alloc o2).alloc o3).alloc o4).heap[w.heap.size]? = some o1 ∧ ((((w.alloc o1).alloc o2).alloc o3).alloc o4).heap[w.heap.size + 1]? = some o2 ∧ ((((w.alloc o1).alloc o2).alloc o3).alloc o4).heap[w.heap.size + 2]? = some o3 ∧ ((((w.alloc o1).alloc o2).alloc o3).alloc o4).heap[w.heap.size + 3]? = some o4 := fun o1 o2 o3 o4 => by
    refine ⟨?_, ?_, ?_, ?_⟩
    · exact (Below.heap_alloc _ _ _ (by simp only [World.size_alloc]; omega)).trans ((Below.heap_alloc _ _ _ (by simp only [World.size_alloc]; omega)).trans ((Below.heap_alloc _ _ _ (by simp only [World.size_alloc]; omega)).trans (heap_alloc_new w _)))
    · refine (Below.heap_alloc _ _ _ (by simp only [World.size_alloc]; omega)).trans ((Below.heap_alloc _ _ _ (by simp only [World.size_alloc]; omega)).trans ?_)
      have := heap_alloc_new (w.alloc o1) o2
      rwa [World.size_alloc] at this
    · refine (Below.heap_alloc _ _ _ (by simp)).trans ?_
      have := heap_alloc_new ((w.alloc o1).alloc o2) o3
      rwa [World.size_alloc, World.size_alloc] at this
    · have := heap_alloc_new (((w.alloc o1).alloc o2).alloc o3) o4
      rwa [World.size_alloc, World.size_alloc, World.size_alloc] at this
  have hL : Lies w (w.heap.size + 1 + 1) (w.heap.size + 1) (w.heap.size + 1 + 1 + 1) X.heap.size := ⟨by omega, by omega, by omega, by omega, by omega, by omega, by omega, by omega⟩
  have hD : DD w (w.heap.size + 1 + 1) (w.heap.size + 1) (w.heap.size + 1 + 1 + 1) X.heap.size s false (.slice none 0 0) (.slice none 0 0) edZero X := by
    obtain ⟨h1, h2, h3, h4⟩ := hb (edObj (.slice none 0 0) (.slice none 0 0) edZero) (.cells #[.string s] 122) (rdObj (w.heap.size + 1) false) (edObj (.slice none 0 0) (.slice none 0 0) edZero)
    rw [← hX] at h1 h2 h3 h4
    refine ⟨⟨h3, h2⟩, h4, h1, ⟨World.ownsRow_nil _ _ _ _, World.ownsRow_nil _ _ _ _⟩, ?_⟩
    rw [hX]
    exact ((((Below.refl _ _).alloc (Nat.le_refl _) _).alloc (by simp) _).alloc (by simp; omega) _).alloc (by simp; omega) _
  have HL : Hid (Lies w (w.heap.size + 1 + 1) (w.heap.size + 1) (w.heap.size + 1 + 1 + 1) X.heap.size) := hL
  have HD0 : Hid _ := hD
  have hX' : (((w.alloc (.cells #[.slice none 0 0, .slice none 0 0, .int .i64 0, .int .i64 0, .int .i64 0] 30)).alloc (.cells #[.string s] 122)).alloc (.cells #[.pointer (some ⟨w.heap.size + 1, 0, none⟩), .bool false] 76)).alloc (.cells #[.slice none 0 0, .slice none 0 0, .int .i64 0, .int .i64 0, .int .i64 0] 30) = X := hX.symm
  have HF : Hid _ := files_any (w.heap.size + 1 + 1) (w.heap.size + 1) s false X hD.rb (by omega)
  clear hb hL hD hX hXs
  go_enter Tryz.func14, Tryz.ntmps14
  go_wp2_with fail
  refine (Pk.read_any s _).mono ?_
  rintro x w1 ⟨rfl, rfl⟩
  go_wp2_with fail
  refine (show Calls _ _ _ _ _ from HF.out).mono ?_
  rintro x w2 ⟨l, v1, s1, b1, rfl, hokl, hll, hfa, hrd1⟩
  have hle1 := hfa.le
  have hx2 := hfa.stay.size
  have HD1 : Hid _ := (HD0.out.read HL.out hfa.rb hfa.stay).setA HL.out hfa.own
  obtain ⟨_, _, ⟨x0, x1, x2, x3, x4⟩, xf⟩ := (HD0.out.read HL.out hfa.rb hfa.stay).cells
  have xf0 := xf 0
  have HR1 : Hid (Rd (manyB fiB) (OkL OkF) (bs s) false l (bs s1) b1) := hrd1
  have HOl : Hid (∀ x ∈ l, OkF x) := hokl
  obtain ⟨ao1, cap1, rfl, _, _, _, _⟩ := own_rows (F := fiShape) hfa.own
  have HF2 : Hid _ := numbers_any (w.heap.size + 1 + 1) (w.heap.size + 1) s1 b1 _ HD1.out.rb (by omega)
  clear hfa hrd1 hokl HD0 HF hX' xf
  go_wp2_with fail
  refine (show Calls _ _ _ _ _ from HF2.out).mono ?_
  rintro x w3 ⟨d, v2, s2, b2, rfl, hokd, hld, hfb, hrd2⟩
  have hle2 := hfb.le
  have HD2 : Hid _ := (HD1.out.read HL.out hfb.rb hfb.stay).setD HL.out (Joins.ownsRow_le hfb.own (by simpa [World.setCell] using hx2))
  obtain ⟨_, _, ⟨x0, x1, x2, x3, x4⟩, xf⟩ := (HD1.out.read HL.out hfb.rb hfb.stay).cells
  have xf1 := xf 1
  have HR2 : Hid (Rd (manyB intB) (OkL OkI) (bs s1) b1 d (bs s2) b2) := hrd2
  have HOd : Hid (∀ x ∈ d, OkI x) := hokd
  obtain ⟨ao2, cap2, rfl, _, _, _, _⟩ := own_rows (F := inShape) hfb.own
  have HF3 : Hid _ := wholeN_any (w.heap.size + 1 + 1) (w.heap.size + 1) s2 b2 _ HD2.out.rb (by omega)
  clear hfb hrd2 hokd HD1 HF2 xf xf0 hx2
  go_wp2_with fail
  refine (show Calls _ _ _ _ _ from HF3.out).mono ?_
  rintro x w4 ⟨n3, s3, b3, rfl, hn3, hle3, hrb3, hrd3, hst3⟩
  have HD3 : Hid _ := (HD2.out.read HL.out hrb3 hst3).setW HL.out n3
  obtain ⟨_, _, ⟨x0, x1, x2, x3, x4⟩, xf⟩ := (HD2.out.read HL.out hrb3 hst3).cells
  have xf2 := xf 2
  have HR3 : Hid (Rd intB OkI (bs s2) b2 n3 (bs s3) b3) := hrd3
  have HF4 : Hid _ := wholeN_any (w.heap.size + 1 + 1) (w.heap.size + 1) s3 b3 _ HD3.out.rb (by omega)
  clear hrb3 hst3 hrd3 HD2 HF3 xf xf1
  go_wp2_with fail
  refine (show Calls _ _ _ _ _ from HF4.out).mono ?_
  rintro x w5 ⟨n4, s4, b4, rfl, hn4, hle4, hrb4, hrd4, hst4⟩
  have HD4 : Hid _ := (HD3.out.read HL.out hrb4 hst4).setN HL.out n4
  obtain ⟨_, _, ⟨x0, x1, x2, x3, x4⟩, xf⟩ := (HD3.out.read HL.out hrb4 hst4).cells
  have xf3 := xf 3
  have HR4 : Hid (Rd intB OkI (bs s3) b3 n4 (bs s4) b4) := hrd4
  have HF5 : Hid _ := wholeN_any (w.heap.size + 1 + 1) (w.heap.size + 1) s4 b4 _ HD4.out.rb (by omega)
  clear hrb4 hst4 hrd4 HD3 HF4 xf xf2
  go_wp2_with fail
  refine (show Calls _ _ _ _ _ from HF5.out).mono ?_
  rintro x w6 ⟨n5, s5, b5, rfl, hn5, hle5, hrb5, hrd5, hst5⟩
  have HD5 : Hid _ := (HD4.out.read HL.out hrb5 hst5).setS HL.out n5
  have hd6 := HD4.out.read HL.out hrb5 hst5
  obtain ⟨c0, c1, ⟨x0, x1, x2, x3, x4⟩, xf⟩ := hd6.cells
  have xf4 := xf 4
  obtain ⟨z0, z1, z2, z3, z4⟩ := ed_cells hd6.res
  simp only [edZero] at z2 z3 z4
  have zf : ∀ i, w6.frozen? ⟨w.heap.size, i, none⟩ = false := fun i => by simp [World.frozen?, hd6.res, edObj]
  have zf0 := zf 0
  have zf1 := zf 1
  have zf2 := zf 2
  have zf3 := zf 3
  have zf4 := zf 4
  have HT : Hid (Rd tupB tupK (bs s) false ((((l, d), n3), n4), n5) (bs s5) b5) := rd_tup HR1.out HR2.out HR3.out HR4.out hrd5
  have hll2 : l.length + d.length ≤ 100000000000 := by omega
  clear hrb5 hst5 hrd5 HD4 HF5 xf xf3 HR1 HR2 HR3 HR4 zf hd6
  cases b5
  · obtain ⟨hok, heq⟩ := rd_ed (e := ⟨l, d, n3, n4, n5⟩) HT.out
    have HOk : Hid ((⟨l, d, n3, n4, n5⟩ : Ed).Ok) := hok
    have HEq : Hid (bs s = encE ⟨l, d, n3, n4, n5⟩ ++ bs s5) := heq
    have HDn : Hid _ := Pk.done_any (w.heap.size + 1) s5 _ HD5.out.rb.rd
    have hri := right_any ao1 cap1 ao2 cap2 ⟨l, d, n3, n4, n5⟩ _ (HD5.out.own.ed (fun k hk => hk.elim) hok.add hok.del hll2)
    unfold edV at hri
    have HRi : Hid _ := hri
    have HBY : Hid (Below w.heap.size w _) := HD5.out.bel
    clear hok heq hri HT
    go_wp2_with fail
    refine (show Calls _ _ _ _ _ from HDn.out).mono ?_
    rintro x w7 ⟨rfl, rfl⟩
    by_cases h5 : s5.size = 0
    · have hd5 : decide (s5.size = 0) = true := decide_eq_true h5
      have HN5 : Hid (bs s5 = []) := List.eq_nil_of_length_eq_zero (by rw [bs_len]; exact h5)
      obtain ⟨y0, y1, y2, y3, y4⟩ := ed_cells HD5.out.box
      go_wp2_with fail
      refine (show Calls _ _ _ _ _ from HRi.out).mono ?_
      rintro x w8 ⟨rfl, hb8⟩
      have hs8 := HBY.out.size
      have hres8 := (hb8.block _ (lt_of_block HD5.out.res)).trans HD5.out.res
      have hown8 := HD5.out.own.keep (w' := w8) (fun k h1 h2 => hb8.block k h2)
      have hbel8 := HBY.out.trans (hb8.mono hs8)
      have HRes8 : Hid _ := hres8
      have HOwn8 : Hid (EdOwn w8 X.heap.size (.slice ao1 l.length cap1) (.slice ao2 d.length cap2) ⟨l, d, n3, n4, n5⟩) := hown8
      have HBel8 : Hid (Below w.heap.size w w8) := hbel8
      have HXg : Hid (w.heap.size < X.heap.size) := by have := HL.out.g1; have := HL.out.g2; show _ < _; omega
      have e8 := ed_cells ((hb8.block _ (lt_of_block HD5.out.box)).trans HD5.out.box)
      clear hres8 hown8 hbel8 hb8 hs8 HBY HRi HD5 HDn z0 z1 z2 z3 z4 zf0 zf1 zf2 zf3 zf4 c0 c1 x0 x1 x2 x3 x4 xf4 HL y0 y1 y2 y3 y4
      obtain ⟨y0, y1, y2, y3, y4⟩ := e8
      obtain ⟨z0, z1, z2, z3, z4⟩ := ed_cells HRes8.out
      simp only [edZero] at z2 z3 z4
      have zf : ∀ i, w8.frozen? ⟨w.heap.size, i, none⟩ = false := fun i => by simp [World.frozen?, HRes8.out, edObj]
      have zf0 := zf 0
      have zf1 := zf 1
      have zf2 := zf 2
      have zf3 := zf 3
      have zf4 := zf 4
      clear zf
      cases hri : right ⟨l, d, n3, n4, n5⟩
      · have HNo : Hid (∀ e, ¬ IsEd (bs s) e) := ed_not HOk.out HEq.out (.inr hri)
        have HSet : Hid _ := ed_set HRes8.out (.slice none 0 0) (.slice none 0 0) (.int .i64 0) (.int .i64 0) (.int .i64 0)
        have HWe : Hid _ := dec_store HRes8.out HBel8.out (.slice none 0 0) (.slice none 0 0) (.int .i64 0) (.int .i64 0) (.int .i64 0)
        clear HOk HEq HOwn8 hri
        go_wp2
        obtain ⟨u0, u1, u2, u3, u4⟩ := HSet.out _ rfl
        refine bodyPost_ret (v := .tuple #[.agg #[.slice none 0 0, .slice none 0 0, .int .i64 0, .int .i64 0, .int .i64 0], .int .i64 11]) (by simp [results, Tryz.results14, go_sem, u0, u1, u2, u3, u4]) rfl ?_
        exact .inr ⟨HNo.out, rfl, HWe.out⟩
      · have HIs : Hid (IsEd (bs s) ⟨l, d, n3, n4, n5⟩) := ⟨HOk.out, hri, by have := HEq.out; rw [HN5.out, List.append_nil] at this; exact this⟩
        have HSet : Hid _ := ed_set HRes8.out (.slice ao1 l.length cap1) (.slice ao2 d.length cap2) (.int .i64 n3) (.int .i64 n4) (.int .i64 n5)
        have HWe : Hid _ := dec_store HRes8.out HBel8.out (.slice ao1 l.length cap1) (.slice ao2 d.length cap2) (.int .i64 n3) (.int .i64 n4) (.int .i64 n5)
        have HOwE : Hid _ := (dec_own HOwn8.out HXg.out (.slice ao1 l.length cap1) (.slice ao2 d.length cap2) (.int .i64 n3) (.int .i64 n4) (.int .i64 n5)).le (Nat.le_of_lt HXg.out)
        clear HOk HEq HOwn8 hri
        go_wp2
        obtain ⟨u0, u1, u2, u3, u4⟩ := HSet.out _ rfl
        refine bodyPost_ret (v := .tuple #[.agg #[.slice ao1 l.length cap1, .slice ao2 d.length cap2, .int .i64 n3, .int .i64 n4, .int .i64 n5], .int .i64 0]) (by simp [results, Tryz.results14, go_sem, u0, u1, u2, u3, u4]) rfl ?_
        exact .inl ⟨_, _, _, HIs.out, rfl, HOwE.out, hll2, HWe.out⟩
    · have hd5 : decide (s5.size = 0) = false := decide_eq_false h5
      have HNo : Hid (∀ e, ¬ IsEd (bs s) e) := ed_not HOk.out HEq.out (.inl fun e => h5 (by rw [← bs_len, e]; rfl))
      have HSet : Hid _ := ed_set HD5.out.res (.slice none 0 0) (.slice none 0 0) (.int .i64 0) (.int .i64 0) (.int .i64 0)
      have HWe : Hid _ := dec_store HD5.out.res HD5.out.bel (.slice none 0 0) (.slice none 0 0) (.int .i64 0) (.int .i64 0) (.int .i64 0)
      clear HOk HEq HD5 HRi HDn
      go_wp2
      obtain ⟨u0, u1, u2, u3, u4⟩ := HSet.out _ rfl
      refine bodyPost_ret (v := .tuple #[.agg #[.slice none 0 0, .slice none 0 0, .int .i64 0, .int .i64 0, .int .i64 0], .int .i64 11]) (by simp [results, Tryz.results14, go_sem, u0, u1, u2, u3, u4]) rfl ?_
      exact .inr ⟨HNo.out, rfl, HWe.out⟩
  · have HNo : Hid (∀ e, ¬ IsEd (bs s) e) := rd_not HT.out
    have HSet : Hid _ := ed_set HD5.out.res (.slice none 0 0) (.slice none 0 0) (.int .i64 0) (.int .i64 0) (.int .i64 0)
    have HWe : Hid _ := dec_store HD5.out.res HD5.out.bel (.slice none 0 0) (.slice none 0 0) (.int .i64 0) (.int .i64 0) (.int .i64 0)
    clear HT HD5
    go_wp2
    obtain ⟨u0, u1, u2, u3, u4⟩ := HSet.out _ rfl
    refine bodyPost_ret (v := .tuple #[.agg #[.slice none 0 0, .slice none 0 0, .int .i64 0, .int .i64 0, .int .i64 0], .int .i64 11]) (by simp [results, Tryz.results14, go_sem, u0, u1, u2, u3, u4]) rfl ?_
    exact .inr ⟨HNo.out, rfl, HWe.out⟩
end Go.Proofs.YtjfanbemihheiaaGreatDoor.Ma
