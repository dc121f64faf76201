/-
  The reference: what the frames of a text come to. (Its three endings' rows are written by a program.)
-/
import Derived.Test.YtjfanbemihheiaaGreatDoorQManRead
import Derived.Test.YtjfanbemihheiaaGreatDoorQManRefDec
import Derived.Test.YtjfanbemihheiaaGreatDoorQManRefOne
import Derived.Test.YtjfanbemihheiaaGreatDoorPart3
namespace Go.Proofs.YtjfanbemihheiaaGreatDoor.Ma
open Go.RowKit Cm
set_option linter.unusedVariables false

/-- The version so far, in its box; the result's box. -/
structure RR (w : World) (v : Ve) (X : World) : Prop where
  bel : Below w.heap.size w X
  res : X.heap[w.heap.size]? = some (veObj (.slice none 0 0) Ve.zero)
  row : ∃ ao cap, X.heap[w.heap.size + 1]? = some (veObj (.slice ao v.sort.files.length cap) v.sort) ∧ X.ownsRow (w.heap.size + 2) 53 2 (.slice ao v.sort.files.length cap) v.sort.files.length (fiShape.vals v.sort.files)
theorem RR.below {w X Y : World} {v : Ve} (h : RR w v X) (hb : Below X.heap.size X Y) : RR w v Y := by
  obtain ⟨ao, cap, h1, h2⟩ := h.row
  exact ⟨h.bel.trans (hb.mono h.bel.size), (hb.block _ (lt_of_block h.res)).trans h.res, ⟨ao, cap, (hb.block _ (lt_of_block h1)).trans h1, rows_keep h2 fun j hj => hb.block j (World.ownsRow.lt h2 j hj).2⟩⟩
theorem zero_sort : Ve.zero.sort = Ve.zero := by
  unfold Ve.sort Ve.zero
  rw [srt_nil]
theorem RR.start (w : World) : RR w Ve.zero ((w.alloc (veObj (.slice none 0 0) Ve.zero)).alloc (veObj (.slice none 0 0) Ve.zero)) := by
  have h := heap_alloc_new (w.alloc (veObj (.slice none 0 0) Ve.zero)) (veObj (.slice none 0 0) Ve.zero)
  rw [World.size_alloc] at h
  refine ⟨((Below.refl _ _).alloc (Nat.le_refl _) _).alloc (by simp) _, (Below.heap_alloc _ _ _ (by simp)).trans (heap_alloc_new w _), none, 0, ?_, ?_⟩
  · rw [zero_sort]; exact h
  · rw [zero_sort]; exact World.ownsRow_nil _ _ _ _
theorem RR.put {w X : World} {u v : Ve} {ao : Option Addr} {cap : Nat} (h : RR w v X) (hrow : X.ownsRow (w.heap.size + 2) 53 2 (.slice ao u.sort.files.length cap) u.sort.files.length (fiShape.vals u.sort.files)) :
    RR w u ((((X.setCell ⟨w.heap.size + 1, 0, none⟩ (.slice ao u.sort.files.length cap)).setCell ⟨w.heap.size + 1, 1, none⟩ (.int .i64 u.sort.wal)).setCell ⟨w.heap.size + 1, 2, none⟩ (.int .i64 u.sort.next)).setCell ⟨w.heap.size + 1, 3, none⟩ (.int .i64 u.sort.seq)) := by
  obtain ⟨ao0, cap0, h1, _⟩ := h.row
  have hk : ∀ k, k ≠ w.heap.size + 1 → ((((X.setCell ⟨w.heap.size + 1, 0, none⟩ (.slice ao u.sort.files.length cap)).setCell ⟨w.heap.size + 1, 1, none⟩ (.int .i64 u.sort.wal)).setCell ⟨w.heap.size + 1, 2, none⟩ (.int .i64 u.sort.next)).setCell ⟨w.heap.size + 1, 3, none⟩ (.int .i64 u.sort.seq)).heap[k]? = X.heap[k]? := fun k hk => by
    rw [Below.heap_setCell _ _ _ _ (by simpa using hk), Below.heap_setCell _ _ _ _ (by simpa using hk), Below.heap_setCell _ _ _ _ (by simpa using hk), Below.heap_setCell _ _ _ _ (by simpa using hk)]
  refine ⟨(((h.bel.setCell (by simp) _).setCell (by simp) _).setCell (by simp) _).setCell (by simp) _, (hk _ (by omega)).trans h.res, ⟨ao, cap, ?_, rows_keep hrow fun k e => hk k (by have := (World.ownsRow.lt hrow k e).1; omega)⟩⟩
  unfold veObj at h1
  have q1 := Joins.block_setCell h1 (i := 0) (.slice ao u.sort.files.length cap)
  have q2 := Joins.block_setCell q1 (i := 1) (.int .i64 u.sort.wal)
  have q3 := Joins.block_setCell q2 (i := 2) (.int .i64 u.sort.next)
  have q4 := Joins.block_setCell q3 (i := 3) (.int .i64 u.sort.seq)
  rw [q4]; rfl
theorem RR.fin {w X : World} {v : Ve} {l : List UInt8} {n : Nat} (h : RR w v X) (hc : Comes l v n) (hl : v.files.length ≤ l.length) (ao : Option Addr) (cap : Nat) (hr : X.ownsRow (w.heap.size + 2) 53 2 (.slice ao v.sort.files.length cap) v.sort.files.length (fiShape.vals v.sort.files)) :
    ReadAns w l (.returned (.tuple #[veV (.slice ao v.sort.files.length cap) v.sort, .int .i64 n])) ((((X.setCell ⟨w.heap.size, 0, none⟩ (.slice ao v.sort.files.length cap)).setCell ⟨w.heap.size, 1, none⟩ (.int .i64 v.sort.wal)).setCell ⟨w.heap.size, 2, none⟩ (.int .i64 v.sort.next)).setCell ⟨w.heap.size, 3, none⟩ (.int .i64 v.sort.seq)) := by
  refine ⟨v, n, ao, cap, hc, rfl, ?_, (((h.bel.setCell (Nat.le_refl _) _).setCell (Nat.le_refl _) _).setCell (Nat.le_refl _) _).setCell (Nat.le_refl _) _, hl⟩
  unfold VerAt
  refine rows_keep (Joins.ownsRow_le hr (by omega)) fun g hg => ?_
  have hgw : g ≠ w.heap.size := by have := (World.ownsRow.lt hr g hg).1; omega
  rw [Below.heap_setCell _ _ _ _ (by simpa using hgw), Below.heap_setCell _ _ _ _ (by simpa using hgw), Below.heap_setCell _ _ _ _ (by simpa using hgw), Below.heap_setCell _ _ _ _ (by simpa using hgw)]
theorem sort_okR (y : Ve) (e : Ed) : okE y.sort e = okE y e := (Like.sort y).ok e
theorem sort_nxtR (y : Ve) (e : Ed) : (nxt y.sort e).sort = (nxt y e).sort := ((Like.sort y).nxt e).eq
set_option maxRecDepth 100000 in
set_option maxHeartbeats 4000000 in
theorem readR_any (T : ByteArray) (w : World) (hT : T.size ≤ 10000000000) : Calls Tryz.prog 17 #[.string T] w (ReadAns w T.data.toList) := by
  have HTl : Hid (T.data.toList.length = T.size) := by show _ = _; rw [← Lib.size_eq]
  have HR0 : Hid (RR w Ve.zero ((w.alloc (.cells #[.slice none 0 0, .int .i64 0, .int .i64 0, .int .i64 0] 26)).alloc (.cells #[.slice none 0 0, .int .i64 0, .int .i64 0, .int .i64 0] 26))) := RR.start w
  go_enter Tryz.func17, Tryz.ntmps17
  go_wp2
  go_loopw [5] (fun at_ wr => ∃ (n : Nat) (v : Ve), at_ = .int .i64 n ∧ n ≤ T.size ∧ v.files.length ≤ n ∧ Hid (RR w v wr) ∧ Hid (Came T.data.toList v n)) (fun at_ _ => T.size - (intOf at_).toNat)
  case atStart => exact ⟨0, Ve.zero, rfl, by omega, Nat.zero_le _, HR0, Came.start _⟩
  case round =>
    clear HR0
    obtain ⟨n, v, rfl, hnT, hvn, HR, HG⟩ := hrel
    cases hf : Fr.first (T.data.toList.drop n) with
    | none =>
      have HC : Hid (Comes T.data.toList v n) := HG.out.stop (Stops.first hf)
      have HF : Hid _ := Fr.refFirst_none T n wr (by omega) (by omega) (by omega) (fun _ _ => by simpa using hf)
      clear hf HG
      go_wp2_with fail
      refine (show Calls _ _ _ _ _ from HF.out).mono ?_
      rintro x w1 ⟨rfl, hb1⟩
      have HR1 : Hid (RR w v w1) := HR.out.below hb1
      clear hb1 HF HR
      obtain ⟨ao, cap, hbx, hrw⟩ := HR1.out.row
      obtain ⟨y0, y1, y2, y3, _⟩ := ve_cells hbx
      obtain ⟨x0, x1, x2, x3, xf⟩ := ve_cells HR1.out.res
      have xf0 := xf 0
      have xf1 := xf 1
      have xf2 := xf 2
      have xf3 := xf 3
      have HSet : Hid _ := ve_set HR1.out.res (.slice ao v.sort.files.length cap) (.int .i64 v.sort.wal) (.int .i64 v.sort.next) (.int .i64 v.sort.seq)
      have HWe : Hid (ReadAns w T.data.toList (.returned (.tuple #[veV (.slice ao v.sort.files.length cap) v.sort, .int .i64 n])) _) := RR.fin HR1.out HC.out (by have := HTl.out; omega) ao cap hrw
      clear xf hbx hrw HR1 HC
      simp only [Ve.zero] at x1 x2 x3
      generalize v.sort.files.length = l6 at *
      go_wp2
      obtain ⟨z0, z1, z2, z3⟩ := HSet.out _ rfl
      refine bodyPost_ret (v := .tuple #[.agg #[.slice ao l6 cap, .int .i64 v.sort.wal, .int .i64 v.sort.next, .int .i64 v.sort.seq], .int .i64 n]) (by simp [results, Tryz.results17, go_sem, z0, z1, z2, z3]) rfl ?_
      exact HWe.out
    | some m =>
      obtain ⟨p, r, hpm, hp, hl⟩ := Fr.first_some hf
      have hl2 := congrArg List.length hl
      rw [List.length_drop, List.length_append, Fr.frame_len, ← Lib.size_eq] at hl2
      have HL : Hid (T.data.toList.drop n = Fr.frame p ++ r) := hl
      have HF : Hid _ := Fr.refFirst_at T n wr (by omega) p r hp hl
      have hps : (Fr.str p).size ≤ 65536 := by rw [Fr.str_size]; exact hp
      clear hf hl hpm
      go_wp2_with fail
      refine (show Calls _ _ _ _ _ from HF.out).mono ?_
      rintro x w1 ⟨rfl, hb1⟩
      have HR1 : Hid (RR w v w1) := HR.out.below hb1
      have HD : Hid _ := decodeR_any (Fr.str p) w1 (by omega)
      clear hb1 HF HR
      go_wp2_with fail
      refine (show Calls _ _ _ _ _ from HD.out).mono ?_
      rintro x w2 (⟨d, a, b, hd, rfl, hown, hfew, hb2⟩ | ⟨hno, rfl, hb2⟩)
      · obtain ⟨aa, ca, ad, cd, rfl, rfl⟩ := hown.form
        rw [str_bs] at hd
        have HDd : Hid (IsEd p d) := hd
        have hlen : d.add.length ≤ p.length := by have := (encE_len d).2; rw [hd.eq]; omega
        obtain ⟨W, hW⟩ : ∃ W, W = w2.alloc (edObj (.slice aa d.add.length ca) (.slice ad d.del.length cd) d) := ⟨_, rfl⟩
        have hb3 : Below w2.heap.size w2 W := by rw [hW]; exact (Below.refl _ _).alloc (Nat.le_refl _) _
        have HRW : Hid (RR w v W) := HR1.out.below (hb2.trans (hb3.mono hb2.size))
        have hownW : EdOwn W w1.heap.size (.slice aa d.add.length ca) (.slice ad d.del.length cd) d := hown.keep fun k _ hk => hb3.block k hk
        obtain ⟨vo, vc, hbx, hrw⟩ := HRW.out.row
        have hvl : v.sort.files.length = v.files.length := srt_len _
        have hon := oneR_any (w.heap.size + 2) (.slice vo v.sort.files.length vc) v.sort aa ca ad cd d W hrw (hownW.ed (fun k hk => hk.elim) hd.ok.add hd.ok.del hfew) (by omega)
        have HOn : Hid _ := hon
        have hg : W.heap[w2.heap.size]? = some (edObj (.slice aa d.add.length ca) (.slice ad d.del.length cd) d) := by rw [hW]; exact heap_alloc_new w2 _
        obtain ⟨g0, g1, g2, g3, g4⟩ := ed_cells hg
        obtain ⟨y0, y1, y2, y3, _⟩ := ve_cells hbx
        have hW' : w2.alloc (.cells #[.slice aa d.add.length ca, .slice ad d.del.length cd, .int .i64 d.wal, .int .i64 d.next, .int .i64 d.seq] 30) = W := hW.symm
        obtain ⟨la, hla⟩ : ∃ la, la = d.add.length := ⟨_, rfl⟩
        obtain ⟨ld, hld⟩ : ∃ ld, ld = d.del.length := ⟨_, rfl⟩
        obtain ⟨lv, hlv⟩ : ∃ lv, lv = v.sort.files.length := ⟨_, rfl⟩
        rw [← hla] at g0 hW' HOn
        rw [← hld] at g1 hW' HOn
        rw [← hlv] at y0 HOn
        unfold edV veV at HOn
        unfold edV
        rw [← hla, ← hld]
        clear hd hown hfew hb2 hb3 hownW hon hg hW HD HR1 hla hld hbx hrw hlv hvl
        go_wp2_with fail
        refine (show Calls _ _ _ _ _ from HOn.out).mono ?_
        rintro y w5 (⟨hok, f, rfl, hfr, hb5⟩ | ⟨hok, rfl, hb5⟩)
        · rw [sort_okR] at hok
          rw [sort_nxtR] at hfr ⊢
          have HR5 : Hid (RR w v w5) := HRW.out.below hb5
          have hst : Steps T.data.toList n v (n + 8 + p.length) (nxt v d) := ⟨p, r, d, hp, HL.out, ⟨HDd.out, one_is hok⟩, rfl⟩
          obtain ⟨hg, hlt⟩ := HG.out.step hst
          have hle := hg.le
          have hmT : n + 8 + p.length ≤ T.size := by have := HTl.out; omega
          have HG5 : Hid (Came T.data.toList (nxt v d) (n + 8 + p.length)) := hg
          have hul : (nxt v d).files.length ≤ n + 8 + p.length := by
            have := stay_len v.files d.del
            simp only [nxt, List.length_append]
            omega
          have hWs := HRW.out.bel.size
          have hlt1 := lt_of_block HRW.out.row.choose_spec.choose_spec.1
          obtain ⟨uo, uc, rfl⟩ := form_any hfr
          unfold VerAt at hfr
          obtain ⟨W6, hW6⟩ : ∃ W6, W6 = w5.alloc (veObj (.slice uo (nxt v d).sort.files.length uc) (nxt v d).sort) := ⟨_, rfl⟩
          have hb6 : Below w5.heap.size w5 W6 := by rw [hW6]; exact (Below.refl _ _).alloc (Nat.le_refl _) _
          have hr6 : RR w v W6 := HR5.out.below hb6
          have hrow6 : W6.ownsRow (w.heap.size + 2) 53 2 (.slice uo (nxt v d).sort.files.length uc) (nxt v d).sort.files.length (fiShape.vals (nxt v d).sort.files) :=
            rows_keep (Joins.ownsRow_le hfr (by omega)) fun j hj => hb6.block j (World.ownsRow.lt hfr j hj).2
          have HRP : Hid _ := hr6.put hrow6
          have hg6 : W6.heap[w5.heap.size]? = some (veObj (.slice uo (nxt v d).sort.files.length uc) (nxt v d).sort) := by rw [hW6]; exact heap_alloc_new w5 _
          obtain ⟨k0, k1, k2, k3, _⟩ := ve_cells hg6
          obtain ⟨vo6, vc6, hbx6, _⟩ := hr6.row
          obtain ⟨x0, x1, x2, x3, xf⟩ := ve_cells hbx6
          have xf0 := xf 0
          have xf1 := xf 1
          have xf2 := xf 2
          have xf3 := xf 3
          have hW6' : w5.alloc (.cells #[.slice uo (nxt v d).sort.files.length uc, .int .i64 (nxt v d).sort.wal, .int .i64 (nxt v d).sort.next, .int .i64 (nxt v d).sort.seq] 26) = W6 := hW6.symm
          have HCast : Hid ((n : Int) + 8 + (p.length : Int) = ((n + 8 + p.length : Nat) : Int)) := by show _ = _; omega
          clear hok hfr hst hg hle hWs hlt1 hW6 hb6 hr6 hrow6 hg6 hbx6 xf HR5 hb5 HOn g0 g1 g2 g3 g4 y0 y1 y2 y3 hW' HRW HDd HG HL
          unfold veV
          generalize nxt v d = u at *
          generalize u.sort.files.length = lu at *
          go_wp2
          go_roundw
          case rel => exact ⟨n + 8 + p.length, u, by rw [HCast.out], hmT, hul, HRP, HG5⟩
          case measure => simp [intOf]; omega
        · rw [sort_okR] at hok
          have HC : Hid (Comes T.data.toList v n) := HG.out.stop (Stops.not hp HL.out (fun d' u' ht' => by
            obtain rfl := ht'.1.unique HDd.out
            have h2 := ht'.2
            rw [one_none hok] at h2
            cases h2))
          have HR5 : Hid (RR w v (w5.alloc (.cells #[.slice none 0 0, .int .i64 0, .int .i64 0, .int .i64 0] 26))) := (HRW.out.below hb5).below ((Below.refl _ _).alloc (Nat.le_refl _) _)
          clear hok hb5 HOn g0 g1 g2 g3 g4 y0 y1 y2 y3 hW' HRW HDd HG HL
          unfold veV Ve.zero
          obtain ⟨ao, cap, hbx, hrw⟩ := HR5.out.row
          obtain ⟨y0, y1, y2, y3, _⟩ := ve_cells hbx
          obtain ⟨x0, x1, x2, x3, xf⟩ := ve_cells HR5.out.res
          have xf0 := xf 0
          have xf1 := xf 1
          have xf2 := xf 2
          have xf3 := xf 3
          have HSet : Hid _ := ve_set HR5.out.res (.slice ao v.sort.files.length cap) (.int .i64 v.sort.wal) (.int .i64 v.sort.next) (.int .i64 v.sort.seq)
          have HWe : Hid (ReadAns w T.data.toList (.returned (.tuple #[veV (.slice ao v.sort.files.length cap) v.sort, .int .i64 n])) _) := RR.fin HR5.out HC.out (by have := HTl.out; omega) ao cap hrw
          clear xf hbx hrw HR5 HC
          simp only [Ve.zero] at x1 x2 x3
          generalize v.sort.files.length = l6 at *
          go_wp2
          obtain ⟨z0, z1, z2, z3⟩ := HSet.out _ rfl
          refine bodyPost_ret (v := .tuple #[.agg #[.slice ao l6 cap, .int .i64 v.sort.wal, .int .i64 v.sort.next, .int .i64 v.sort.seq], .int .i64 n]) (by simp [results, Tryz.results17, go_sem, z0, z1, z2, z3]) rfl ?_
          exact HWe.out
      · have HC : Hid (Comes T.data.toList v n) := HG.out.stop (Stops.not hp HL.out (fun d u ht => hno d (by rw [str_bs]; exact ht.1)))
        have HR5 : Hid (RR w v (w2.alloc (.cells #[.slice none 0 0, .slice none 0 0, .int .i64 0, .int .i64 0, .int .i64 0] 30))) := (HR1.out.below hb2).below ((Below.refl _ _).alloc (Nat.le_refl _) _)
        unfold edV edZero
        clear hno hb2 HD HR1 HG HL
        obtain ⟨ao, cap, hbx, hrw⟩ := HR5.out.row
        obtain ⟨y0, y1, y2, y3, _⟩ := ve_cells hbx
        obtain ⟨x0, x1, x2, x3, xf⟩ := ve_cells HR5.out.res
        have xf0 := xf 0
        have xf1 := xf 1
        have xf2 := xf 2
        have xf3 := xf 3
        have HSet : Hid _ := ve_set HR5.out.res (.slice ao v.sort.files.length cap) (.int .i64 v.sort.wal) (.int .i64 v.sort.next) (.int .i64 v.sort.seq)
        have HWe : Hid (ReadAns w T.data.toList (.returned (.tuple #[veV (.slice ao v.sort.files.length cap) v.sort, .int .i64 n])) _) := RR.fin HR5.out HC.out (by have := HTl.out; omega) ao cap hrw
        clear xf hbx hrw HR5 HC
        simp only [Ve.zero] at x1 x2 x3
        generalize v.sort.files.length = l6 at *
        go_wp2
        obtain ⟨z0, z1, z2, z3⟩ := HSet.out _ rfl
        refine bodyPost_ret (v := .tuple #[.agg #[.slice ao l6 cap, .int .i64 v.sort.wal, .int .i64 v.sort.next, .int .i64 v.sort.seq], .int .i64 n]) (by simp [results, Tryz.results17, go_sem, z0, z1, z2, z3]) rfl ?_
        exact HWe.out
end Go.Proofs.YtjfanbemihheiaaGreatDoor.Ma
