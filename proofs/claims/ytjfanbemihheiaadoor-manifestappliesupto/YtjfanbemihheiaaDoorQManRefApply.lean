/-
  The reference: Apply.
-/
import Derived.Test.YtjfanbemihheiaaDoorQManRefOne
import Derived.Test.YtjfanbemihheiaaDoorQManApplyWalk
import Derived.Handy
namespace Go.Proofs.YtjfanbemihheiaaDoor.Ma
open Go.RowKit Cm
set_option linter.unusedVariables false

/-- The version so far, in its box. -/
structure ApR (w : World) (u : Ve) (X : World) : Prop where
  bel : Below w.heap.size w X
  row : ∃ ao cap, X.heap[w.heap.size]? = some (veObj (.slice ao u.files.length cap) u) ∧ X.ownsRow (w.heap.size + 2) 28 2 (.slice ao u.files.length cap) u.files.length (fiShape.vals u.files)
  br : X.heap[w.heap.size + 1]? = some (veObj (.slice none 0 0) Ve.zero)
theorem ApR.below {w X Y : World} {u : Ve} (h : ApR w u X) (hb : Below X.heap.size X Y) : ApR w u Y := by
  obtain ⟨ao, cap, h1, h2⟩ := h.row
  exact ⟨h.bel.trans (hb.mono h.bel.size), ⟨ao, cap, (hb.block _ (lt_of_block h1)).trans h1, rows_keep h2 fun j hj => hb.block j (World.ownsRow.lt h2 j hj).2⟩, (hb.block _ (lt_of_block h.br)).trans h.br⟩
theorem ApR.put {w X : World} {u v : Ve} {ao : Option Addr} {cap : Nat} (h : ApR w u X) (hrow : X.ownsRow (w.heap.size + 2) 28 2 (.slice ao v.files.length cap) v.files.length (fiShape.vals v.files)) :
    ApR w v ((((X.setCell ⟨w.heap.size, 0, none⟩ (.slice ao v.files.length cap)).setCell ⟨w.heap.size, 1, none⟩ (.int .i64 v.wal)).setCell ⟨w.heap.size, 2, none⟩ (.int .i64 v.next)).setCell ⟨w.heap.size, 3, none⟩ (.int .i64 v.seq)) := by
  obtain ⟨ao0, cap0, h1, _⟩ := h.row
  have hk : ∀ k, k ≠ w.heap.size → ((((X.setCell ⟨w.heap.size, 0, none⟩ (.slice ao v.files.length cap)).setCell ⟨w.heap.size, 1, none⟩ (.int .i64 v.wal)).setCell ⟨w.heap.size, 2, none⟩ (.int .i64 v.next)).setCell ⟨w.heap.size, 3, none⟩ (.int .i64 v.seq)).heap[k]? = X.heap[k]? := fun k hk => by
    rw [Below.heap_setCell _ _ _ _ (by simpa using hk), Below.heap_setCell _ _ _ _ (by simpa using hk), Below.heap_setCell _ _ _ _ (by simpa using hk), Below.heap_setCell _ _ _ _ (by simpa using hk)]
  refine ⟨(((h.bel.setCell (by simp) _).setCell (by simp) _).setCell (by simp) _).setCell (by simp) _, ⟨ao, cap, ?_, rows_keep hrow fun k e => hk k (by have := (World.ownsRow.lt hrow k e).1; omega)⟩, (hk _ (by omega)).trans h.br⟩
  unfold veObj at h1
  have q1 := Joins.block_setCell h1 (i := 0) (.slice ao v.files.length cap)
  have q2 := Joins.block_setCell q1 (i := 1) (.int .i64 v.wal)
  have q3 := Joins.block_setCell q2 (i := 2) (.int .i64 v.next)
  have q4 := Joins.block_setCell q3 (i := 3) (.int .i64 v.seq)
  rw [q4]; rfl
theorem EdAt.of (w : World) {X : World} {x : Ei} (h : EiAt w x) (hb : Below w.heap.size w X) : EdAt X (fun _ => False) x.aa x.ca x.ad x.cd x.e := h.ed hb fun k hk => hk.elim
theorem sort_ok (y : Ve) (e : Ed) : okE y.sort e = okE y e := (Like.sort y).ok e
theorem sort_nxt (y : Ve) (e : Ed) : (nxt y.sort e).sort = (nxt y e).sort := ((Like.sort y).nxt e).eq

set_option maxRecDepth 100000 in
set_option maxHeartbeats 2000000 in
theorem applyR_any (ao : Option Addr) (ca : Nat) (v : Ve) (bo : Option Addr) (cap : Nat) (xs : List Ei) (w : World) (hv : ElemsAt fiShape w ao v.files) (hx : ElemsAt eiShape w bo xs) (hxs : ∀ x ∈ xs, EiAt w x)
    (hl : v.files.length + addsum (xs.map (·.e)) ≤ 100000000000) (hxl : xs.length ≤ 100000000000) :
    Calls Tryd.prog 7 #[veV (.slice ao v.files.length ca) v, .slice bo xs.length cap] w (ApplyAns w v (xs.map (·.e))) := by
  obtain ⟨w2, hw2⟩ : ∃ w2, w2 = (w.alloc (veObj (.slice ao v.files.length ca) v)).alloc (veObj (.slice none 0 0) Ve.zero) := ⟨_, rfl⟩
  have hb2 : Below w.heap.size w w2 := by rw [hw2]; exact ((Below.refl _ _).alloc (Nat.le_refl _) _).alloc (by simp) _
  have hs2 : w2.heap.size = w.heap.size + 2 := by rw [hw2]; simp
  have hx2 : w2.heap[w.heap.size + 1]? = some (veObj (.slice none 0 0) Ve.zero) := by
    have := heap_alloc_new (w.alloc (veObj (.slice ao v.files.length ca) v)) (veObj (.slice none 0 0) Ve.zero)
    rw [World.size_alloc] at this
    rw [hw2]; exact this
  have hy2 : w2.heap[w.heap.size]? = some (veObj (.slice ao v.files.length ca) v) := by
    rw [hw2]; exact (Below.heap_alloc _ _ _ (by simp)).trans (heap_alloc_new w _)
  obtain ⟨m, hm⟩ : ∃ m, m = v.files.length := ⟨_, rfl⟩
  obtain ⟨n, hn⟩ : ∃ n, n = xs.length := ⟨_, rfl⟩
  have HN : Hid (n = xs.length) := hn
  have HM : Hid (m = v.files.length) := hm
  have HL : Hid (v.files.length + addsum (xs.map (·.e)) ≤ 100000000000) := hl
  rw [← hm] at hy2 hw2
  rw [← hm, ← hn]
  have HV : Hid (ElemsAt fiShape w ao v.files) := hv
  have HX : Hid (ElemsAt eiShape w bo xs) := hx
  have HXs : Hid (∀ x ∈ xs, EiAt w x) := hxs
  have HB2 : Hid (Below w.heap.size w w2) := hb2
  have HX2 : Hid (w2.heap[w.heap.size + 1]? = some (veObj (.slice none 0 0) Ve.zero)) := hx2
  have HY2 : Hid (w2.heap[w.heap.size]? = some (veObj (.slice ao m ca) v)) := hy2
  have HS2 : Hid (w2.heap.size = w.heap.size + 2) := hs2
  obtain ⟨y0, y1, y2, y3, _⟩ := ve_cells hy2
  have hw2' : (w.alloc (.cells #[.slice ao m ca, .int .i64 v.wal, .int .i64 v.next, .int .i64 v.seq] 24)).alloc (.cells #[.slice none 0 0, .int .i64 0, .int .i64 0, .int .i64 0] 24) = w2 := hw2.symm
  have hnl : n ≤ 100000000000 := by omega
  have hml : m ≤ 100000000000 := by omega
  obtain ⟨es, hes⟩ : ∃ es, es = xs.map (·.e) := ⟨_, rfl⟩
  have HEs : Hid (es = xs.map (·.e)) := hes
  rw [← hes] at HL ⊢
  clear hv hx hxs hl hxl hb2 hx2 hy2 hs2 hm hn hw2 hes
  unfold veV
  go_enter Tryd.func7, Tryd.ntmps7
  go_wp2
  clear hw2' y0 y1 y2 y3
  go_loopw [6, 16] (fun u i wr => ∃ k : Nat, k ≤ m ∧ i = .int .i64 k ∧ Hid (Below w2.heap.size w2 wr) ∧ Hid (ListAt w2.heap.size u (v.files.take k) wr)) (fun _ i _ => m - (intOf i).toNat)
  case atStart => exact ⟨0, by omega, rfl, Below.refl _ _, by rw [List.take_zero]; exact ListAt.nil _ _⟩
  case round =>
    obtain ⟨k, hk, rfl, HB, HLi⟩ := hrel
    have hbw : Below w.heap.size w wr := HB2.out.trans (HB.out.mono HB2.out.size)
    by_cases hlt : k < m
    · have hkm : k < v.files.length := by have := HM.out; omega
      obtain ⟨b, off, rfl, c0, c1⟩ := fi_cells (HV.out.later hbw) hkm
      have hts := take_at hkm (d := (0, 0))
      obtain ⟨X1, hX1⟩ : ∃ X1, X1 = wr.alloc (fiObj (v.files.getD k (0, 0))) := ⟨_, rfl⟩
      have hb1 : Below wr.heap.size wr X1 := by rw [hX1]; exact (Below.refl _ _).alloc (Nat.le_refl _) _
      have hb : X1.heap[wr.heap.size]? = some (fiObj (v.files.getD k (0, 0))) := by rw [hX1]; exact heap_alloc_new wr _
      have HPu : Hid _ := putR_any _ u6 (srt (v.files.take k)) (v.files.getD k (0, 0)) X1 (HLi.out.keep hb1) (srt_sorted _) (by rw [srt_len, List.length_take]; omega)
      obtain ⟨d0, d1⟩ := fb_cells hb
      have hX1' := hX1.symm
      have HB1 : Hid (Below w2.heap.size w2 X1) := HB.out.trans (hb1.mono HB.out.size)
      unfold fiObj at hX1'
      generalize v.files.getD k (0, 0) = f at *
      have HSo : Hid (v.files.take (k + 1) = v.files.take k ++ [f]) := hts
      clear hkm hX1 hb1 hb hts hbw
      go_wp2_with fail
      refine (show Calls _ _ _ _ _ from HPu.out).mono ?_
      rintro y w7 hp
      obtain ⟨u', rfl, hl7, hb7⟩ := ListAt.put (HB1.out.size) hp
      have HB7 : Hid (Below w2.heap.size w2 w7) := HB1.out.trans (hb7.mono HB1.out.size)
      have HL7 : Hid (ListAt w2.heap.size u' (v.files.take (k + 1)) w7) := by show ListAt _ _ _ _; rw [HSo.out]; exact hl7
      clear hp hl7 hb7
      go_wp2
      go_roundw
      case rel => exact ⟨k + 1, by omega, by go_num, HB7.out, HL7.out⟩
      case measure => simp [intOf]; omega
    · obtain rfl : k = m := by omega
      have hrow : wr.ownsRow (w.heap.size + 2) 28 2 u6 (srt v.files).length (fiShape.vals (srt v.files)) := by
        have := HLi.out
        rw [HM.out, List.take_length] at this
        rw [← HS2.out]; exact this
      obtain ⟨uo, uc, rfl⟩ := form_any hrow
      rw [srt_len, ← HM.out] at hrow
      rw [srt_len, ← HM.out]
      have hyr := (HB.out.block _ (by have := HS2.out; omega)).trans HY2.out
      have hxr := (HB.out.block _ (by have := HS2.out; omega)).trans HX2.out
      have HA : Hid (ApR w v.sort (wr.setCell ⟨w.heap.size, 0, none⟩ (.slice uo k uc))) := by
        have hkk : ∀ j, j ≠ w.heap.size → (wr.setCell ⟨w.heap.size, 0, none⟩ (.slice uo k uc)).heap[j]? = wr.heap[j]? := fun j hj => Below.heap_setCell _ _ _ _ (by simpa using hj)
        have hsl : v.sort.files.length = k := by show (srt v.files).length = k; rw [srt_len, HM.out]
        refine ⟨hbw.setCell (by simp) _, ⟨uo, uc, ?_, ?_⟩, (hkk _ (by omega)).trans hxr⟩
        · unfold veObj at hyr
          rw [Joins.block_setCell hyr (i := 0), hsl]; rfl
        · rw [hsl]
          exact rows_keep hrow fun j e => hkk j (by have := (World.ownsRow.lt hrow j e).1; omega)
      obtain ⟨y0, y1, y2, y3, yf⟩ := ve_cells hyr
      have yf0 := yf 0
      clear hrow hyr hxr yf hlt HLi hbw
      go_wp2
      have HA0 : Hid (∃ y, app v (es.take 0) = some y ∧ ApR w y.sort (wr.setCell ⟨w.heap.size, 0, none⟩ (.slice uo k uc))) := ⟨v, rfl, HA.out⟩
      clear y0 y1 y2 y3 yf0 HA HB
      generalize wr.setCell ⟨w.heap.size, 0, none⟩ (.slice uo k uc) = X0 at *
      go_loopw [28] (fun i wr => ∃ q : Nat, q ≤ n ∧ i = .int .i64 q ∧ Hid (∃ y, app v (es.take q) = some y ∧ ApR w y.sort wr)) (fun i _ => n - (intOf i).toNat)
      case atStart => exact ⟨0, by omega, rfl, HA0⟩
      case round =>
        clear HA0
        obtain ⟨q, hq, rfl, HA⟩ := hrel
        obtain ⟨y, hy, hA⟩ := HA.out
        have HU : Hid (app v (es.take q) = some y) := hy
        have HAp : Hid (ApR w y.sort wr) := hA
        clear HA
        obtain ⟨fo, fc, hbx, hfr⟩ := hA.row
        obtain ⟨y0, y1, y2, y3, _⟩ := ve_cells hbx
        have hyl := app_len hy
        have hsl : y.sort.files.length = y.files.length := srt_len _
        by_cases hlt : q < n
        · have hkx : q < xs.length := by have := HN.out; omega
          obtain ⟨b, off, rfl, e0, e1, e2, e3, e4⟩ := ei_get HX.out hA.bel hkx
          have hei := HXs.out (xs.getD q Ei.zero) (by rw [getD_lt _ _ _ hkx]; exact List.getElem_mem _)
          have hke : q < es.length := by rw [HEs.out, List.length_map]; exact hkx
          have HTk : Hid (es.take (q + 1) = es.take q ++ [(xs.getD q Ei.zero).e]) := by show _ = _; rw [take_at hke (d := edZero), HEs.out, es_at hkx]
          have HSum : Hid (addsum (es.take (q + 1)) = addsum (es.take q) + (xs.getD q Ei.zero).e.add.length) := by show _ = _; rw [HTk.out, addsum_append]; simp [addsum]
          have HSle : Hid (addsum (es.take (q + 1)) ≤ addsum es) := addsum_take _ _
          generalize xs.getD q Ei.zero = x at *
          obtain ⟨W0, hW0⟩ : ∃ W0, W0 = wr.alloc (.cells #[x.a, x.d, .int .i64 x.e.wal, .int .i64 x.e.next, .int .i64 x.e.seq] 36) := ⟨_, rfl⟩
          have hbW : Below wr.heap.size wr W0 := by rw [hW0]; exact (Below.refl _ _).alloc (Nat.le_refl _) _
          have hg0 : W0.heap[wr.heap.size]? = some (.cells #[x.a, x.d, .int .i64 x.e.wal, .int .i64 x.e.next, .int .i64 x.e.seq] 36 (0, 0)) := by rw [hW0]; exact heap_alloc_new wr _
          have HA0 : Hid (ApR w y.sort W0) := hA.below hbW
          have HOne : Hid _ := oneR_any (w.heap.size + 2) (.slice fo y.sort.files.length fc) y.sort x.aa x.ca x.ad x.cd x.e W0 (rows_keep hfr fun j hj => hbW.block j (World.ownsRow.lt hfr j hj).2) (hei.ed (hA.bel.trans (hbW.mono hA.bel.size)) fun k hk => hk.elim) (by have := HSum.out; have := HSle.out; have := HL.out; omega)
          have hW0' := hW0.symm
          have HOr : Hid (app v (es.take (q + 1)) = one y x.e) := by show _ = _; rw [HTk.out]; exact app_snoc hy x.e
          have HNo : Hid (one y x.e = none → app v es = none) := fun h => app_cut (k := q + 1) (by rw [HTk.out]; exact (app_snoc hy x.e).trans h)
          obtain ⟨y0', y1', y2', y3', _⟩ := ve_cells ((hbW.block _ (lt_of_block hbx)).trans hbx)
          unfold edV veV at HOne
          change Hid (Calls _ _ #[_, .agg #[x.a, x.d, _, _, _]] _ _) at HOne
          have ha : ∃ p l c, x.a = .slice p l c := ⟨_, _, _, rfl⟩
          have hd : ∃ p l c, x.d = .slice p l c := ⟨_, _, _, rfl⟩
          generalize x.a = xa at *
          generalize x.d = xd at *
          obtain ⟨p1, l1, c1, rfl⟩ := ha
          obtain ⟨p2, l2, c2, rfl⟩ := hd
          have g0 : W0.cell? ⟨wr.heap.size, 0, none⟩ = some (.slice p1 l1 c1) := by rw [Joins.cell_of_block hg0]; rfl
          have g1 : W0.cell? ⟨wr.heap.size, 1, none⟩ = some (.slice p2 l2 c2) := by rw [Joins.cell_of_block hg0]; rfl
          have g2 : W0.cell? ⟨wr.heap.size, 2, none⟩ = some (.int .i64 x.e.wal) := by rw [Joins.cell_of_block hg0]; rfl
          have g3 : W0.cell? ⟨wr.heap.size, 3, none⟩ = some (.int .i64 x.e.next) := by rw [Joins.cell_of_block hg0]; rfl
          have g4 : W0.cell? ⟨wr.heap.size, 4, none⟩ = some (.int .i64 x.e.seq) := by rw [Joins.cell_of_block hg0]; rfl
          clear hei hy hA hbx hfr hyl hsl hkx hke hW0 hbW hg0 y0 y1 y2 y3
          go_wp2_with fail
          refine (show Calls _ _ _ _ _ from HOne.out).mono ?_
          rintro z w5 (⟨hok, f, rfl, hf, hb5⟩ | ⟨hok, rfl, hb5⟩)
          · rw [sort_ok] at hok
            rw [sort_nxt] at hf ⊢
            have HU2 : Hid (app v (es.take (q + 1)) = some (nxt y x.e)) := by show _ = _; rw [HOr.out]; exact one_is hok
            generalize nxt y x.e = u at *
            obtain ⟨p6, c6, rfl⟩ := form_any hf
            obtain ⟨W6, hW6⟩ : ∃ W6, W6 = w5.alloc (veObj (.slice p6 u.sort.files.length c6) u.sort) := ⟨_, rfl⟩
            have hb6 : Below w5.heap.size w5 W6 := by rw [hW6]; exact (Below.refl _ _).alloc (Nat.le_refl _) _
            have hn6 : W6.heap[w5.heap.size]? = some (veObj (.slice p6 u.sort.files.length c6) u.sort) := by rw [hW6]; exact heap_alloc_new w5 _
            have hA6 := HA0.out.below (hb5.trans (hb6.mono hb5.size))
            have h02 : w.heap.size + 2 ≤ W0.heap.size := by have := lt_of_block HA0.out.br; omega
            have HPut : Hid _ := hA6.put (Joins.ownsRow_le (rows_keep hf fun j hj => hb6.block j (World.ownsRow.lt hf j hj).2) h02)
            obtain ⟨fo6, fc6, hbx6, _⟩ := hA6.row
            obtain ⟨d0, d1, d2, d3, _⟩ := ve_cells hn6
            obtain ⟨k0, k1, k2, k3, kf⟩ := ve_cells hbx6
            have kf0 := kf 0
            have kf1 := kf 1
            have kf2 := kf 2
            have kf3 := kf 3
            have hW6' := hW6.symm
            unfold veObj at hW6'
            unfold veV
            clear hok hf hb5 hW6 hb6 hn6 hA6 hbx6 kf y0' y1' y2' y3' g0 g1 g2 g3 g4 hW0' HOne HOr HNo HU HAp
            generalize hl6 : u.sort.files.length = l6 at *
            go_wp2
            go_roundw
            case rel => exact ⟨q + 1, by omega, by go_num, u, HU2.out, HPut.out⟩
            case measure => simp [intOf]; omega
          · rw [sort_ok] at hok
            have HF : Hid (app v es = none) := HNo.out (one_none hok)
            have hA6 := HA0.out.below (hb5.trans ((Below.refl _ _).alloc (Nat.le_refl _) (veObj (.slice none 0 0) Ve.zero) |>.mono hb5.size))
            obtain ⟨x0, x1, x2, x3, xf⟩ := ve_cells hA6.br
            have xf0 := xf 0
            have xf1 := xf 1
            have xf2 := xf 2
            have xf3 := xf 3
            have HSet : Hid _ := ve_set hA6.br (.slice none 0 0) (.int .i64 0) (.int .i64 0) (.int .i64 0)
            have HWe : Hid (Below w.heap.size w _) := (((hA6.bel.setCell (p := ⟨w.heap.size + 1, 0, none⟩) (by simp) (.slice none 0 0)).setCell (p := ⟨w.heap.size + 1, 1, none⟩) (by simp) (.int .i64 0)).setCell (p := ⟨w.heap.size + 1, 2, none⟩) (by simp) (.int .i64 0)).setCell (p := ⟨w.heap.size + 1, 3, none⟩) (by simp) (.int .i64 0)
            unfold veV
            unfold veObj at HSet HWe x0 x1 x2 x3 xf0 xf1 xf2 xf3
            clear hok hb5 hA6 xf y0' y1' y2' y3' g0 g1 g2 g3 g4 hW0' HOne HOr HNo HU HAp
            simp only [Ve.zero] at x0 x1 x2 x3 xf0 xf1 xf2 xf3 HSet HWe ⊢
            go_wp2
            obtain ⟨z0, z1, z2, z3⟩ := HSet.out _ rfl
            refine bodyPost_ret (v := .tuple #[.agg #[.slice none 0 0, .int .i64 0, .int .i64 0, .int .i64 0], .int .i64 11]) (by simp [results, Tryd.results7, go_sem, z0, z1, z2, z3]) rfl ?_
            exact .inr ⟨HF.out, rfl, HWe.out⟩
        · obtain rfl : q = n := by omega
          have hkx : q = es.length := by rw [HEs.out, List.length_map]; exact HN.out
          have HU2 : Hid (app v es = some y) := by have := HU.out; rw [hkx, List.take_length] at this; exact this
          obtain ⟨x0, x1, x2, x3, xf⟩ := ve_cells hA.br
          have xf0 := xf 0
          have xf1 := xf 1
          have xf2 := xf 2
          have xf3 := xf 3
          have HSet : Hid _ := ve_set hA.br (.slice fo y.sort.files.length fc) (.int .i64 y.sort.wal) (.int .i64 y.sort.next) (.int .i64 y.sort.seq)
          have HWe : Hid (ApplyAns w v es (.returned (.tuple #[veV (.slice fo y.sort.files.length fc) y.sort, .int .i64 0])) ((((wr.setCell ⟨w.heap.size + 1, 0, none⟩ (.slice fo y.sort.files.length fc)).setCell ⟨w.heap.size + 1, 1, none⟩ (.int .i64 y.sort.wal)).setCell ⟨w.heap.size + 1, 2, none⟩ (.int .i64 y.sort.next)).setCell ⟨w.heap.size + 1, 3, none⟩ (.int .i64 y.sort.seq))) := by
            refine .inl ⟨y, _, HU2.out, rfl, ?_, (((hA.bel.setCell (by simp) _).setCell (by simp) _).setCell (by simp) _).setCell (by simp) _⟩
            unfold VerAt
            refine Joins.ownsRow_le (rows_keep hfr fun k hk => ?_) (Nat.le_add_right _ 2)
            have hkn : k ≠ w.heap.size + 1 := by have := (World.ownsRow.lt hfr k hk).1; omega
            rw [Below.heap_setCell _ _ _ _ (by simpa using hkn), Below.heap_setCell _ _ _ _ (by simpa using hkn), Below.heap_setCell _ _ _ _ (by simpa using hkn), Below.heap_setCell _ _ _ _ (by simpa using hkn)]
          unfold veV at HWe
          clear xf hy hA hfr hbx hyl hsl hkx HU HAp
          simp only [Ve.zero] at x1 x2 x3
          generalize y.sort.files.length = l6 at *
          go_wp2
          obtain ⟨z0, z1, z2, z3⟩ := HSet.out _ rfl
          refine bodyPost_ret (v := .tuple #[.agg #[.slice fo l6 fc, .int .i64 y.sort.wal, .int .i64 y.sort.next, .int .i64 y.sort.seq], .int .i64 0]) (by simp [results, Tryd.results7, go_sem, z0, z1, z2, z3]) rfl ?_
          exact HWe.out
end Go.Proofs.YtjfanbemihheiaaDoor.Ma
