/-
  Package manifest: Apply.
-/
import Derived.Test.YtjfanbemihheiaaDoorQManApply
import Derived.Handy
namespace Go.Proofs.YtjfanbemihheiaaDoor.Ma
open Go.RowKit Cm
set_option linter.unusedVariables false

/-- What Apply answers: the version behind the edits, or that they can't be applied. -/
def ApplyAns (w : World) (v : Ve) (es : List Ed) (e : Ending) (w' : World) : Prop :=
  (∃ u f, app v es = some u ∧ e = .returned (.tuple #[veV f u.sort, .int .i64 0]) ∧ VerAt w' w.heap.size f u.sort ∧ Below w.heap.size w w') ∨
  (app v es = none ∧ e = .returned (.tuple #[veV (.slice none 0 0) Ve.zero, .int .i64 11]) ∧ Below w.heap.size w w')
theorem ve_set {w : World} {g : Nat} {f : Value} {v : Ve} (h : w.heap[g]? = some (veObj f v)) (a b c d : Value) : ∀ X, X = ((((w.setCell ⟨g, 0, none⟩ a).setCell ⟨g, 1, none⟩ b).setCell ⟨g, 2, none⟩ c).setCell ⟨g, 3, none⟩ d) →
    X.cell? ⟨g, 0, none⟩ = some a ∧ X.cell? ⟨g, 1, none⟩ = some b ∧ X.cell? ⟨g, 2, none⟩ = some c ∧ X.cell? ⟨g, 3, none⟩ = some d := by
  rintro X rfl
  unfold veObj at h
  have e1 := Joins.block_setCell h (i := 0) a
  have e2 := Joins.block_setCell e1 (i := 1) b
  have e3 := Joins.block_setCell e2 (i := 2) c
  have e4 := Joins.block_setCell e3 (i := 3) d
  refine ⟨?_, ?_, ?_, ?_⟩ <;> rw [Joins.cell_of_block e4] <;> rfl
structure Applying (w2 : World) (q : Nat) (v : Ve) (es : List Ed) (k : Nat) (wr : World) : Prop where
  shelf : ∃ u, app v (es.take k) = some u ∧ ShelfAt wr (fun j => w2.heap.size ≤ j) q u (v.files.length + addsum (es.take k))
  bel : Below w2.heap.size w2 wr
theorem ei_get {w wr : World} {bo : Option Addr} {xs : List Ei} (h : ElemsAt eiShape w bo xs) (hb : Below w.heap.size w wr) {k : Nat} (hk : k < xs.length) : ∃ b off, bo = some ⟨b, off, none⟩ ∧ wr.cell? ⟨b, off + k * 5, none⟩ = some (xs.getD k Ei.zero).a ∧ wr.cell? ⟨b, off + k * 5 + 1, none⟩ = some (xs.getD k Ei.zero).d ∧
    wr.cell? ⟨b, off + k * 5 + 2, none⟩ = some (.int .i64 (xs.getD k Ei.zero).e.wal) ∧ wr.cell? ⟨b, off + k * 5 + 3, none⟩ = some (.int .i64 (xs.getD k Ei.zero).e.next) ∧ wr.cell? ⟨b, off + k * 5 + 4, none⟩ = some (.int .i64 (xs.getD k Ei.zero).e.seq) := by
  rw [getD_lt _ _ _ hk]
  rcases h.later hb with rfl | ⟨b, off, rfl, _, hc⟩
  · simp at hk
  · exact ⟨b, off, rfl, hc k hk 0 _ rfl, hc k hk 1 _ rfl, hc k hk 2 _ rfl, hc k hk 3 _ rfl, hc k hk 4 _ rfl⟩
theorem EiAt.ed {w X : World} {x : Ei} (h : EiAt w x) (hb : Below w.heap.size w X) {S : Nat → Prop} (hS : ∀ k, S k → w.heap.size ≤ k) : EdAt X S x.aa x.ca x.ad x.cd x.e :=
  ⟨far_of h.add hb hS, farN_of h.del hb hS, h.na, h.nd, h.ok.add, h.ok.del, h.few⟩
theorem es_at {xs : List Ei} {k : Nat} (hk : k < xs.length) : (xs.map (·.e)).getD k edZero = (xs.getD k Ei.zero).e := by
  rw [getD_lt _ _ _ (by simpa using hk), getD_lt _ _ _ hk]; simp

set_option maxRecDepth 100000 in
set_option maxHeartbeats 2000000 in
theorem apply_any (ao : Option Addr) (ca : Nat) (v : Ve) (bo : Option Addr) (cap : Nat) (xs : List Ei) (w : World) (hv : ElemsAt fiShape w ao v.files) (hvo : ∀ f ∈ v.files, OkF f) (hx : ElemsAt eiShape w bo xs) (hxs : ∀ x ∈ xs, EiAt w x)
    (hl : v.files.length + addsum (xs.map (·.e)) ≤ 100000000000) (hxl : xs.length ≤ 100000000000) :
    Calls Tryd.prog 6 #[veV (.slice ao v.files.length ca) v, .slice bo xs.length cap] w (ApplyAns w v (xs.map (·.e))) := by
  obtain ⟨w2, hw2⟩ : ∃ w2, w2 = (w.alloc (veObj (.slice ao v.files.length ca) v)).alloc (veObj (.slice none 0 0) Ve.zero) := ⟨_, rfl⟩
  have hb2 : Below w.heap.size w w2 := by rw [hw2]; exact ((Below.refl _ _).alloc (Nat.le_refl _) _).alloc (by simp) _
  have hs2 : w2.heap.size = w.heap.size + 2 := by rw [hw2]; simp
  have hx2 : w2.heap[w.heap.size + 1]? = some (veObj (.slice none 0 0) Ve.zero) := by
    have := heap_alloc_new (w.alloc (veObj (.slice ao v.files.length ca) v)) (veObj (.slice none 0 0) Ve.zero)
    rw [World.size_alloc] at this
    rw [hw2]; exact this
  have hy2 : w2.heap[w.heap.size]? = some (veObj (.slice ao v.files.length ca) v) := by
    rw [hw2]; exact (Below.heap_alloc _ _ _ (by simp)).trans (heap_alloc_new w _)
  have HSv : Hid _ := shelve_any ao ca v w2 (hv.later hb2) hvo (by omega)
  obtain ⟨m, hm⟩ : ∃ m, m = v.files.length := ⟨_, rfl⟩
  obtain ⟨n, hn⟩ : ∃ n, n = xs.length := ⟨_, rfl⟩
  have HN : Hid (n = xs.length) := hn
  have HM : Hid (m = v.files.length) := hm
  have HL : Hid (v.files.length + addsum (xs.map (·.e)) ≤ 100000000000) := hl
  rw [← hm] at HSv hy2 hw2
  rw [← hm, ← hn]
  have HX : Hid (ElemsAt eiShape w bo xs) := hx
  have HXs : Hid (∀ x ∈ xs, EiAt w x) := hxs
  have HVo : Hid (∀ f ∈ v.files, OkF f) := hvo
  have HB2 : Hid (Below w.heap.size w w2) := hb2
  have HX2 : Hid (w2.heap[w.heap.size + 1]? = some (veObj (.slice none 0 0) Ve.zero)) := hx2
  have HS2 : Hid (w2.heap.size = w.heap.size + 2) := hs2
  obtain ⟨y0, y1, y2, y3, _⟩ := ve_cells hy2
  have hw2' : (w.alloc (.cells #[.slice ao m ca, .int .i64 v.wal, .int .i64 v.next, .int .i64 v.seq] 24)).alloc (.cells #[.slice none 0 0, .int .i64 0, .int .i64 0, .int .i64 0] 24) = w2 := hw2.symm
  have hnl : n ≤ 100000000000 := by omega
  obtain ⟨es, hes⟩ : ∃ es, es = xs.map (·.e) := ⟨_, rfl⟩
  have HEs : Hid (es = xs.map (·.e)) := hes
  rw [← hes] at HL ⊢
  clear hv hvo hx hxs hl hxl hb2 hx2 hy2 hs2 hm hn hw2 hes
  unfold veV at HSv ⊢
  go_enter Tryd.func6, Tryd.ntmps6
  go_wp2_with fail
  refine (show Calls _ _ _ _ _ from HSv.out).mono ?_
  rintro e w3 ⟨q, rfl, hsh, hb3⟩
  have HAp : Hid (Applying w2 q v es 0 w3) := ⟨⟨v, rfl, by rw [List.take_zero]; show ShelfAt _ _ _ _ (v.files.length + 0); rw [← HM.out]; exact hsh⟩, hb3⟩
  clear hsh hb3 HSv y0 y1 y2 y3 hw2'
  go_wp2
  go_loopw [13] (fun i wr => ∃ k : Nat, k ≤ n ∧ i = .int .i64 k ∧ Hid (Applying w2 q v es k wr)) (fun i _ => n - (intOf i).toNat)
  case atStart => exact ⟨0, by omega, rfl, HAp⟩
  case round =>
    clear HAp
    obtain ⟨k, hk, rfl, HA⟩ := hrel
    have hbw : Below w.heap.size w wr := HB2.out.trans (HA.out.bel.mono HB2.out.size)
    have HBw : Hid (Below w.heap.size w wr) := hbw
    by_cases hlt : k < n
    · have hkx : k < xs.length := by have := HN.out; omega
      obtain ⟨b, off, rfl, e0, e1, e2, e3, e4⟩ := ei_get HX.out hbw hkx
      have hei := HXs.out (xs.getD k Ei.zero) (by rw [getD_lt _ _ _ hkx]; exact List.getElem_mem _)
      have hke : k < es.length := by rw [HEs.out, List.length_map]; exact hkx
      have HTk : Hid (es.take (k + 1) = es.take k ++ [(xs.getD k Ei.zero).e]) := by show _ = _; rw [take_at hke (d := edZero), HEs.out, es_at hkx]
      have HSum : Hid (addsum (es.take (k + 1)) = addsum (es.take k) + (xs.getD k Ei.zero).e.add.length) := by show _ = _; rw [HTk.out, addsum_append]; simp [addsum]
      have HSle : Hid (addsum (es.take (k + 1)) ≤ addsum es) := addsum_take _ _
      obtain ⟨u, hu, hsh⟩ := HA.out.shelf
      generalize xs.getD k Ei.zero = x at *
      obtain ⟨W0, hW0⟩ : ∃ W0, W0 = wr.alloc (.cells #[x.a, x.d, .int .i64 x.e.wal, .int .i64 x.e.next, .int .i64 x.e.seq] 36) := ⟨_, rfl⟩
      have hbW : Below wr.heap.size wr W0 := by rw [hW0]; exact (Below.refl _ _).alloc (Nat.le_refl _) _
      have hg0 : W0.heap[wr.heap.size]? = some (.cells #[x.a, x.d, .int .i64 x.e.wal, .int .i64 x.e.next, .int .i64 x.e.seq] 36 (0, 0)) := by rw [hW0]; exact heap_alloc_new wr _
      have hul := app_len hu
      have htk := take_any (fun j => w2.heap.size ≤ j) q u _ x.aa x.ca x.ad x.cd x.e W0 (hsh.below hbW) (hei.ed (hbw.trans (hbW.mono hbw.size)) (fun j hj => by have := hj.1; have := HB2.out.size; omega)) (by have := HSum.out; have := HSle.out; have := HL.out; omega) (by have := HSum.out; have := HSle.out; have := HL.out; omega)
      have HTake : Hid _ := htk
      have hW0' := hW0.symm
      have HBW : Hid (Below wr.heap.size wr W0) := hbW
      have HUl : Hid (app v (es.take k) = some u) := hu
      have HOr : Hid (app v (es.take (k + 1)) = one u x.e) := by show _ = _; rw [HTk.out]; exact app_snoc hu x.e
      have HNo : Hid (one u x.e = none → app v es = none) := fun h => app_cut (k := k + 1) (by rw [HTk.out]; exact (app_snoc hu x.e).trans h)
      unfold edV at HTake
      change Hid (Calls _ _ #[_, .agg #[x.a, x.d, _, _, _]] _ _) at HTake
      have ha : ∃ p l c, x.a = .slice p l c := ⟨_, _, _, rfl⟩
      have hd : ∃ p l c, x.d = .slice p l c := ⟨_, _, _, rfl⟩
      generalize x.a = xa at *
      generalize x.d = xd at *
      obtain ⟨p1, l1, c1, rfl⟩ := ha
      obtain ⟨p2, l2, c2, rfl⟩ := hd
      have g0 : W0.cell? ⟨wr.heap.size, 0, none⟩ = some (.slice p1 l1 c1) := by rw [Joins.cell_of_block hg0]; rfl
      have g1 : W0.cell? ⟨wr.heap.size, 1, none⟩ = some (.slice p2 l2 c2) := by rw [Joins.cell_of_block hg0]; rfl
      have g2 : W0.cell? ⟨wr.heap.size, 2, none⟩ = some (.int .i64 x.e.wal) := by rw [Joins.cell_of_block hg0]; rfl
      have g3 : W0.cell? ⟨wr.heap.size, 3, none⟩ = some (.int .i64 x.e.next) := by rw [Joins.cell_of_block hg0]; rfl
      have g4 : W0.cell? ⟨wr.heap.size, 4, none⟩ = some (.int .i64 x.e.seq) := by rw [Joins.cell_of_block hg0]; rfl
      clear hei hu hsh hW0 hbW hul htk hbw hkx hke hg0
      go_wp2_with fail
      refine (show Calls _ _ _ _ _ from HTake.out).mono ?_
      rintro y w5 ⟨rfl, ht1, ht2, ht3⟩
      have hb5 : Below w2.heap.size w2 w5 := HA.out.bel.trans ((HBW.out.mono HA.out.bel.size).trans (ht3.below (fun k hk => hk) (by have := HA.out.bel.size; have := HBW.out.size; omega)))
      have HB5 : Hid (Below w2.heap.size w2 w5) := hb5
      cases hok : okE u x.e
      · have HF : Hid (app v es = none) := HNo.out (one_none hok)
        have hbx : w5.heap[w.heap.size + 1]? = some (veObj (.slice none 0 0) Ve.zero) := (hb5.block _ (by have := HS2.out; omega)).trans HX2.out
        obtain ⟨x0, x1, x2, x3, xf⟩ := ve_cells hbx
        have xf0 := xf 0
        have xf1 := xf 1
        have xf2 := xf 2
        have xf3 := xf 3
        have HSet : Hid _ := ve_set hbx (.slice none 0 0) (.int .i64 0) (.int .i64 0) (.int .i64 0)
        have hwe : Below w.heap.size w ((((w5.setCell ⟨w.heap.size + 1, 0, none⟩ (.slice none 0 0)).setCell ⟨w.heap.size + 1, 1, none⟩ (.int .i64 0)).setCell ⟨w.heap.size + 1, 2, none⟩ (.int .i64 0)).setCell ⟨w.heap.size + 1, 3, none⟩ (.int .i64 0)) :=
          ((((HB2.out.trans (hb5.mono HB2.out.size)).setCell (by simp) _).setCell (by simp) _).setCell (by simp) _).setCell (by simp) _
        have HWe : Hid _ := hwe
        clear hwe hb5 xf hbx ht1 ht2 ht3 hok g0 g1 g2 g3 g4 HTake HNo HOr
        simp only [Ve.zero] at x1 x2 x3
        go_wp2
        obtain ⟨z0, z1, z2, z3⟩ := HSet.out _ rfl
        refine bodyPost_ret (v := .tuple #[.agg #[.slice none 0 0, .int .i64 0, .int .i64 0, .int .i64 0], .int .i64 11]) (by simp [results, Tryd.results6, go_sem, z0, z1, z2, z3]) rfl ?_
        exact .inr ⟨HF.out, rfl, HWe.out⟩
      · have HA5 : Hid (Applying w2 q v es (k + 1) w5) := by
          refine ⟨⟨nxt u x.e, by rw [HOr.out]; exact one_is hok, ?_⟩, hb5⟩
          have := ht1 hok
          rw [HSum.out, ← Nat.add_assoc]
          exact this.mono fun j hj => hj.elim id fun h => by have := HA.out.bel.size; have := HBW.out.size; omega
        clear hb5 ht1 ht2 ht3 hok g0 g1 g2 g3 g4 HTake HNo HOr
        go_wp2
        go_roundw
        case rel => exact ⟨k + 1, by omega, by go_num, HA5.out⟩
        case measure => simp [intOf]; omega
    · obtain rfl : k = n := by omega
      have hkx : k = es.length := by rw [HEs.out, List.length_map]; exact HN.out
      obtain ⟨u, hu, hsh⟩ := HA.out.shelf
      rw [hkx, List.take_length] at hu hsh
      have hul := app_len hu
      have hve := version_any (fun j => w2.heap.size ≤ j) q u _ wr hsh (by have := HL.out; omega) (by have := HL.out; omega) (app_ok hu HVo.out (fun e he f hf => by
        rw [HEs.out] at he
        obtain ⟨x, hx, rfl⟩ := List.mem_map.1 he
        exact (HXs.out x hx).ok.add f hf))
      have HVe : Hid _ := hve
      have HU : Hid (app v es = some u) := hu
      have HBk : Hid (Below w2.heap.size w2 wr) := HA.out.bel
      clear hve hu hsh hul hkx HA hlt hbw
      go_wp2_with fail
      refine (show Calls _ _ _ _ _ from HVe.out).mono ?_
      rintro y w5 ⟨f, rfl, hfr, hb5⟩
      have hb25 : Below w2.heap.size w2 w5 := HBk.out.trans (hb5.mono HBk.out.size)
      have hbx : w5.heap[w.heap.size + 1]? = some (veObj (.slice none 0 0) Ve.zero) := (hb25.block _ (by have := HS2.out; omega)).trans HX2.out
      obtain ⟨x0, x1, x2, x3, xf⟩ := ve_cells hbx
      have xf0 := xf 0
      have xf1 := xf 1
      have xf2 := xf 2
      have xf3 := xf 3
      obtain ⟨p6, c6, rfl⟩ := form_any hfr
      have HSet : Hid _ := ve_set hbx (.slice p6 u.sort.files.length c6) (.int .i64 u.sort.wal) (.int .i64 u.sort.next) (.int .i64 u.sort.seq)
      have hwe : ApplyAns w v es (.returned (.tuple #[veV (.slice p6 u.sort.files.length c6) u.sort, .int .i64 0])) ((((w5.setCell ⟨w.heap.size + 1, 0, none⟩ (.slice p6 u.sort.files.length c6)).setCell ⟨w.heap.size + 1, 1, none⟩ (.int .i64 u.sort.wal)).setCell ⟨w.heap.size + 1, 2, none⟩ (.int .i64 u.sort.next)).setCell ⟨w.heap.size + 1, 3, none⟩ (.int .i64 u.sort.seq)) := by
        refine .inl ⟨u, _, HU.out, rfl, ?_, ((((HB2.out.trans (hb25.mono HB2.out.size)).setCell (by simp) _).setCell (by simp) _).setCell (by simp) _).setCell (by simp) _⟩
        unfold VerAt at hfr ⊢
        rcases hfr.2 with ⟨e1, hn⟩ | ⟨g, cp, cur, e1, hBg, hg, hrest⟩
        · exact ⟨hfr.1, .inl ⟨e1, hn⟩⟩
        · cases e1
          have hgw : g ≠ w.heap.size + 1 := by have := HS2.out; have := HBk.out.size; omega
          refine ⟨hfr.1, .inr ⟨g, c6, cur, rfl, by have := HS2.out; have := HBk.out.size; omega, ?_, hrest⟩⟩
          rw [Below.heap_setCell _ _ _ _ (by simpa using hgw), Below.heap_setCell _ _ _ _ (by simpa using hgw), Below.heap_setCell _ _ _ _ (by simpa using hgw), Below.heap_setCell _ _ _ _ (by simpa using hgw)]
          exact hg
      have HWe : Hid _ := hwe
      unfold veV
      clear hwe hb5 hb25 xf hbx hfr HVe
      simp only [Ve.zero] at x1 x2 x3
      generalize u.sort.files.length = l6 at *
      go_wp2
      obtain ⟨z0, z1, z2, z3⟩ := HSet.out _ rfl
      refine bodyPost_ret (v := .tuple #[.agg #[.slice p6 l6 c6, .int .i64 u.sort.wal, .int .i64 u.sort.next, .int .i64 u.sort.seq], .int .i64 0]) (by simp [results, Tryd.results6, go_sem, z0, z1, z2, z3]) rfl ?_
      exact HWe.out
end Go.Proofs.YtjfanbemihheiaaDoor.Ma
