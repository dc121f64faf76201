/-
  The document's cabin: seats side by side.
-/
import Derived.Test.YtbnmjmapmbdioaaDoorCabRefFind
namespace Go.Proofs.YtbnmjmapmbdioaaDoor.Cb
open Go.RowKit Cm
attribute [local go_sem ↓] Go.wp_at_zero Go.wp_at_succ
set_option linter.unusedVariables false

/-- Two neighbours of one block that are these two seats. -/
def adj1 (a b : Int × Int) (x y : Sp) : Bool := decide (x.blk = y.blk) && (decide (x.seat = a) && decide (y.seat = b) || decide (x.seat = b) && decide (y.seat = a))
def adj (a b : Int × Int) : List Sp → Bool
  | x :: y :: t => adj1 a b x y || adj a b (y :: t)
  | _ => false
theorem adj_drop {a b : Int × Int} {sps : List Sp} {k : Nat} (h : k + 1 < sps.length) : adj a b (sps.drop k) = (adj1 a b (sps.getD k Sp.zero) (sps.getD (k + 1) Sp.zero) || adj a b (sps.drop (k + 1))) := by
  rw [drop_sp _ _ (by omega), drop_sp _ _ h, adj]
theorem adj_end {a b : Int × Int} {sps : List Sp} {k : Nat} (h : ¬ k + 1 < sps.length) : adj a b (sps.drop k) = false := by
  have : (sps.drop k).length ≤ 1 := by simp; omega
  match sps.drop k, this with
  | [], _ => rfl
  | [x], _ => rfl
/-! ### Places in a list without doubles -/
theorem plc_at {sps : List Sp} (hd : sps.Pairwise lessS) {k : Nat} (hk : k < sps.length) : plc (sps.getD k Sp.zero).seat sps = k := by
  refine plc_here hk (fun j hj => ?_) rfl
  rw [getD_lt _ _ _ hk, getD_lt _ _ _ (by omega)]
  exact lessS_ne ((List.pairwise_iff_getElem.1 hd) j k (by omega) hk hj)
theorem plc_seat {a : Int × Int} {sps : List Sp} (h : 0 ≤ plc a sps) : (sps.getD (plc a sps).toNat Sp.zero).seat = a := by
  induction sps with
  | nil => simp [plc] at h
  | cons s t ih =>
    rw [plc] at h ⊢
    by_cases hs : s.seat = a
    · rw [if_pos hs]; simpa using hs
    · rw [if_neg hs] at h ⊢
      by_cases hn : plc a t < 0
      · rw [if_pos hn] at h; omega
      · rw [if_neg hn]
        have e : (plc a t + 1).toNat = (plc a t).toNat + 1 := by omega
        rw [e, List.getD_cons_succ]
        exact ih (by omega)
theorem adj_iff {a b : Int × Int} {sps : List Sp} : adj a b sps = true ↔ ∃ k, k + 1 < sps.length ∧ adj1 a b (sps.getD k Sp.zero) (sps.getD (k + 1) Sp.zero) = true := by
  induction sps with
  | nil => simp [adj]
  | cons x t ih =>
    cases t with
    | nil => simp [adj]
    | cons y t =>
      rw [adj, Bool.or_eq_true, ih]
      constructor
      · rintro (h | ⟨k, h1, h2⟩)
        · exact ⟨0, by simp, h⟩
        · exact ⟨k + 1, by simpa using h1, h2⟩
      · rintro ⟨k, h1, h2⟩
        cases k with
        | zero => exact .inl h2
        | succ k => exact .inr ⟨k, by simpa using h1, h2⟩
/-- Where no seat stands twice the two ways to say 'side by side' agree. -/
theorem near_adj {sps : List Sp} (hd : sps.Pairwise lessS) (a b : Int × Int) : nearL sps a b = adj a b sps := by
  rw [Bool.eq_iff_iff, adj_iff]
  unfold nearL
  simp only
  constructor
  · intro h
    by_cases h1 : plc a sps < 0 ∨ plc b sps < 0
    · rw [if_pos h1] at h; cases h
    rw [if_neg h1] at h
    by_cases h2 : (sps.getD (plc a sps).toNat Sp.zero).blk ≠ (sps.getD (plc b sps).toNat Sp.zero).blk
    · rw [if_pos h2] at h; cases h
    rw [if_neg h2] at h
    have h2 := Decidable.not_not.1 h2
    have ga := plc_seat (a := a) (sps := sps) (by omega)
    have gb := plc_seat (a := b) (sps := sps) (by omega)
    have la := plc_lt a sps
    have lb := plc_lt b sps
    rcases Bool.or_eq_true_iff.1 h with h3 | h3
    · have h3 := of_decide_eq_true h3
      have e : (plc b sps).toNat = (plc a sps).toNat + 1 := by omega
      refine ⟨(plc a sps).toNat, by omega, ?_⟩
      rw [← e]
      unfold adj1
      rw [ga, gb, h2]
      simp
    · have h3 := of_decide_eq_true h3
      have e : (plc a sps).toNat = (plc b sps).toNat + 1 := by omega
      refine ⟨(plc b sps).toNat, by omega, ?_⟩
      rw [← e]
      unfold adj1
      rw [ga, gb, h2]
      simp
  · rintro ⟨k, hk, h⟩
    simp only [adj1, Bool.and_eq_true, Bool.or_eq_true, decide_eq_true_eq] at h
    obtain ⟨h1, h2⟩ := h
    have p0 := plc_at hd (show k < sps.length by omega)
    have p1 := plc_at hd hk
    rcases h2 with ⟨rfl, rfl⟩ | ⟨rfl, rfl⟩
    · rw [p0, p1, if_neg (by omega)]
      have e0 : ((k : Int)).toNat = k := by omega
      have e1 : (((k + 1 : Nat) : Int)).toNat = k + 1 := by omega
      rw [e0, e1, if_neg (fun h => h h1)]
      simp
    · rw [p0, p1, if_neg (by omega)]
      have e0 : ((k : Int)).toNat = k := by omega
      have e1 : (((k + 1 : Nat) : Int)).toNat = k + 1 := by omega
      rw [e0, e1, if_neg (fun h => h h1.symm)]
      simp
/-- Two spots in blocks of their own, one made behind the other. -/
theorem two_boxes {w1 wr W : World} {a1 a2 b1 b2 : Int} {g : Nat} {x y : Sp} (hW : W = ((wr.alloc (spObj x)).alloc (spObj y)).drew) (hb : Below w1.heap.size w1 wr) (hs : w1.heap.size ≤ wr.heap.size) (hg : g < w1.heap.size) (hg1 : g + 1 < w1.heap.size) (h0 : w1.heap[g]? = some (seObj a1 a2)) (h1 : w1.heap[g + 1]? = some (seObj b1 b2)) :
    Below w1.heap.size w1 W ∧
    (W.cell? ⟨wr.heap.size, 0, none⟩ = some (.int .i64 x.num) ∧ W.cell? ⟨wr.heap.size, 1, none⟩ = some (.int .u8 x.ltr) ∧ W.cell? ⟨wr.heap.size, 2, none⟩ = some (.int .i64 x.cab) ∧ W.cell? ⟨wr.heap.size, 3, none⟩ = some (.int .i64 x.zone) ∧ W.cell? ⟨wr.heap.size, 4, none⟩ = some (.int .i64 x.blk) ∧ W.cell? ⟨wr.heap.size, 5, none⟩ = some (.bool x.exit) ∧ W.cell? ⟨wr.heap.size, 6, none⟩ = some (.bool x.bld)) ∧
    (W.cell? ⟨wr.heap.size + 1, 0, none⟩ = some (.int .i64 y.num) ∧ W.cell? ⟨wr.heap.size + 1, 1, none⟩ = some (.int .u8 y.ltr) ∧ W.cell? ⟨wr.heap.size + 1, 2, none⟩ = some (.int .i64 y.cab) ∧ W.cell? ⟨wr.heap.size + 1, 3, none⟩ = some (.int .i64 y.zone) ∧ W.cell? ⟨wr.heap.size + 1, 4, none⟩ = some (.int .i64 y.blk) ∧ W.cell? ⟨wr.heap.size + 1, 5, none⟩ = some (.bool y.exit) ∧ W.cell? ⟨wr.heap.size + 1, 6, none⟩ = some (.bool y.bld)) ∧
    (W.cell? ⟨g, 0, none⟩ = some (.int .i64 a1) ∧ W.cell? ⟨g, 1, none⟩ = some (.int .u8 a2)) ∧ (W.cell? ⟨g + 1, 0, none⟩ = some (.int .i64 b1) ∧ W.cell? ⟨g + 1, 1, none⟩ = some (.int .u8 b2)) := by
  have hbW : Below wr.heap.size wr W := by rw [hW]; exact (((Below.refl _ _).alloc (Nat.le_refl _) _).alloc (by simp) _).drew
  have kx : W.heap[wr.heap.size]? = some (spObj x) := by
    rw [hW]
    show ((wr.alloc (spObj x)).alloc (spObj y)).heap[wr.heap.size]? = _
    rw [Below.heap_alloc _ _ _ (by simp)]; exact heap_alloc_new wr _
  have ky : W.heap[wr.heap.size + 1]? = some (spObj y) := by
    rw [hW]
    have := heap_alloc_new (wr.alloc (spObj x)) (spObj y)
    rw [World.size_alloc] at this
    exact this
  have k0 : W.heap[g]? = some (seObj a1 a2) := (hbW.block _ (by omega)).trans ((hb.block _ hg).trans h0)
  have k1 : W.heap[g + 1]? = some (seObj b1 b2) := (hbW.block _ (by omega)).trans ((hb.block _ hg1).trans h1)
  exact ⟨hb.trans (hbW.mono hs), spo_cells kx, spo_cells ky, seo_cells k0, seo_cells k1⟩
set_option maxRecDepth 100000 in
set_option maxHeartbeats 4000000 in
theorem nearR_any (a b : Int × Int) (ao : Option Addr) (ca : Nat) (rows : List Rw) (w : World) (hx : ElemsAt rwShape w ao rows) (hok : ∀ r ∈ rows, r.ok) (hl : rows.length ≤ 4611686018427387904) :
    Calls Tryd.prog 20 #[sev a, sev b, .slice ao rows.length ca] w fun e w' => e = .returned (.bool (nearL (spots rows) a b)) ∧ Below w.heap.size w w' := by
  rw [near_adj (rise_spots rows)]
  obtain ⟨X, hX⟩ : ∃ X, X = (w.alloc (seObj a.1 a.2)).alloc (seObj b.1 b.2) := ⟨_, rfl⟩
  have hbX : Below w.heap.size w X := by rw [hX]; exact ((Below.refl _ _).alloc (Nat.le_refl _) _).alloc (by simp) _
  have HC : Hid _ := spotsR_any ao ca rows X (hx.later hbX) hok hl
  have g0 : X.heap[w.heap.size]? = some (seObj a.1 a.2) := by rw [hX, Below.heap_alloc _ _ _ (by simp)]; exact heap_alloc_new w _
  have g1 : X.heap[w.heap.size + 1]? = some (seObj b.1 b.2) := by
    rw [hX]
    have := heap_alloc_new (w.alloc (seObj a.1 a.2)) (seObj b.1 b.2)
    rw [World.size_alloc] at this
    exact this
  have hle := spots_le rows
  generalize spots rows = sps at *
  generalize rows.length = rl at *
  clear hx hok hl
  have HBX : Hid _ := hbX
  obtain ⟨a1, a2⟩ := a
  obtain ⟨b1, b2⟩ := b
  have HEA : Hid (∀ s : Sp, _) := fun s : Sp => eql_seat s.seat (a1, a2)
  have HEB : Hid (∀ s : Sp, _) := fun s : Sp => eql_seat s.seat (b1, b2)
  have hgd := guardSe
  unfold sev seObj at *
  simp only at *
  have HX : Hid _ := hX
  clear hX hbX
  obtain ⟨m, hm⟩ : ∃ m, m = sps.length := ⟨_, rfl⟩
  have HM : Hid _ := hm
  have hm36 : m ≤ 36 := by omega
  have HA0 : Hid (adj (a1, a2) (b1, b2) sps = adj (a1, a2) (b1, b2) (sps.drop 0)) := rfl
  go_enter Tryd.func20, Tryd.ntmps20
  go_wp2_with fail
  rw [← HX.out]
  clear HX
  refine (show Calls _ _ _ _ _ from HC.out).mono ?_
  rintro e w1 ⟨vS, rfl, hS, hb1⟩
  obtain ⟨aS, cS, rfl, hcS, hxS⟩ := hS.slice
  have hs1 := hb1.size
  have HBox : Hid (w1.heap[w.heap.size]? = some (seObj a1 a2) ∧ w1.heap[w.heap.size + 1]? = some (seObj b1 b2)) := ⟨(hb1.block _ (lt_of_block g0)).trans g0, (hb1.block _ (lt_of_block g1)).trans g1⟩
  have hz1 : w.heap.size + 1 < w1.heap.size := by have := lt_of_block g1; omega
  have HXS : Hid (∀ Y, Below w1.heap.size w1 Y → ElemsAt spShape Y aS sps) := fun Y hY => hxS.later hY
  have HB1 : Hid (Below w.heap.size w w1) := HBX.out.trans (hb1.mono HBX.out.size)
  rw [← hm] at hcS ⊢
  clear hS hxS hb1 HC g0 g1 hs1 HBX hm hle
  go_wp2_with fail
  go_loopw [8] (fun vi wr => ∃ i : Nat, vi = .int .i64 ((i : Int) + 1) ∧ i ≤ m ∧ Hid (adj (a1, a2) (b1, b2) sps = adj (a1, a2) (b1, b2) (sps.drop i)) ∧ Hid (Below w1.heap.size w1 wr)) (fun vi _ => m - (intOf vi).toNat)
  case atStart => exact ⟨0, rfl, by omega, HA0.out, Below.refl _ _⟩
  case round =>
    obtain ⟨i, rfl, him, HA, HB⟩ := hrel
    have hws := HB.out.size
    by_cases hlt : i + 1 < m
    · have hl1 : i < sps.length := by have := HM.out; omega
      have hl2 : i + 1 < sps.length := by have := HM.out; omega
      have HA2 := HA.out
      rw [adj_drop hl2] at HA2
      obtain ⟨pb, off, rfl, hpb, k0, k1, k2, k3, k4, k5, k6⟩ := spot_cells (HXS.out wr HB.out) hl1
      obtain ⟨pb2, off2, e2, _, l0, l1, l2, l3, l4, l5, l6⟩ := spot_cells (HXS.out wr HB.out) hl2
      cases e2
      have hg0 : wr.heap[w.heap.size]? = some (seObj a1 a2) := (HB.out.block _ (by omega)).trans HBox.out.1
      have hg1 : wr.heap[w.heap.size + 1]? = some (seObj b1 b2) := (HB.out.block _ hz1).trans HBox.out.2
      generalize sps.getD i Sp.zero = x at *
      generalize sps.getD (i + 1) Sp.zero = y at *
      have HG : Hid _ := HA2
      clear HA2 HA HXS
      obtain ⟨xn, xl, xc, xz, xb, xe, xd⟩ := x
      obtain ⟨yn, yl, yc, yz, yb, ye, yd⟩ := y
      simp only at k0 k1 k2 k3 k4 k5 k6 l0 l1 l2 l3 l4 l5 l6
      have hi0 : (0 : Int) ≤ (i : Int) := by omega
      have hi1 : (i : Int) + 1 < (m : Int) := by omega
      have hi2 : (i : Int) < (m : Int) := by omega
      obtain ⟨c0, c1⟩ := seo_cells hg0
      obtain ⟨c2, c3⟩ := seo_cells hg1
      have hn0 : w.heap.size < wr.heap.size := by omega
      have hn1 : w.heap.size + 1 < wr.heap.size := by omega
      obtain ⟨WA, hWA⟩ : ∃ W, W = ((wr.alloc (spObj ⟨xn, xl, xc, xz, xb, xe, xd⟩)).alloc (spObj ⟨yn, yl, yc, yz, yb, ye, yd⟩)).drew := ⟨_, rfl⟩
      obtain ⟨WB, hWB⟩ : ∃ W, W = ((wr.alloc (spObj ⟨yn, yl, yc, yz, yb, ye, yd⟩)).alloc (spObj ⟨xn, xl, xc, xz, xb, xe, xd⟩)).drew := ⟨_, rfl⟩
      have HFA : Hid _ := two_boxes (x := ⟨xn, xl, xc, xz, xb, xe, xd⟩) (y := ⟨yn, yl, yc, yz, yb, ye, yd⟩) hWA HB.out hws (by omega) hz1 HBox.out.1 HBox.out.2
      have HFB : Hid _ := two_boxes (x := ⟨yn, yl, yc, yz, yb, ye, yd⟩) (y := ⟨xn, xl, xc, xz, xb, xe, xd⟩) hWB HB.out hws (by omega) hz1 HBox.out.1 HBox.out.2
      unfold spObj at hWA hWB
      have HWA : Hid _ := hWA
      have HWB : Hid _ := hWB
      clear hWA hWB hg0 hg1
      go_wp2_with fail
      have hi3 : (0 : Int) ≤ (i : Int) + 1 := by omega
      have hw2 : IntKind.i64.wrap (i : Int) = (i : Int) := IntWalk.i64_in _ ⟨by omega, by omega⟩
      have hw1 : IntKind.i64.wrap ((i : Int) + 1 - 1) = (i : Int) := by rw [show (i : Int) + 1 - 1 = (i : Int) by omega]; exact IntWalk.i64_in _ ⟨by omega, by omega⟩
      go_region_held3 (fun w' => w'.cell? ⟨pb, off + i * 7, none⟩ = some (.int .i64 xn) ∧ w'.cell? ⟨pb, off + i * 7 + 1, none⟩ = some (.int .u8 xl) ∧ w'.cell? ⟨pb, off + i * 7 + 2, none⟩ = some (.int .i64 xc) ∧ w'.cell? ⟨pb, off + i * 7 + 3, none⟩ = some (.int .i64 xz) ∧ w'.cell? ⟨pb, off + i * 7 + 4, none⟩ = some (.int .i64 xb) ∧ w'.cell? ⟨pb, off + i * 7 + 5, none⟩ = some (.bool xe) ∧ w'.cell? ⟨pb, off + i * 7 + 6, none⟩ = some (.bool xd) ∧ w'.cell? ⟨pb, off + (i + 1) * 7, none⟩ = some (.int .i64 yn) ∧ w'.cell? ⟨pb, off + (i + 1) * 7 + 1, none⟩ = some (.int .u8 yl) ∧ w'.cell? ⟨pb, off + (i + 1) * 7 + 2, none⟩ = some (.int .i64 yc) ∧ w'.cell? ⟨pb, off + (i + 1) * 7 + 3, none⟩ = some (.int .i64 yz) ∧ w'.cell? ⟨pb, off + (i + 1) * 7 + 4, none⟩ = some (.int .i64 yb) ∧ w'.cell? ⟨pb, off + (i + 1) * 7 + 5, none⟩ = some (.bool ye) ∧ w'.cell? ⟨pb, off + (i + 1) * 7 + 6, none⟩ = some (.bool yd)) (go_keep) (fail)
      all_goals clear k0 k1 k2 k3 k4 k5 k6 l0 l1 l2 l3 l4 l5 l6 c0 c1 c2 c3 hw1 hw2
      · rw [← HWA.out]
        have HFW : Hid (Below w1.heap.size w1 WA) := HFA.out.1
        obtain ⟨_, ⟨x0, x1, _, _, x4, _, _⟩, ⟨y0, y1, _, _, y4, _, _⟩, ⟨u0, u1⟩, ⟨u2, u3⟩⟩ := HFA.out
        clear HWA HWB HFA HFB
        by_cases hxy : xb = yb
        · have hxy' : (xb == yb) = true := by simpa using hxy
          have es1 : ∀ w : World, (binOp .eql 38 (.agg #[.int .i64 xn, .int .u8 xl]) (.agg #[.int .i64 a1, .int .u8 a2])).run Tryd.prog w = .ok (.bool (decide ((xn, xl) = (a1, a2)))) w := fun w => eql_seat (xn, xl) (a1, a2) w
          have es2 : ∀ w : World, (binOp .eql 38 (.agg #[.int .i64 yn, .int .u8 yl]) (.agg #[.int .i64 b1, .int .u8 b2])).run Tryd.prog w = .ok (.bool (decide ((yn, yl) = (b1, b2)))) w := fun w => eql_seat (yn, yl) (b1, b2) w
          have es3 : ∀ w : World, (binOp .eql 38 (.agg #[.int .i64 xn, .int .u8 xl]) (.agg #[.int .i64 b1, .int .u8 b2])).run Tryd.prog w = .ok (.bool (decide ((xn, xl) = (b1, b2)))) w := fun w => eql_seat (xn, xl) (b1, b2) w
          have es4 : ∀ w : World, (binOp .eql 38 (.agg #[.int .i64 yn, .int .u8 yl]) (.agg #[.int .i64 a1, .int .u8 a2])).run Tryd.prog w = .ok (.bool (decide ((yn, yl) = (a1, a2)))) w := fun w => eql_seat (yn, yl) (a1, a2) w
          obtain ⟨q1, hq1⟩ : ∃ q, decide ((xn, xl) = (a1, a2)) = q := ⟨_, rfl⟩
          rw [hq1] at es1
          obtain ⟨q2, hq2⟩ : ∃ q, decide ((yn, yl) = (b1, b2)) = q := ⟨_, rfl⟩
          rw [hq2] at es2
          obtain ⟨q3, hq3⟩ : ∃ q, decide ((xn, xl) = (b1, b2)) = q := ⟨_, rfl⟩
          rw [hq3] at es3
          obtain ⟨q4, hq4⟩ : ∃ q, decide ((yn, yl) = (a1, a2)) = q := ⟨_, rfl⟩
          rw [hq4] at es4
          cases q1
          · cases q3
            · have HR : Hid (adj1 (a1, a2) (b1, b2) ⟨xn, xl, xc, xz, xb, xe, xd⟩ ⟨yn, yl, yc, yz, yb, ye, yd⟩ = false) := by
                show (decide (xb = yb) && (decide ((xn, xl) = (a1, a2)) && decide ((yn, yl) = (b1, b2)) || decide ((xn, xl) = (b1, b2)) && decide ((yn, yl) = (a1, a2)))) = _
                rw [hq1, hq2, hq3, hq4, decide_eq_true hxy]; first | rfl | simp
              clear hq1 hq2 hq3 hq4
              go_wp2
              go_roundw
              case rel => exact ⟨i + 1, by go_num, by omega, by rw [HG.out, HR.out, Bool.false_or]; rfl, HFW.out⟩
              case measure => simp [intOf]; omega
            · cases q4
              · have HR : Hid (adj1 (a1, a2) (b1, b2) ⟨xn, xl, xc, xz, xb, xe, xd⟩ ⟨yn, yl, yc, yz, yb, ye, yd⟩ = false) := by
                  show (decide (xb = yb) && (decide ((xn, xl) = (a1, a2)) && decide ((yn, yl) = (b1, b2)) || decide ((xn, xl) = (b1, b2)) && decide ((yn, yl) = (a1, a2)))) = _
                  rw [hq1, hq2, hq3, hq4, decide_eq_true hxy]; first | rfl | simp
                clear hq1 hq2 hq3 hq4
                go_wp2
                go_roundw
                case rel => exact ⟨i + 1, by go_num, by omega, by rw [HG.out, HR.out, Bool.false_or]; rfl, HFW.out⟩
                case measure => simp [intOf]; omega
              · have HR : Hid (adj1 (a1, a2) (b1, b2) ⟨xn, xl, xc, xz, xb, xe, xd⟩ ⟨yn, yl, yc, yz, yb, ye, yd⟩ = true) := by
                  show (decide (xb = yb) && (decide ((xn, xl) = (a1, a2)) && decide ((yn, yl) = (b1, b2)) || decide ((xn, xl) = (b1, b2)) && decide ((yn, yl) = (a1, a2)))) = _
                  rw [hq1, hq2, hq3, hq4, decide_eq_true hxy]; first | rfl | simp
                clear hq1 hq2 hq3 hq4
                go_wp2
                go_ret
                exact ⟨by rw [HG.out, HR.out, Bool.true_or]; rfl, HB1.out.trans (HFW.out.mono HB1.out.size)⟩
          · cases q2
            · cases q3
              · have HR : Hid (adj1 (a1, a2) (b1, b2) ⟨xn, xl, xc, xz, xb, xe, xd⟩ ⟨yn, yl, yc, yz, yb, ye, yd⟩ = false) := by
                  show (decide (xb = yb) && (decide ((xn, xl) = (a1, a2)) && decide ((yn, yl) = (b1, b2)) || decide ((xn, xl) = (b1, b2)) && decide ((yn, yl) = (a1, a2)))) = _
                  rw [hq1, hq2, hq3, hq4, decide_eq_true hxy]; first | rfl | simp
                clear hq1 hq2 hq3 hq4
                go_wp2
                go_roundw
                case rel => exact ⟨i + 1, by go_num, by omega, by rw [HG.out, HR.out, Bool.false_or]; rfl, HFW.out⟩
                case measure => simp [intOf]; omega
              · cases q4
                · have HR : Hid (adj1 (a1, a2) (b1, b2) ⟨xn, xl, xc, xz, xb, xe, xd⟩ ⟨yn, yl, yc, yz, yb, ye, yd⟩ = false) := by
                    show (decide (xb = yb) && (decide ((xn, xl) = (a1, a2)) && decide ((yn, yl) = (b1, b2)) || decide ((xn, xl) = (b1, b2)) && decide ((yn, yl) = (a1, a2)))) = _
                    rw [hq1, hq2, hq3, hq4, decide_eq_true hxy]; first | rfl | simp
                  clear hq1 hq2 hq3 hq4
                  go_wp2
                  go_roundw
                  case rel => exact ⟨i + 1, by go_num, by omega, by rw [HG.out, HR.out, Bool.false_or]; rfl, HFW.out⟩
                  case measure => simp [intOf]; omega
                · have HR : Hid (adj1 (a1, a2) (b1, b2) ⟨xn, xl, xc, xz, xb, xe, xd⟩ ⟨yn, yl, yc, yz, yb, ye, yd⟩ = true) := by
                    show (decide (xb = yb) && (decide ((xn, xl) = (a1, a2)) && decide ((yn, yl) = (b1, b2)) || decide ((xn, xl) = (b1, b2)) && decide ((yn, yl) = (a1, a2)))) = _
                    rw [hq1, hq2, hq3, hq4, decide_eq_true hxy]; first | rfl | simp
                  clear hq1 hq2 hq3 hq4
                  go_wp2
                  go_ret
                  exact ⟨by rw [HG.out, HR.out, Bool.true_or]; rfl, HB1.out.trans (HFW.out.mono HB1.out.size)⟩
            · have HR : Hid (adj1 (a1, a2) (b1, b2) ⟨xn, xl, xc, xz, xb, xe, xd⟩ ⟨yn, yl, yc, yz, yb, ye, yd⟩ = true) := by
                show (decide (xb = yb) && (decide ((xn, xl) = (a1, a2)) && decide ((yn, yl) = (b1, b2)) || decide ((xn, xl) = (b1, b2)) && decide ((yn, yl) = (a1, a2)))) = _
                rw [hq1, hq2, hq3, hq4, decide_eq_true hxy]; first | rfl | simp
              clear hq1 hq2 hq3 hq4
              go_wp2
              go_ret
              exact ⟨by rw [HG.out, HR.out, Bool.true_or]; rfl, HB1.out.trans (HFW.out.mono HB1.out.size)⟩
        · have hxy' : (xb == yb) = false := by simpa using hxy
          have HR : Hid (adj1 (a1, a2) (b1, b2) ⟨xn, xl, xc, xz, xb, xe, xd⟩ ⟨yn, yl, yc, yz, yb, ye, yd⟩ = false) := by show _ = _; unfold adj1; simp [hxy]
          go_wp2
          go_roundw
          case rel => exact ⟨i + 1, by go_num, by omega, by rw [HG.out, HR.out, Bool.false_or]; rfl, HFW.out⟩
          case measure => simp [intOf]; omega
      · rw [← HWB.out]
        have HFW : Hid (Below w1.heap.size w1 WB) := HFB.out.1
        obtain ⟨_, ⟨y0, y1, _, _, y4, _, _⟩, ⟨x0, x1, _, _, x4, _, _⟩, ⟨u0, u1⟩, ⟨u2, u3⟩⟩ := HFB.out
        clear HWA HWB HFA HFB
        by_cases hxy : xb = yb
        · have hxy' : (xb == yb) = true := by simpa using hxy
          have es1 : ∀ w : World, (binOp .eql 38 (.agg #[.int .i64 xn, .int .u8 xl]) (.agg #[.int .i64 a1, .int .u8 a2])).run Tryd.prog w = .ok (.bool (decide ((xn, xl) = (a1, a2)))) w := fun w => eql_seat (xn, xl) (a1, a2) w
          have es2 : ∀ w : World, (binOp .eql 38 (.agg #[.int .i64 yn, .int .u8 yl]) (.agg #[.int .i64 b1, .int .u8 b2])).run Tryd.prog w = .ok (.bool (decide ((yn, yl) = (b1, b2)))) w := fun w => eql_seat (yn, yl) (b1, b2) w
          have es3 : ∀ w : World, (binOp .eql 38 (.agg #[.int .i64 xn, .int .u8 xl]) (.agg #[.int .i64 b1, .int .u8 b2])).run Tryd.prog w = .ok (.bool (decide ((xn, xl) = (b1, b2)))) w := fun w => eql_seat (xn, xl) (b1, b2) w
          have es4 : ∀ w : World, (binOp .eql 38 (.agg #[.int .i64 yn, .int .u8 yl]) (.agg #[.int .i64 a1, .int .u8 a2])).run Tryd.prog w = .ok (.bool (decide ((yn, yl) = (a1, a2)))) w := fun w => eql_seat (yn, yl) (a1, a2) w
          obtain ⟨q1, hq1⟩ : ∃ q, decide ((xn, xl) = (a1, a2)) = q := ⟨_, rfl⟩
          rw [hq1] at es1
          obtain ⟨q2, hq2⟩ : ∃ q, decide ((yn, yl) = (b1, b2)) = q := ⟨_, rfl⟩
          rw [hq2] at es2
          obtain ⟨q3, hq3⟩ : ∃ q, decide ((xn, xl) = (b1, b2)) = q := ⟨_, rfl⟩
          rw [hq3] at es3
          obtain ⟨q4, hq4⟩ : ∃ q, decide ((yn, yl) = (a1, a2)) = q := ⟨_, rfl⟩
          rw [hq4] at es4
          cases q1
          · cases q3
            · have HR : Hid (adj1 (a1, a2) (b1, b2) ⟨xn, xl, xc, xz, xb, xe, xd⟩ ⟨yn, yl, yc, yz, yb, ye, yd⟩ = false) := by
                show (decide (xb = yb) && (decide ((xn, xl) = (a1, a2)) && decide ((yn, yl) = (b1, b2)) || decide ((xn, xl) = (b1, b2)) && decide ((yn, yl) = (a1, a2)))) = _
                rw [hq1, hq2, hq3, hq4, decide_eq_true hxy]; first | rfl | simp
              clear hq1 hq2 hq3 hq4
              go_wp2
              go_roundw
              case rel => exact ⟨i + 1, by go_num, by omega, by rw [HG.out, HR.out, Bool.false_or]; rfl, HFW.out⟩
              case measure => simp [intOf]; omega
            · cases q4
              · have HR : Hid (adj1 (a1, a2) (b1, b2) ⟨xn, xl, xc, xz, xb, xe, xd⟩ ⟨yn, yl, yc, yz, yb, ye, yd⟩ = false) := by
                  show (decide (xb = yb) && (decide ((xn, xl) = (a1, a2)) && decide ((yn, yl) = (b1, b2)) || decide ((xn, xl) = (b1, b2)) && decide ((yn, yl) = (a1, a2)))) = _
                  rw [hq1, hq2, hq3, hq4, decide_eq_true hxy]; first | rfl | simp
                clear hq1 hq2 hq3 hq4
                go_wp2
                go_roundw
                case rel => exact ⟨i + 1, by go_num, by omega, by rw [HG.out, HR.out, Bool.false_or]; rfl, HFW.out⟩
                case measure => simp [intOf]; omega
              · have HR : Hid (adj1 (a1, a2) (b1, b2) ⟨xn, xl, xc, xz, xb, xe, xd⟩ ⟨yn, yl, yc, yz, yb, ye, yd⟩ = true) := by
                  show (decide (xb = yb) && (decide ((xn, xl) = (a1, a2)) && decide ((yn, yl) = (b1, b2)) || decide ((xn, xl) = (b1, b2)) && decide ((yn, yl) = (a1, a2)))) = _
                  rw [hq1, hq2, hq3, hq4, decide_eq_true hxy]; first | rfl | simp
                clear hq1 hq2 hq3 hq4
                go_wp2
                go_ret
                exact ⟨by rw [HG.out, HR.out, Bool.true_or]; rfl, HB1.out.trans (HFW.out.mono HB1.out.size)⟩
          · cases q2
            · cases q3
              · have HR : Hid (adj1 (a1, a2) (b1, b2) ⟨xn, xl, xc, xz, xb, xe, xd⟩ ⟨yn, yl, yc, yz, yb, ye, yd⟩ = false) := by
                  show (decide (xb = yb) && (decide ((xn, xl) = (a1, a2)) && decide ((yn, yl) = (b1, b2)) || decide ((xn, xl) = (b1, b2)) && decide ((yn, yl) = (a1, a2)))) = _
                  rw [hq1, hq2, hq3, hq4, decide_eq_true hxy]; first | rfl | simp
                clear hq1 hq2 hq3 hq4
                go_wp2
                go_roundw
                case rel => exact ⟨i + 1, by go_num, by omega, by rw [HG.out, HR.out, Bool.false_or]; rfl, HFW.out⟩
                case measure => simp [intOf]; omega
              · cases q4
                · have HR : Hid (adj1 (a1, a2) (b1, b2) ⟨xn, xl, xc, xz, xb, xe, xd⟩ ⟨yn, yl, yc, yz, yb, ye, yd⟩ = false) := by
                    show (decide (xb = yb) && (decide ((xn, xl) = (a1, a2)) && decide ((yn, yl) = (b1, b2)) || decide ((xn, xl) = (b1, b2)) && decide ((yn, yl) = (a1, a2)))) = _
                    rw [hq1, hq2, hq3, hq4, decide_eq_true hxy]; first | rfl | simp
                  clear hq1 hq2 hq3 hq4
                  go_wp2
                  go_roundw
                  case rel => exact ⟨i + 1, by go_num, by omega, by rw [HG.out, HR.out, Bool.false_or]; rfl, HFW.out⟩
                  case measure => simp [intOf]; omega
                · have HR : Hid (adj1 (a1, a2) (b1, b2) ⟨xn, xl, xc, xz, xb, xe, xd⟩ ⟨yn, yl, yc, yz, yb, ye, yd⟩ = true) := by
                    show (decide (xb = yb) && (decide ((xn, xl) = (a1, a2)) && decide ((yn, yl) = (b1, b2)) || decide ((xn, xl) = (b1, b2)) && decide ((yn, yl) = (a1, a2)))) = _
                    rw [hq1, hq2, hq3, hq4, decide_eq_true hxy]; first | rfl | simp
                  clear hq1 hq2 hq3 hq4
                  go_wp2
                  go_ret
                  exact ⟨by rw [HG.out, HR.out, Bool.true_or]; rfl, HB1.out.trans (HFW.out.mono HB1.out.size)⟩
            · have HR : Hid (adj1 (a1, a2) (b1, b2) ⟨xn, xl, xc, xz, xb, xe, xd⟩ ⟨yn, yl, yc, yz, yb, ye, yd⟩ = true) := by
                show (decide (xb = yb) && (decide ((xn, xl) = (a1, a2)) && decide ((yn, yl) = (b1, b2)) || decide ((xn, xl) = (b1, b2)) && decide ((yn, yl) = (a1, a2)))) = _
                rw [hq1, hq2, hq3, hq4, decide_eq_true hxy]; first | rfl | simp
              clear hq1 hq2 hq3 hq4
              go_wp2
              go_ret
              exact ⟨by rw [HG.out, HR.out, Bool.true_or]; rfl, HB1.out.trans (HFW.out.mono HB1.out.size)⟩
        · have hxy' : (xb == yb) = false := by simpa using hxy
          have HR : Hid (adj1 (a1, a2) (b1, b2) ⟨xn, xl, xc, xz, xb, xe, xd⟩ ⟨yn, yl, yc, yz, yb, ye, yd⟩ = false) := by show _ = _; unfold adj1; simp [hxy]
          go_wp2
          go_roundw
          case rel => exact ⟨i + 1, by go_num, by omega, by rw [HG.out, HR.out, Bool.false_or]; rfl, HFW.out⟩
          case measure => simp [intOf]; omega
    · have hA := HA.out
      rw [adj_end (by have := HM.out; omega)] at hA
      have HE : Hid _ := hA
      clear hA HA
      go_wp2
      go_ret
      exact ⟨by rw [HE.out]; rfl, HB1.out.trans (HB.out.mono HB1.out.size)⟩
end Go.Proofs.YtbnmjmapmbdioaaDoor.Cb
