/-
  Package cabin: the seats of a map.
-/
import Derived.Test.YtbnmjmapmbdioaaDoorCabCheck
import Derived.Deep.AppendLies
namespace Go.Proofs.YtbnmjmapmbdioaaDoor.Cb
open Go.RowKit Cm
attribute [local go_sem ↓] Go.wp_at_zero Go.wp_at_succ
set_option linter.unusedVariables false

def spv (s : Sp) : Value := .agg #[.int .i64 s.num, .int .u8 s.ltr, .int .i64 s.cab, .int .i64 s.zone, .int .i64 s.blk, .bool s.exit, .bool s.bld]
def spObj (s : Sp) : Obj := .cells #[.int .i64 s.num, .int .u8 s.ltr, .int .i64 s.cab, .int .i64 s.zone, .int .i64 s.blk, .bool s.exit, .bool s.bld] 40 (0, 0)
theorem infoSp : (Tryd.prog.info? 40).map (fun i => (i.zero, i.size, i.bytes)) = some (some (.agg #[.int .i64 0, .int .u8 0, .int .i64 0, .int .i64 0, .int .i64 0, .bool false, .bool false]), 7, 48) := by kernel_rfl
theorem info_parts {P : Program} {t : TypeId} {z : Value} {s b : Nat} (h : (P.info? t).map (fun i => (i.zero, i.size, i.bytes)) = some (some z, s, b)) : ∃ i, P.info? t = some i ∧ i.zero = some z ∧ i.size = s ∧ i.bytes = b := by
  cases hi : P.info? t with
  | none => rw [hi] at h; simp at h
  | some i => rw [hi] at h; simp at h; exact ⟨i, rfl, h.1, h.2.1, h.2.2⟩
set_option maxRecDepth 100000 in
set_option maxHeartbeats 1000000 in
theorem spot_any (r : Rw) (c : UInt8) (b : Int) (w : World) : Calls Tryd.prog 27 #[rwv r, .int .u8 c.toNat, .int .i64 b] w fun e w' => e = .returned (spv (sp r c.toNat b)) ∧ Below w.heap.size w w' := by
  have HG : Hid (∀ w, Calls Tryd.prog 35 #[.int .u8 c.toNat] w fun e w' => e = .returned (.int .u8 (gr c.toNat)) ∧ w' = w) := fun w => great_any c w
  unfold spv sp
  obtain ⟨num, cab, zone, exit, seats⟩ := r
  unfold rwv
  generalize (c.toNat : Int) = x at *
  generalize gr x = y at *
  simp only
  by_cases hxy : y = x
  · subst hxy
    go_enter Tryd.func27, Tryd.ntmps27
    go_wp2_with (go_at_call 35; refine (show Calls _ _ _ _ _ from HG.out _).mono ?_; rintro e w1 ⟨rfl, rfl⟩)
    refine bodyPost_ret (v := .agg #[.int .i64 num, .int .u8 y, .int .i64 cab, .int .i64 zone, .int .i64 b, .bool exit, .bool false]) (by simp [results, Tryd.results27, go_sem]) rfl ?_
    refine ⟨by simp, ?_⟩
    repeat (refine Below.setCell ?_ (by simp) _)
    exact ((Below.refl _ _).alloc (Nat.le_refl _) _).alloc (by simp) _
  · have hxy' : (y == x) = false := by simpa using hxy
    go_enter Tryd.func27, Tryd.ntmps27
    go_wp2_with (go_at_call 35; refine (show Calls _ _ _ _ _ from HG.out _).mono ?_; rintro e w1 ⟨rfl, rfl⟩)
    refine bodyPost_ret (v := .agg #[.int .i64 num, .int .u8 y, .int .i64 cab, .int .i64 zone, .int .i64 b, .bool exit, .bool true]) (by simp [results, Tryd.results27, go_sem, hxy]) rfl ?_
    refine ⟨by simp [hxy], ?_⟩
    repeat (refine Below.setCell ?_ (by simp) _)
    exact ((Below.refl _ _).alloc (Nat.le_refl _) _).alloc (by simp) _
/-- What of a map's signs is left. -/
theorem rowSpots_dot {r : Rw} {b : Int} {c : UInt8} {t : List UInt8} (h : (c.toNat : Int) = 46) : rowSpots r b (c :: t) = rowSpots r (b + 1) t := by rw [rowSpots, if_pos h]
theorem rowSpots_let {r : Rw} {b : Int} {c : UInt8} {t : List UInt8} (h : (c.toNat : Int) ≠ 46) : rowSpots r b (c :: t) = sp r c.toNat b :: rowSpots r b t := by rw [rowSpots, if_neg h]
theorem rowEnd_dot {b : Int} {c : UInt8} {t : List UInt8} (h : (c.toNat : Int) = 46) : rowEnd b (c :: t) = rowEnd (b + 1) t := by rw [rowEnd, if_pos h]
theorem rowEnd_let {b : Int} {c : UInt8} {t : List UInt8} (h : (c.toNat : Int) ≠ 46) : rowEnd b (c :: t) = rowEnd b t := by rw [rowEnd, if_neg h]
/-- A row of spots of one's own. -/
def SpOwn (w : World) (B : Nat) (v : Value) (out : List Sp) : Prop := w.ownsRow B 40 7 v out.length (spShape.vals out)
theorem SpOwn.below {w w' : World} {B : Nat} {v : Value} {out : List Sp} (h : SpOwn w B v out) (hb : Below w.heap.size w w') : SpOwn w' B v out := rows_keep h fun k hk => hb.block _ (World.ownsRow.lt h k hk).2
theorem sp_snoc (out : List Sp) (s : Sp) : spShape.vals (out ++ [s]) = spShape.vals out ++ spShape.enc s := by rw [Shape.vals_append]; simp [Shape.vals]
theorem rwo_cells {w : World} {g : Nat} {r : Rw} (h : w.heap[g]? = some (rwObj r)) : w.cell? ⟨g, 0, none⟩ = some (.int .i64 r.num) ∧ w.cell? ⟨g, 1, none⟩ = some (.int .i64 r.cab) ∧ w.cell? ⟨g, 2, none⟩ = some (.int .i64 r.zone) ∧ w.cell? ⟨g, 3, none⟩ = some (.bool r.exit) ∧ w.cell? ⟨g, 4, none⟩ = some (.string r.seats) := by
  refine ⟨?_, ?_, ?_, ?_, ?_⟩ <;> rw [Joins.cell_of_block h] <;> rfl
theorem sp_far {w : World} {B g : Nat} {V : Value} {out : List Sp} {r : Rw} (h : SpOwn w B V out) (hg : w.heap[g]? = some (rwObj r)) : V.ownBlock ≠ some g := rows_far h hg (fun cs e => by simp [rwObj] at e)
/-- What a spot's append leaves. -/
theorem sp_grown {w X Y : World} {B g g6 cap : Nat} {V : Value} {out : List Sp} {r : Rw} {s : Sp} (hB : B ≤ X.heap.size) (h : SpOwn X B V out) (hb : Below B w X) (hg : X.heap[g]? = some (rwObj r)) (hown : Y.ownsRow B 40 7 (.slice (some ⟨g6, 0, none⟩) (out.length + 1) cap) (out.length + 1) (spShape.vals out ++ spShape.enc s)) (hgr : X.grownBy Y V.ownBlock) :
    SpOwn Y B (.slice (some ⟨g6, 0, none⟩) (out.length + 1) cap) (out ++ [s]) ∧ Below B w Y ∧ Y.heap[g]? = some (rwObj r) ∧ g < Y.heap.size := by
  have k := (hgr.block g (lt_of_block hg) (fun e => sp_far h hg e.symm)).trans hg
  refine ⟨?_, hb.grown hgr hB (fun k hk => (World.ownsRow.lt h k hk).1), k, lt_of_block k⟩
  unfold SpOwn
  rw [sp_snoc, List.length_append]
  exact hown
set_option maxRecDepth 100000 in
set_option maxHeartbeats 2000000 in
theorem spots_any (ao : Option Addr) (ca : Nat) (rows : List Rw) (w : World) (hx : ElemsAt rwShape w ao rows) (hok : ∀ r ∈ rows, r.ok) (hl : rows.length ≤ 4611686018427387904) :
    Calls Tryd.prog 10 #[.slice ao rows.length ca] w fun e w' => ∃ v, e = .returned v ∧ SpOwn w' w.heap.size v (spots rows) ∧ Below w.heap.size w w' := by
  obtain ⟨i0, hi, hz0, hz1, hz2⟩ := info_parts infoSp
  obtain ⟨m, hm⟩ : ∃ m, m = rows.length := ⟨_, rfl⟩
  have HM : Hid _ := hm
  have HC : Hid _ := check_any ao ca rows w hx hok hl
  rw [← hm] at HC hl ⊢
  clear hm
  have hspots : spots rows = if mapOK rows = true then spotsFrom 0 rows else [] := rfl
  have hle36 := spots_le rows
  cases hmo : mapOK rows with
  | false =>
    rw [hmo] at HC hspots
    rw [hspots]
    have HC' : Hid (Calls Tryd.prog 8 #[.slice ao m ca] w fun e w' => e = .returned (.int .i64 13) ∧ Below w.heap.size w w') := HC.out
    clear hspots hle36 HC
    go_enter Tryd.func10, Tryd.ntmps10
    go_wp2_with (go_at_call 8; refine (show Calls _ _ _ _ _ from HC'.out).mono ?_; rintro e w1 ⟨rfl, hb1⟩)
    go_ret
    exact ⟨_, rfl, ⟨rfl, .inl ⟨rfl, rfl⟩⟩, hb1⟩
  | true =>
    rw [hmo] at HC hspots
    simp only [if_true] at hspots
    rw [hspots] at hle36 ⊢
    have HC' : Hid (Calls Tryd.prog 8 #[.slice ao m ca] w fun e w' => e = .returned (.int .i64 0) ∧ Below w.heap.size w w') := HC.out
    have HSH : Hid (∀ r ∈ rows, r.seats.size ≤ 12) := fun r hr => row_short (ups_mem (mapOK_parts hmo).2.2 r hr).1
    have hm6 : m ≤ 6 := by have := (mapOK_parts hmo).2.1; have := HM.out; omega
    have HX : Hid (∀ X, Below w.heap.size w X → ElemsAt rwShape X ao rows) := fun X hX => hx.later hX
    have HL36 : Hid (∀ out rest, spotsFrom 0 rows = out ++ rest → out.length ≤ 36) := fun out rest h => by
      rw [h, List.length_append] at hle36; omega
    clear hspots hle36 HC hmo hx hok
    go_enter Tryd.func10, Tryd.ntmps10
    go_wp2_with (go_at_call 8; refine (show Calls _ _ _ _ _ from HC'.out).mono ?_; rintro e w1 ⟨rfl, hb1⟩)
    have HB1 : Hid (Below w.heap.size w w1) := hb1
    clear hb1 HC'
    go_loopw [3, 4, 13] (fun vv vb vi wr => ∃ (i : Nat) (b : Int) (out : List Sp) (V : Value), V = vv ∧ vi = .int .i64 i ∧ i ≤ m ∧ vb = .int .i64 b ∧ 0 ≤ b ∧ b ≤ 20 * i ∧ Hid (SpOwn wr w.heap.size V out) ∧ Hid (spotsFrom 0 rows = out ++ spotsFrom b (rows.drop i)) ∧ Hid (Below w.heap.size w wr)) (fun _ _ vi _ => m - (intOf vi).toNat)
    case atStart => exact ⟨0, 0, [], _, rfl, rfl, by omega, rfl, by omega, by omega, ⟨rfl, .inl ⟨rfl, rfl⟩⟩, rfl, HB1.out⟩
    case round =>
      obtain ⟨i, b, out, V, rfl, rfl, him, rfl, hb0, hb20, HO, HS, HB⟩ := hrel
      by_cases hlt : i < m
      · have hle : i < rows.length := by have := HM.out; omega
        have hlt' : (i : Int) < (m : Int) := by omega
        have hk0 : (0 : Int) ≤ (i : Int) := by omega
        obtain ⟨pb, off, rfl, hpb, k0, k1, k2, k3, k4⟩ := row_cells (HX.out wr HB.out) hle
        have hmem : rows.getD i Rw.zero ∈ rows := by rw [getD_lt _ _ _ hle]; exact List.getElem_mem hle
        have hsz := HSH.out _ hmem
        have hs := HS.out
        rw [drop_getD _ _ hle, spotsFrom] at hs
        clear HS hmem
        generalize rows.getD i Rw.zero = r at *
        have HS2 : Hid _ := hs
        clear hs
        have HBW : Hid (Below w.heap.size w (wr.alloc (rwObj r)) ∧ SpOwn (wr.alloc (rwObj r)) w.heap.size V out ∧ (wr.alloc (rwObj r)).heap[wr.heap.size]? = some (rwObj r)) :=
          ⟨HB.out.alloc HB.out.size _, World.ownsRow.alloc HO.out _, heap_alloc_new wr _⟩
        unfold rwObj at HBW
        have hwz := HB.out.size
        clear HO HB HX
        have HSZ : Hid (wr.heap.size < (wr.alloc (.cells #[.int .i64 r.num, .int .i64 r.cab, .int .i64 r.zone, .bool r.exit, .string r.seats] 25)).heap.size) := by show _ < _; simp
        go_wp2_with fail
        generalize wr.heap.size = g0 at *
        go_loopw [3, 4, 20] (fun vv vb vj wi => ∃ (j : Nat) (b : Int) (out : List Sp) (V : Value), V = vv ∧ vj = .int .i64 j ∧ j ≤ r.seats.size ∧ vb = .int .i64 b ∧ 0 ≤ b ∧ b ≤ 20 * i + j ∧ Hid (SpOwn wi w.heap.size V out) ∧ Hid (spotsFrom 0 rows = out ++ (rowSpots r b (r.list.drop j) ++ spotsFrom (rowEnd b (r.list.drop j) + 1) (rows.drop (i + 1)))) ∧ Hid (Below w.heap.size w wi) ∧ Hid (wi.heap[g0]? = some (rwObj r)) ∧ g0 < wi.heap.size) (fun _ _ vj _ => r.seats.size - (intOf vj).toNat)
        case atStart => exact ⟨0, b, out, V, rfl, rfl, by omega, rfl, hb0, by omega, HBW.out.2.1, HS2.out, HBW.out.1, HBW.out.2.2, HSZ.out⟩
        case round =>
          clear HBW hb0 hb20 HS2 HSZ
          obtain ⟨j, b, out, V, rfl, rfl, hj, rfl, hb0, hb20, HO, HS, HB, HG, hg0⟩ := hrel
          by_cases hjl : j < r.seats.size
          · have hdr : r.list.drop j = r.seats[j] :: r.list.drop (j + 1) := drop_at r.seats j hjl
            have hs := HS.out
            rw [hdr] at hs
            have hg := HG.out
            unfold rwObj at hg
            have c0 := Joins.cell_of_block (i := 0) hg
            have c1 := Joins.cell_of_block (i := 1) hg
            have c2 := Joins.cell_of_block (i := 2) hg
            have c3 := Joins.cell_of_block (i := 3) hg
            have c4 := Joins.cell_of_block (i := 4) hg
            simp at c0 c1 c2 c3 c4
            clear hdr hg HS
            by_cases hd : (r.seats[j].toNat : Int) = 46
            · rw [rowSpots_dot hd, rowEnd_dot hd] at hs
              have HE : Hid _ := hs
              have hd' : decide ((r.seats[j].toNat : Int) = 46) = true := decide_eq_true hd
              clear hs
              go_wp2
              go_roundw
              case rel => exact ⟨j + 1, b + 1, out, V, rfl, by go_num, by omega, by go_num, by omega, by omega, HO, HE, HB, HG, hg0⟩
              case measure => simp [intOf]; omega
            · rw [rowSpots_let hd, rowEnd_let hd] at hs
              have HL : Hid (out.length ≤ 36) := HL36.out _ _ hs
              have HE : Hid (spotsFrom 0 rows = (out ++ [sp r r.seats[j].toNat b]) ++ (rowSpots r b (r.list.drop (j + 1)) ++ spotsFrom (rowEnd b (r.list.drop (j + 1)) + 1) (rows.drop (i + 1)))) := by
                show _ = _
                rw [hs]; simp
              have hd' : decide ((r.seats[j].toNat : Int) = 46) = false := decide_eq_false hd
              clear hs
              have HP : Hid (∀ X, Calls Tryd.prog 27 #[rwv r, .int .u8 r.seats[j].toNat, .int .i64 b] X fun e w' => e = .returned (spv (sp r r.seats[j].toNat b)) ∧ Below X.heap.size X w') := fun X => spot_any r r.seats[j] b X
              have hdw : Below wr.heap.size wr wr.drew := ⟨rfl, rfl, rfl, Nat.le_refl _, fun _ _ => rfl⟩
              have HOY : Hid (∀ Y, Below wr.drew.heap.size wr.drew Y → SpOwn Y w.heap.size V out ∧ Below w.heap.size w Y ∧ w.heap.size ≤ Y.heap.size ∧ Y.heap[g0]? = some (rwObj r)) := fun Y hY => by
                have hb := hdw.trans hY
                exact ⟨HO.out.below hb, HB.out.trans (hb.mono HB.out.size), Nat.le_trans HB.out.size hb.size, (hb.block _ hg0).trans HG.out⟩
              have HC5 : Hid (∀ Y, Below wr.drew.heap.size wr.drew Y → Y.cell? ⟨g0, 0, none⟩ = some (.int .i64 r.num) ∧ Y.cell? ⟨g0, 1, none⟩ = some (.int .i64 r.cab) ∧ Y.cell? ⟨g0, 2, none⟩ = some (.int .i64 r.zone) ∧ Y.cell? ⟨g0, 3, none⟩ = some (.bool r.exit) ∧ Y.cell? ⟨g0, 4, none⟩ = some (.string r.seats)) := fun Y hY => rwo_cells (HOY.out Y hY).2.2.2
              have HA5 : Hid (∀ (s : Sp) Y, Below wr.drew.heap.size wr.drew Y → (Y.alloc (spObj s)).ownsRow w.heap.size 40 7 V out.length (spShape.vals out) ∧ (∀ j u, (spShape.enc s)[j]? = some u → (Y.alloc (spObj s)).cell? ((⟨Y.heap.size, 0, none⟩ : Addr).add j) = some u) ∧ w.heap.size ≤ (Y.alloc (spObj s)).heap.size ∧
                  ∀ g cap Z, Z.ownsRow w.heap.size 40 7 (.slice (some ⟨g, 0, none⟩) (out.length + 1) cap) (out.length + 1) (spShape.vals out ++ spShape.enc s) → (Y.alloc (spObj s)).grownBy Z V.ownBlock → SpOwn Z w.heap.size (.slice (some ⟨g, 0, none⟩) (out.length + 1) cap) (out ++ [s]) ∧ Below w.heap.size w Z ∧ Z.heap[g0]? = some (rwObj r) ∧ g0 < Z.heap.size) := fun s Y hY => by
                obtain ⟨q1, q2, q3, q4⟩ := HOY.out Y hY
                have z1 : w.heap.size ≤ (Y.alloc (spObj s)).heap.size := by simp; omega
                refine ⟨World.ownsRow.alloc q1 _, World.news_of_block (heap_alloc_new Y (spObj s)), z1, fun g cap Z ho hg => ?_⟩
                exact sp_grown z1 (World.ownsRow.alloc q1 _) (q2.alloc q3 _) ((Below.heap_alloc _ _ _ (lt_of_block q4)).trans q4) ho hg
              have h63 : out.length + 1 ≤ maxLen := by unfold maxLen; have := HL.out; omega
              have hby : (out.length + 1) * 48 ≤ 140737488355328 := by have := HL.out; omega
              clear hdw HO HB HG HL
              unfold rwv spv at HP
              unfold spObj at HA5
              generalize sp r (r.seats[j].toNat : Int) b = s at *
              have hbi : (0 : Int) ≤ (j : Int) := by omega
              have hbj : (j : Int) < (r.seats.size : Int) := by omega
              go_wp2_with fail
              go_region_held3 (fun w' => w'.cell? ⟨g0, 0, none⟩ = some (.int .i64 r.num) ∧ w'.cell? ⟨g0, 1, none⟩ = some (.int .i64 r.cab) ∧ w'.cell? ⟨g0, 2, none⟩ = some (.int .i64 r.zone) ∧ w'.cell? ⟨g0, 3, none⟩ = some (.bool r.exit) ∧ w'.cell? ⟨g0, 4, none⟩ = some (.string r.seats)) (first | go_keep | trivial)
                ((first
                  | (go_at_call 27; refine (show Calls _ _ _ _ _ from HP.out _).mono ?_; rintro e w5 ⟨rfl, hb5⟩; obtain ⟨d0, d1, d2, d3, d4⟩ := HC5.out w5 hb5)
                  | (refine step_append_lies _ (by rfl) (.tmp 30) (.tmp 38) 29 (by rfl) w.heap.size 40 i0 (.agg #[.int .i64 0, .int .u8 0, .int .i64 0, .int .i64 0, .int .i64 0, .bool false, .bool false]) 7 48 Tryd.underlying29 hi hz0 hz1 hz2 rfl (by decide) V out.length (spShape.vals out) (by rfl) (HA5.out s w5 hb5).1 ⟨w5.heap.size, 0, none⟩ 1 1 (spShape.enc s) (by rfl) rfl (HA5.out s w5 hb5).2.1 (spShape.one s) (by decide) h63 hby (HA5.out s w5 hb5).2.2.1 _ rfl ?_; intro g cap w6 hown hgrow hat hlt; have hk6 := (HA5.out s w5 hb5).2.2.2 g cap w6 hown hgrow; obtain ⟨f0, f1, f2, f3, f4⟩ := rwo_cells hk6.2.2.1)
                  | fail))
              have HK6 : Hid _ := hk6
              clear hk6 hown hgrow hat hlt f0 f1 f2 f3 f4 d0 d1 d2 d3 d4 hb5 c0 c1 c2 c3 c4 HOY HC5 HA5
              go_wp2
              go_roundw
              case rel => exact ⟨j + 1, b, out ++ [s], _, rfl, by go_num, by omega, rfl, hb0, by omega, HK6.out.1, HE, HK6.out.2.1, HK6.out.2.2.1, HK6.out.2.2.2⟩
              case measure => simp [intOf]; omega
          · have hdr : r.list.drop j = [] := drop_end r.seats j hjl
            have hs := HS.out
            rw [hdr] at hs
            have HE : Hid (spotsFrom 0 rows = out ++ spotsFrom (b + 1) (rows.drop (i + 1))) := hs
            have hjb : (j : Int) ≤ 12 := by omega
            clear hs hdr HS
            go_wp2
            go_roundw
            case rel => exact ⟨i + 1, b + 1, out, V, rfl, by go_num, by omega, by go_num, by omega, by omega, HO, HE, HB⟩
            case measure => simp [intOf]; omega
      · have hs := HS.out
        rw [List.drop_of_length_le (by have := HM.out; omega)] at hs
        have HE : Hid (SpOwn wr w.heap.size V (spotsFrom 0 rows)) := by
          show SpOwn _ _ _ _
          rw [hs, spotsFrom, List.append_nil]; exact HO.out
        clear hs HS HO
        go_wp2
        go_ret
        exact ⟨_, rfl, HE.out, HB.out⟩
end Go.Proofs.YtbnmjmapmbdioaaDoor.Cb
