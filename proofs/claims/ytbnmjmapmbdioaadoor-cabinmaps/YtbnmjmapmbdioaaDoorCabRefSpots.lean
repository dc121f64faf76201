/-
  The document's cabin: the seats of a map.
-/
import Derived.Test.YtbnmjmapmbdioaaDoorCabSpots
import Derived.Test.YtbnmjmapmbdioaaDoorCabRefCheck
namespace Go.Proofs.YtbnmjmapmbdioaaDoor.Cb
open Go.RowKit Cm
attribute [local go_sem ↓] Go.wp_at_zero Go.wp_at_succ
set_option linter.unusedVariables false

theorem scan_letters {n l : Int} {e : Bool} {L : List UInt8} (h : scan n l e L = true) : ∀ c ∈ L, (c.toNat : Int) = 46 ∨ isL (gr c.toNat) = true := by
  induction L generalizing n l e with
  | nil => intro c hc; simp at hc
  | cons k L ih =>
    intro c hc
    by_cases hd : (k.toNat : Int) = 46
    · rw [scan_dot hd] at h
      cases e
      · simp at h
        rcases List.mem_cons.1 hc with rfl | hc
        · exact .inl hd
        · exact ih h c hc
      · simp at h
    · by_cases hl : isL (gr k.toNat) = true ∧ l < gr k.toNat
      · rw [scan_let hd hl.1 hl.2] at h
        rcases List.mem_cons.1 hc with rfl | hc
        · exact .inr hl.1
        · exact ih h c hc
      · rw [scan_bad hd hl] at h; cases h
set_option maxRecDepth 100000 in
set_option maxHeartbeats 2000000 in
theorem spotsR_any (ao : Option Addr) (ca : Nat) (rows : List Rw) (w : World) (hx : ElemsAt rwShape w ao rows) (hok : ∀ r ∈ rows, r.ok) (hl : rows.length ≤ 4611686018427387904) :
    Calls Tryd.prog 11 #[.slice ao rows.length ca] w fun e w' => ∃ v, e = .returned v ∧ SpOwn w' w.heap.size v (spots rows) ∧ Below w.heap.size w w' := by
  obtain ⟨i0, hi, hz0, hz1, hz2⟩ := info_parts infoSp
  obtain ⟨m, hm⟩ : ∃ m, m = rows.length := ⟨_, rfl⟩
  have HM : Hid _ := hm
  have HC : Hid _ := checkR_any ao ca rows w hx hok hl
  rw [← hm] at HC hl ⊢
  clear hm
  have hspots : spots rows = if mapOK rows = true then spotsFrom 0 rows else [] := rfl
  have hle36 := spots_le rows
  cases hmo : mapOK rows with
  | false =>
    rw [hmo] at HC hspots
    rw [hspots]
    have HC' : Hid (Calls Tryd.prog 9 #[.slice ao m ca] w fun e w' => e = .returned (.int .i64 13) ∧ Below w.heap.size w w') := HC.out
    clear hspots hle36 HC
    go_enter Tryd.func11, Tryd.ntmps11
    go_wp2_with (go_at_call 9; refine (show Calls _ _ _ _ _ from HC'.out).mono ?_; rintro e w1 ⟨rfl, hb1⟩)
    go_ret
    exact ⟨_, rfl, ⟨rfl, .inl ⟨rfl, rfl⟩⟩, hb1⟩
  | true =>
    rw [hmo] at HC hspots
    simp only [if_true] at hspots
    rw [hspots] at hle36 ⊢
    have HC' : Hid (Calls Tryd.prog 9 #[.slice ao m ca] w fun e w' => e = .returned (.int .i64 0) ∧ Below w.heap.size w w') := HC.out
    have HSH : Hid (∀ r ∈ rows, r.seats.size ≤ 12 ∧ ∀ c ∈ r.list, (c.toNat : Int) = 46 ∨ isL (gr c.toNat) = true) := fun r hr => ⟨row_short (ups_mem (mapOK_parts hmo).2.2 r hr).1, scan_letters (rowOK_scan (ups_mem (mapOK_parts hmo).2.2 r hr).1)⟩
    have hm6 : m ≤ 6 := by have := (mapOK_parts hmo).2.1; have := HM.out; omega
    have HX : Hid (∀ X, Below w.heap.size w X → ElemsAt rwShape X ao rows) := fun X hX => hx.later hX
    have HL36 : Hid (∀ out rest, spotsFrom 0 rows = out ++ rest → out.length ≤ 36) := fun out rest h => by
      rw [h, List.length_append] at hle36; omega
    clear hspots hle36 HC hmo hx hok
    go_enter Tryd.func11, Tryd.ntmps11
    go_wp2_with (go_at_call 9; refine (show Calls _ _ _ _ _ from HC'.out).mono ?_; rintro e w1 ⟨rfl, hb1⟩)
    have HB1 : Hid (Below w.heap.size w w1) := hb1
    clear hb1 HC'
    go_loopw [3, 4, 14] (fun vv vb vi wr => ∃ (i : Nat) (b : Int) (out : List Sp) (V : Value), V = vv ∧ vi = .int .i64 i ∧ i ≤ m ∧ vb = .int .i64 b ∧ 0 ≤ b ∧ b ≤ 20 * i ∧ Hid (SpOwn wr w.heap.size V out) ∧ Hid (spotsFrom 0 rows = out ++ spotsFrom b (rows.drop i)) ∧ Hid (Below w.heap.size w wr)) (fun _ _ vi _ => m - (intOf vi).toNat)
    case atStart => exact ⟨0, 0, [], _, rfl, rfl, by omega, rfl, by omega, by omega, ⟨rfl, .inl ⟨rfl, rfl⟩⟩, rfl, HB1.out⟩
    case round =>
      obtain ⟨i, b, out, V, rfl, rfl, him, rfl, hb0, hb20, HO, HS, HB⟩ := hrel
      by_cases hlt : i < m
      · have hle : i < rows.length := by have := HM.out; omega
        have hlt' : (i : Int) < (m : Int) := by omega
        have hk0 : (0 : Int) ≤ (i : Int) := by omega
        obtain ⟨pb, off, rfl, hpb, k0, k1, k2, k3, k4⟩ := row_cells (HX.out wr HB.out) hle
        have hmem : rows.getD i Rw.zero ∈ rows := by rw [getD_lt _ _ _ hle]; exact List.getElem_mem hle
        have hsz := (HSH.out _ hmem).1
        have HLT : Hid _ := (HSH.out _ hmem).2
        have hs := HS.out
        rw [drop_getD _ _ hle, spotsFrom] at hs
        clear HS hmem
        generalize rows.getD i Rw.zero = r at *
        have HS2 : Hid _ := hs
        clear hs
        have HBW : Hid (Below w.heap.size w (wr.alloc (rwObj r)) ∧ SpOwn (wr.alloc (rwObj r)) w.heap.size V out ∧ (wr.alloc (rwObj r)).heap[wr.heap.size]? = some (rwObj r)) :=
          ⟨HB.out.alloc HB.out.size _, World.ownsRow.alloc HO.out _, heap_alloc_new wr _⟩
        unfold rwObj at HBW
        have hwz := HB.out.size
        clear HO HB HX
        have HSZ : Hid (wr.heap.size < (wr.alloc (.cells #[.int .i64 r.num, .int .i64 r.cab, .int .i64 r.zone, .bool r.exit, .string r.seats] 25)).heap.size) := by show _ < _; simp
        go_wp2_with fail
        generalize wr.heap.size = g0 at *
        go_loopw [3, 4, 7] (fun vv vb vj wi => ∃ (j : Nat) (b : Int) (out : List Sp) (V : Value), V = vv ∧ vj = .int .i64 j ∧ j ≤ r.seats.size ∧ vb = .int .i64 b ∧ 0 ≤ b ∧ b ≤ 20 * i + j ∧ Hid (SpOwn wi w.heap.size V out) ∧ Hid (spotsFrom 0 rows = out ++ (rowSpots r b (r.list.drop j) ++ spotsFrom (rowEnd b (r.list.drop j) + 1) (rows.drop (i + 1)))) ∧ Hid (Below w.heap.size w wi) ∧ Hid (wi.heap[g0]? = some (rwObj r)) ∧ g0 < wi.heap.size) (fun _ _ vj _ => r.seats.size - (intOf vj).toNat)
        case atStart => exact ⟨0, b, out, V, rfl, rfl, by omega, rfl, hb0, by omega, HBW.out.2.1, HS2.out, HBW.out.1, HBW.out.2.2, HSZ.out⟩
        case round =>
          clear HBW hb0 hb20 HS2 HSZ
          obtain ⟨j, b, out, V, rfl, rfl, hj, rfl, hb0, hb20, HO, HS, HB, HG, hg0⟩ := hrel
          have hg := HG.out
          unfold rwObj at hg
          have c0 := Joins.cell_of_block (i := 0) hg
          have c1 := Joins.cell_of_block (i := 1) hg
          have c2 := Joins.cell_of_block (i := 2) hg
          have c3 := Joins.cell_of_block (i := 3) hg
          have c4 := Joins.cell_of_block (i := 4) hg
          simp at c0 c1 c2 c3 c4
          clear hg
          by_cases hjl : j < r.seats.size
          · have hdr : r.list.drop j = r.seats[j] :: r.list.drop (j + 1) := drop_at r.seats j hjl
            have hs := HS.out
            rw [hdr] at hs
            clear hdr HS
            by_cases hd : (r.seats[j].toNat : Int) = 46
            · rw [rowSpots_dot hd, rowEnd_dot hd] at hs
              have HE : Hid _ := hs
              have hd' : decide ((r.seats[j].toNat : Int) = 46) = true := decide_eq_true hd
              clear hs
              go_wp2
              go_roundw
              case rel => exact ⟨j + 1, b + 1, out, V, rfl, by go_num, by omega, by go_num, by omega, by omega, HO, HE, HB, HG, hg0⟩
              case measure => simp [intOf]; omega
            · rw [rowSpots_let hd, rowEnd_let hd] at hs
              have HL : Hid (out.length ≤ 36) := HL36.out _ _ hs
              have HE : Hid (spotsFrom 0 rows = (out ++ [sp r r.seats[j].toNat b]) ++ (rowSpots r b (r.list.drop (j + 1)) ++ spotsFrom (rowEnd b (r.list.drop (j + 1)) + 1) (rows.drop (i + 1)))) := by
                show _ = _
                rw [hs]; simp
              have hd' : decide ((r.seats[j].toNat : Int) = 46) = false := decide_eq_false hd
              clear hs
              have HP : Hid (∀ X, Calls Tryd.prog 28 #[.int .u8 r.seats[j].toNat] X fun e w' => e = .returned (.int .u8 (gr r.seats[j].toNat)) ∧ w' = X) := fun X => by
                have hlt := (HLT.out r.seats[j] (by rw [show r.list = r.seats.data.toList from rfl]; exact List.mem_of_getElem? (i := j) (by rw [List.getElem?_eq_getElem (by simpa using hjl)]; rfl))).resolve_left hd
                have := greatR_any r.seats[j] X
                rw [rg_ok hlt] at this
                exact this
              have hdw : Below wr.heap.size wr wr.drew := ⟨rfl, rfl, rfl, Nat.le_refl _, fun _ _ => rfl⟩
              have HOY : Hid (∀ Y, Below wr.drew.heap.size wr.drew Y → SpOwn Y w.heap.size V out ∧ Below w.heap.size w Y ∧ w.heap.size ≤ Y.heap.size ∧ Y.heap[g0]? = some (rwObj r)) := fun Y hY => by
                have hb := hdw.trans hY
                exact ⟨HO.out.below hb, HB.out.trans (hb.mono HB.out.size), Nat.le_trans HB.out.size hb.size, (hb.block _ hg0).trans HG.out⟩
              have HC5 : Hid (∀ Y, Below wr.drew.heap.size wr.drew Y → Y.cell? ⟨g0, 0, none⟩ = some (.int .i64 r.num) ∧ Y.cell? ⟨g0, 1, none⟩ = some (.int .i64 r.cab) ∧ Y.cell? ⟨g0, 2, none⟩ = some (.int .i64 r.zone) ∧ Y.cell? ⟨g0, 3, none⟩ = some (.bool r.exit) ∧ Y.cell? ⟨g0, 4, none⟩ = some (.string r.seats)) := fun Y hY => rwo_cells (HOY.out Y hY).2.2.2
              have HA5 : Hid (∀ (s : Sp) Y, Below wr.drew.heap.size wr.drew Y → (Y.alloc (spObj s)).ownsRow w.heap.size 40 7 V out.length (spShape.vals out) ∧ (∀ j u, (spShape.enc s)[j]? = some u → (Y.alloc (spObj s)).cell? ((⟨Y.heap.size, 0, none⟩ : Addr).add j) = some u) ∧ w.heap.size ≤ (Y.alloc (spObj s)).heap.size ∧
                  ∀ g cap Z, Z.ownsRow w.heap.size 40 7 (.slice (some ⟨g, 0, none⟩) (out.length + 1) cap) (out.length + 1) (spShape.vals out ++ spShape.enc s) → (Y.alloc (spObj s)).grownBy Z V.ownBlock → SpOwn Z w.heap.size (.slice (some ⟨g, 0, none⟩) (out.length + 1) cap) (out ++ [s]) ∧ Below w.heap.size w Z ∧ Z.heap[g0]? = some (rwObj r) ∧ g0 < Z.heap.size) := fun s Y hY => by
                obtain ⟨q1, q2, q3, q4⟩ := HOY.out Y hY
                have z1 : w.heap.size ≤ (Y.alloc (spObj s)).heap.size := by simp; omega
                refine ⟨World.ownsRow.alloc q1 _, World.news_of_block (heap_alloc_new Y (spObj s)), z1, fun g cap Z ho hg => ?_⟩
                exact sp_grown z1 (World.ownsRow.alloc q1 _) (q2.alloc q3 _) ((Below.heap_alloc _ _ _ (lt_of_block q4)).trans q4) ho hg
              have h63 : out.length + 1 ≤ maxLen := by unfold maxLen; have := HL.out; omega
              have hby : (out.length + 1) * 48 ≤ 140737488355328 := by have := HL.out; omega
              have hdd : Below wr.drew.heap.size wr.drew wr.drew := Below.refl _ _
              clear hdw HO HB HG HL
              unfold sp at HE
              have hsq : ∀ X, sp r (r.seats[j].toNat : Int) b = X → True := fun _ _ => trivial
              clear hsq
              have hbi : (0 : Int) ≤ (j : Int) := by omega
              have hbj : (j : Int) < (r.seats.size : Int) := by omega
              generalize hgx : gr (r.seats[j].toNat : Int) = x at *
              generalize hgy : (r.seats[j].toNat : Int) = y at *
              clear hgx
              obtain ⟨q, hq⟩ : ∃ q, q = decide (x ≠ y) := ⟨_, rfl⟩
              have hqq : (x != y) = q := by rw [hq]; by_cases h : x = y <;> simp [h]
              rw [← hq] at HE
              clear hq
              have HA6 : Hid ((wr.alloc (spObj ⟨r.num, x, r.cab, r.zone, b, r.exit, q⟩)).drew.ownsRow w.heap.size 40 7 V out.length (spShape.vals out) ∧ (∀ j u, (spShape.enc ⟨r.num, x, r.cab, r.zone, b, r.exit, q⟩)[j]? = some u → (wr.alloc (spObj ⟨r.num, x, r.cab, r.zone, b, r.exit, q⟩)).drew.cell? ((⟨wr.heap.size, 0, none⟩ : Addr).add j) = some u) ∧ w.heap.size ≤ (wr.alloc (spObj ⟨r.num, x, r.cab, r.zone, b, r.exit, q⟩)).drew.heap.size ∧ ∀ g cap Z, Z.ownsRow w.heap.size 40 7 (.slice (some ⟨g, 0, none⟩) (out.length + 1) cap) (out.length + 1) (spShape.vals out ++ spShape.enc ⟨r.num, x, r.cab, r.zone, b, r.exit, q⟩) → (wr.alloc (spObj ⟨r.num, x, r.cab, r.zone, b, r.exit, q⟩)).drew.grownBy Z V.ownBlock → SpOwn Z w.heap.size (.slice (some ⟨g, 0, none⟩) (out.length + 1) cap) (out ++ [⟨r.num, x, r.cab, r.zone, b, r.exit, q⟩]) ∧ Below w.heap.size w Z ∧ Z.heap[g0]? = some (rwObj r) ∧ g0 < Z.heap.size) := HA5.out ⟨r.num, x, r.cab, r.zone, b, r.exit, q⟩ wr.drew hdd
              unfold spObj at HA6
              clear HA5
              go_wp2_with (go_at_call 28; refine (show Calls _ _ _ _ _ from HP.out _).mono ?_; rintro e wr ⟨rfl, rfl⟩)
              go_region_held3 (fun w' => w'.cell? ⟨g0, 0, none⟩ = some (.int .i64 r.num) ∧ w'.cell? ⟨g0, 1, none⟩ = some (.int .i64 r.cab) ∧ w'.cell? ⟨g0, 2, none⟩ = some (.int .i64 r.zone) ∧ w'.cell? ⟨g0, 3, none⟩ = some (.bool r.exit) ∧ w'.cell? ⟨g0, 4, none⟩ = some (.string r.seats)) (first | go_keep | trivial)
                ((first
                  | (refine step_append_lies _ (by rfl) (.tmp 37) (.tmp 56) 29 (by rfl) w.heap.size 40 i0 (.agg #[.int .i64 0, .int .u8 0, .int .i64 0, .int .i64 0, .int .i64 0, .bool false, .bool false]) 7 48 Tryd.underlying29 hi hz0 hz1 hz2 rfl (by decide) V out.length (spShape.vals out) (by rfl) HA6.out.1 ⟨wr.heap.size, 0, none⟩ 1 1 (spShape.enc ⟨r.num, x, r.cab, r.zone, b, r.exit, q⟩) (by rfl) rfl HA6.out.2.1 (spShape.one _) (by decide) h63 hby HA6.out.2.2.1 _ rfl ?_; intro g cap w6 hown hgrow hat hlt; have hk6 := HA6.out.2.2.2 g cap w6 hown hgrow; obtain ⟨f0, f1, f2, f3, f4⟩ := rwo_cells hk6.2.2.1)
                  | fail))
              have HK6 : Hid _ := hk6
              clear hk6 hown hgrow hat hlt f0 f1 f2 f3 f4 c0 c1 c2 c3 c4 HOY HC5 HA6
              go_wp2
              go_roundw
              case rel => exact ⟨j + 1, b, out ++ [(⟨r.num, x, r.cab, r.zone, b, r.exit, q⟩ : Sp)], _, rfl, by go_num, by omega, rfl, hb0, by omega, HK6.out.1, HE, HK6.out.2.1, HK6.out.2.2.1, HK6.out.2.2.2⟩
              case measure => simp [intOf]; omega
          · have hdr : r.list.drop j = [] := drop_end r.seats j hjl
            have hs := HS.out
            rw [hdr] at hs
            have HE : Hid (spotsFrom 0 rows = out ++ spotsFrom (b + 1) (rows.drop (i + 1))) := hs
            have hjb : (j : Int) ≤ 12 := by omega
            clear hs hdr HS
            go_wp2
            go_roundw
            case rel => exact ⟨i + 1, b + 1, out, V, rfl, by go_num, by omega, by go_num, by omega, by omega, HO, HE, HB⟩
            case measure => simp [intOf]; omega
      · have hs := HS.out
        rw [List.drop_of_length_le (by have := HM.out; omega)] at hs
        have HE : Hid (SpOwn wr w.heap.size V (spotsFrom 0 rows)) := by
          show SpOwn _ _ _ _
          rw [hs, spotsFrom, List.append_nil]; exact HO.out
        clear hs HS HO
        go_wp2
        go_ret
        exact ⟨_, rfl, HE.out, HB.out⟩
end Go.Proofs.YtbnmjmapmbdioaaDoor.Cb
