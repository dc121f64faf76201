/-
  The statement CabinParts, walked: every seat is found in the block whose number it bears, and blocks have just their seats that aren't blocked.
-/
import Derived.Test.YtbnmjmapmbdioaaDoorCabLives
import Derived.Test.YtbnmjmapmbdioaaDoorCabPartsMath
import Derived.Test.YtbnmjmapmbdioaaDoorCabRefCheck
import Derived.Deep.CutRange
namespace Go.Proofs.YtbnmjmapmbdioaaDoor.Cb
open Go.RowKit Cm Go.Shelf
attribute [local go_sem ↓] Go.wp_at_zero Go.wp_at_succ
set_option linter.unusedVariables false

/-- All that is read on the way, at any later world. -/
structure Sees (Z Y : World) (ao : Option Addr) (aS : Option Addr) (cS : Nat) (B : Nat) (vB : Value) (rows : List Rw) : Prop where
  bel : Below Z.heap.size Z Y
  rws : ElemsAt rwShape Y ao rows
  sps : ElemsAt spShape Y aS (spots rows)
  bks : BlksAt Y B vB (blocksOf (spots rows))
theorem Sees.later {Z Y Y' : World} {ao aS : Option Addr} {cS B : Nat} {vB : Value} {rows : List Rw} (h : Sees Z Y ao aS cS B vB rows) (hb : Below Y.heap.size Y Y') : Sees Z Y' ao aS cS B vB rows :=
  ⟨h.bel.trans (hb.mono h.bel.size), h.rws.later hb, h.sps.later hb, h.bks.below hb⟩
theorem Sees.drewN {Z Y : World} {ao aS : Option Addr} {cS B n : Nat} {vB : Value} {rows : List Rw} (h : Sees Z Y ao aS cS B vB rows) : Sees Z (Y.drewN n) ao aS cS B vB rows :=
  h.later ⟨rfl, rfl, rfl, Nat.le_refl _, fun _ _ => rfl⟩
def anySeat (a : Int × Int) (l : List (Int × Int)) (j : Nat) : Bool := (l.take j).any fun y => decide (y = a)
theorem anySeat_step (a : Int × Int) (l : List (Int × Int)) (j : Nat) (h : j < l.length) : anySeat a l (j + 1) = (anySeat a l j || decide (l.getD j (0, 0) = a)) := by
  unfold anySeat
  rw [List.take_succ_eq_append_getElem h, List.any_append, getD_lt _ _ _ h]; simp
theorem anySeat_all (a : Int × Int) (l : List (Int × Int)) : anySeat a l l.length = decide (a ∈ l) := by
  unfold anySeat
  rw [List.take_length, Bool.eq_iff_iff]
  simp
theorem fold_le (L : List Sp) (bs : List Bk) : (L.foldl step bs).length ≤ bs.length + L.length := by
  induction L generalizing bs with
  | nil => simp
  | cons s t ih =>
    rw [List.foldl_cons, List.length_cons]
    have h1 := ih (step bs s)
    have h2 : (step bs s).length = if s.blk = bs.length then bs.length + 1 else bs.length := by rw [step_length, opened_length]
    split at h2 <;> omega
theorem blocks_le (rows : List Rw) : (blocksOf (spots rows)).length ≤ 36 := by
  have h1 := fold_le (spots rows) []
  have h2 := spots_le rows
  unfold blocksOf
  simp only [List.length_nil] at h1
  omega
/-- How many seats the blocks from the k-th on have. -/
def rest (bs : List Bk) (k : Nat) : Nat := ((bs.drop k).map fun b => b.seats.length).sum
theorem rest_step (bs : List Bk) (k : Nat) (h : k < bs.length) : rest bs k = (bs.getD k Bk.zero).seats.length + rest bs (k + 1) := by
  unfold rest
  rw [List.drop_eq_getElem_cons h, List.map_cons, List.sum_cons, getD_lt _ _ _ h]
theorem rest_end (bs : List Bk) : rest bs bs.length = 0 := by unfold rest; rw [List.drop_length]; rfl
theorem rest_all (rows : List Rw) : rest (blocksOf (spots rows)) 0 = free (spots rows) (spots rows).length := by
  unfold rest
  rw [List.drop_zero]; exact free_all rows
set_option maxRecDepth 100000 in
set_option maxHeartbeats 2000000 in
theorem parts_walk (ao : Option Addr) (ca : Nat) (rows : List Rw) (w : World) (hx : ElemsAt rwShape w ao rows) (hok : ∀ r ∈ rows, r.ok) (hl : rows.length ≤ 4611686018427387904) (hp : Pow w) :
    Calls Tryd.prog 5 #[.slice ao rows.length ca] w fun e w' => e = .returned (.bool true) ∧ Below w.heap.size w w' := by
  have HL : Hid _ := lives_any w hp
  have HX : Hid (∀ Y, Below w.heap.size w Y → ElemsAt rwShape Y ao rows) := fun Y hY => hx.later hY
  have HOK : Hid (∀ r ∈ rows, r.ok) := hok
  have HRL : Hid (rows.length ≤ 4611686018427387904) := hl
  clear hx hok hp
  obtain ⟨rl, hrl⟩ : ∃ rl, rl = rows.length := ⟨_, rfl⟩
  have HR : Hid _ := hrl
  rw [← hrl] at hl ⊢
  clear hrl
  go_enter Tryd.func5, Tryd.ntmps5
  go_wp2_with fail
  refine (show Calls _ _ _ _ _ from HL.out).mono ?_
  rintro e w1 ⟨rfl, hb1⟩
  have HB1 : Hid (Below w.heap.size w w1) := hb1
  clear hb1 HL
  have HC1 : Hid (Calls Tryd.prog 10 #[.slice ao rl ca] w1 fun e w' => ∃ v, e = .returned v ∧ SpOwn w' w1.heap.size v (spots rows) ∧ Below w1.heap.size w1 w') := by rw [HR.out]; exact spots_any ao ca rows w1 (HX.out _ HB1.out) HOK.out HRL.out
  go_wp2_with fail
  refine (show Calls _ _ _ _ _ from HC1.out).mono ?_
  rintro e w2 ⟨vS, rfl, hS, hb2⟩
  have HB2 : Hid (Below w.heap.size w w2) := HB1.out.trans (hb2.mono HB1.out.size)
  obtain ⟨aS, cS, rfl, hcS, hxS⟩ := hS.slice
  have HS2 : Hid (ElemsAt spShape w2 aS (spots rows)) := hxS
  clear hS hxS hb2 HC1
  have HC2 : Hid (Calls Tryd.prog 12 #[.slice ao rl ca] w2 fun e w' => ∃ v, e = .returned v ∧ BlksAt w' w2.heap.size v (blocksOf (spots rows)) ∧ Below w2.heap.size w2 w') := by rw [HR.out]; exact blocks_any ao ca rows w2 (HX.out _ HB2.out) HOK.out HRL.out
  go_wp2_with fail
  refine (show Calls _ _ _ _ _ from HC2.out).mono ?_
  rintro e w3 ⟨vB, rfl, hV, hb3⟩
  have HB3 : Hid (Below w.heap.size w w3) := HB2.out.trans (hb3.mono HB2.out.size)
  have HS3 : Hid (ElemsAt spShape w3 aS (spots rows)) := HS2.out.later hb3
  have HV3 : Hid _ := hV
  obtain ⟨aB, cB, rfl, hneB⟩ := hV.size_eq
  clear hV hb3 HC2 HS2 hneB
  have HC3 : Hid (Calls Tryd.prog 9 #[.slice ao rl ca] w3 fun e w' => e = .returned (.int .i64 (errOf (mapOK rows))) ∧ Below w3.heap.size w3 w') := by rw [HR.out]; exact checkR_any ao ca rows w3 (HX.out _ HB3.out) HOK.out HRL.out
  obtain ⟨m, hm⟩ : ∃ m, m = (spots rows).length := ⟨_, rfl⟩
  obtain ⟨M, hM⟩ : ∃ M, M = (blocksOf (spots rows)).length := ⟨_, rfl⟩
  have hm36 : m ≤ 36 := by rw [hm]; exact spots_le rows
  rw [← hm] at hcS ⊢
  rw [← hM]
  have HM : Hid _ := hm
  have HMB : Hid _ := hM
  clear hm hM
  cases hmo : mapOK rows with
  | false =>
    rw [hmo] at HC3
    have hm0 : m = 0 := by rw [HM.out]; unfold spots; rw [hmo]; rfl
    have hM0 : M = 0 := by
      rw [HMB.out]
      have : spots rows = [] := by unfold spots; rw [hmo]; rfl
      rw [this]; rfl
    have HC4 : Hid (Calls Tryd.prog 9 #[.slice ao rl ca] w3 fun e w' => e = .returned (.int .i64 13) ∧ Below w3.heap.size w3 w') := HC3.out
    subst hm0 hM0
    clear HC3 hmo
    go_wp2_with fail
    refine (show Calls _ _ _ _ _ from HC4.out).mono ?_
    rintro e w4 ⟨rfl, hb4⟩
    have HB4 : Hid (Below w.heap.size w w4) := HB3.out.trans (hb4.mono HB3.out.size)
    clear hb4 HC4
    go_wp2
    go_ret
    exact ⟨rfl, HB4.out⟩
  | true =>
    rw [hmo] at HC3
    have HC4 : Hid (Calls Tryd.prog 9 #[.slice ao rl ca] w3 fun e w' => e = .returned (.int .i64 0) ∧ Below w3.heap.size w3 w') := HC3.out
    clear HC3 hmo
    go_wp2_with fail
    refine (show Calls _ _ _ _ _ from HC4.out).mono ?_
    rintro e Z ⟨rfl, hb4⟩
    have HBZ : Hid (Below w.heap.size w Z) := HB3.out.trans (hb4.mono HB3.out.size)
    have HSee : Hid (Sees Z Z ao aS cS w2.heap.size (.slice aB M cB) rows) := ⟨Below.refl _ _, HX.out _ HBZ.out, HS3.out.later hb4, by rw [HMB.out]; exact BlksAt.below HV3.out hb4⟩
    have HFd : Hid (∀ (a : Int × Int) Y, ElemsAt rwShape Y ao rows → Calls Tryd.prog 17 #[sev a, .slice ao rl ca] Y fun e w' => e = .returned (foundV (foundL a (spots rows))) ∧ Below Y.heap.size Y w') := fun a Y hY => by rw [HR.out]; exact find_any a ao ca rows Y hY HOK.out HRL.out
    have HNr : Hid (∀ (a b : Int × Int) Y, ElemsAt rwShape Y ao rows → Calls Tryd.prog 19 #[sev a, sev b, .slice ao rl ca] Y fun e w' => e = .returned (.bool (nearL (spots rows) a b)) ∧ Below Y.heap.size Y w') := fun a b Y hY => by rw [HR.out]; exact near_any a b ao ca rows Y hY HOK.out HRL.out
    clear hb4 HC4 HB3 HS3 HV3 HB2 HB1 HX
    have hgdS := guardSe
    have hgdP := guardSp
    go_wp2_with fail
    go_loopw [5, 37] (fun vn vi wr => ∃ i : Nat, vi = .int .i64 i ∧ i ≤ m ∧ vn = .int .i64 (free (spots rows) i) ∧ Hid (Sees Z wr ao aS cS w2.heap.size (.slice aB M cB) rows)) (fun _ vi _ => m - (intOf vi).toNat)
    case atStart => exact ⟨0, rfl, by omega, rfl, HSee.out⟩
    case round =>
      clear HSee
      obtain ⟨i, rfl, him, rfl, HS⟩ := hrel
      by_cases hlt : i < m
      · have hle : i < (spots rows).length := by have := HM.out; omega
        have hlt' : (i : Int) < (m : Int) := by omega
        have hk0 : (0 : Int) ≤ (i : Int) := by omega
        have g := good_all rows
        have hmem : (spots rows).getD i Sp.zero ∈ spots rows := by rw [getD_lt _ _ _ hle]; exact List.getElem_mem hle
        obtain ⟨hr0, hr1⟩ := g.rng _ hmem
        obtain ⟨hi1, hi2, hi3⟩ := g.info _ hmem
        obtain ⟨kb, hkb⟩ : ∃ kb : Nat, ((spots rows).getD i Sp.zero).blk = (kb : Int) := ⟨((spots rows).getD i Sp.zero).blk.toNat, by omega⟩
        have hthere := there_iff rows hle
        rw [hkb, Int.toNat_natCast] at hi1 hi2 hi3 hthere
        have hkbM : kb < M := by have := HMB.out; omega
        have hkbI : (kb : Int) < (M : Int) := by omega
        have hkb0 : (0 : Int) ≤ (kb : Int) := by omega
        have HPrev : Hid (∀ k, i = k + 1 → ¬ ((kb : Int) < ((spots rows).getD k Sp.zero).blk)) := fun k e => by
          have := blk_mono rows (i := k) (j := i) (by omega) hle
          omega
        have HFnd : Hid _ := found_at rows hle
        have HNat : Hid (∀ j, j < (spots rows).length → _) := fun j hj => near_at rows hle hj
        have HSne : Hid (∀ j, j < (spots rows).length → i ≠ j → _) := fun j hj hij => seat_ne rows hle hj hij
        have HNat2 : Hid (∀ j, j < (spots rows).length → _) := fun j hj => near_at rows hj hle
        have HBlk : Hid (∀ j : Nat, nearP (spots rows) i j = true → ((spots rows).getD j Sp.zero).blk = (kb : Int) ∧ (i + 1 = j ∨ j + 1 = i) ∧ nearP (spots rows) j i = true) := fun j h => by
          obtain ⟨q1, q2, q3⟩ := nearP_cases _ _ _ h
          exact ⟨q1.trans hkb, q2, q3⟩
        have HFree : Hid _ := free_succ (spots rows) i hle
        obtain ⟨pb, off, e0, _, k0, k1, k2, k3, k4, k5, k6⟩ := spot_cells HS.out.sps hle
        subst e0
        rw [hkb] at k4
        have HThere : Hid _ := hthere
        have HSs : Hid (((blocksOf (spots rows)).getD kb Bk.zero).seats.length ≤ m) := by
          show _ ≤ _
          rw [g.seats kb (by have := HMB.out; omega), List.length_map, HM.out]
          exact List.length_filter_le _ _
        have HInfo : Hid _ := And.intro hi1 (And.intro hi2 hi3)
        have HSeat : Hid (((spots rows).getD i Sp.zero).seat = (((spots rows).getD i Sp.zero).num, ((spots rows).getD i Sp.zero).ltr)) := rfl
        have HXi : Hid (((spots rows).getD i Sp.zero).blk = (kb : Int)) := hkb
        clear g hmem hr0 hr1 hi1 hi2 hi3 hthere hkb
        generalize (spots rows).getD i Sp.zero = x at *
        obtain ⟨num, ltr, cab, zone, blk, exit, bld⟩ := x
        simp only at k0 k1 k2 k3 k4 k5 k6
        have hblk : blk = (kb : Int) := HXi.out
        subst hblk
        clear HXi
        have HFx : Hid (∀ Y, ElemsAt rwShape Y ao rows → Calls Tryd.prog 17 #[.agg #[.int .i64 num, .int .u8 ltr], .slice ao rl ca] Y fun e w' => e = .returned (.tuple #[.agg #[.int .i64 num, .int .u8 ltr, .int .i64 cab, .int .i64 zone, .int .i64 (kb : Int), .bool exit, .bool bld], .bool true]) ∧ Below Y.heap.size Y w') := fun Y hY => by
          have := HFd.out (num, ltr) Y hY
          rw [show ((num, ltr) : Int × Int) = Sp.seat ⟨num, ltr, cab, zone, (kb : Int), exit, bld⟩ from rfl, HFnd.out] at this
          exact this
        obtain ⟨Y1, hY1⟩ : ∃ Y1, Y1 = wr.alloc (spObj ⟨num, ltr, cab, zone, (kb : Int), exit, bld⟩) := ⟨_, rfl⟩
        have h1Y : Below wr.heap.size wr Y1 := by rw [hY1]; exact (Below.refl _ _).alloc (Nat.le_refl _) _
        have hgY1 : Y1.heap[wr.heap.size]? = some (spObj ⟨num, ltr, cab, zone, (kb : Int), exit, bld⟩) := by rw [hY1]; exact heap_alloc_new wr _
        have HS1 : Hid _ := HS.out.later h1Y
        have HG1 : Hid _ := hgY1
        unfold spObj at hY1
        have HY1 : Hid _ := hY1
        clear hY1 h1Y hgY1 HFnd
        go_upto_region 10 with fail
        rw [← HY1.out]
        clear HY1 k0 k1 k2 k3 k4 k5 k6 HS
        generalize wr.heap.size = g7 at *
        obtain ⟨b0, b1, b2, b3, b4, b5, b6⟩ := spo_cells HG1.out
        simp only at b0 b1 b2 b3 b4 b5 b6
        go_wp2_with fail
        refine (show Calls _ _ _ _ _ from HFx.out Y1 HS1.out.rws).mono ?_
        rintro e w5 ⟨rfl, hb5⟩
        obtain ⟨Y2, hY2⟩ : ∃ Y2, Y2 = w5.alloc (spObj ⟨num, ltr, cab, zone, (kb : Int), exit, bld⟩) := ⟨_, rfl⟩
        have h2Y : Below w5.heap.size w5 Y2 := by rw [hY2]; exact (Below.refl _ _).alloc (Nat.le_refl _) _
        have HS2 : Hid _ := (HS1.out.later hb5).later h2Y
        have HG2 : Hid (Y2.heap[g7]? = some (spObj ⟨num, ltr, cab, zone, (kb : Int), exit, bld⟩) ∧ Y2.heap[w5.heap.size]? = some (spObj ⟨num, ltr, cab, zone, (kb : Int), exit, bld⟩)) := ⟨(h2Y.block _ (by have := lt_of_block HG1.out; have := hb5.size; omega)).trans ((hb5.block _ (lt_of_block HG1.out)).trans HG1.out), by rw [hY2]; exact heap_alloc_new w5 _⟩
        unfold spObj at hY2
        have HY2 : Hid _ := hY2
        clear hY2 h2Y hb5 HS1 HG1 HFx b0 b1 b2 b3 b4 b5 b6
        go_upto_region 11 with fail
        rw [← HY2.out]
        clear HY2
        generalize w5.heap.size = g8 at *
        obtain ⟨b0, b1, b2, b3, b4, b5, b6⟩ := spo_cells HG2.out.1
        obtain ⟨d0, d1, d2, d3, d4, d5, d6⟩ := spo_cells HG2.out.2
        simp only at b0 b1 b2 b3 b4 b5 b6 d0 d1 d2 d3 d4 d5 d6
        have hnsp := neq_spot ⟨num, ltr, cab, zone, (kb : Int), exit, bld⟩
        simp only at hnsp
        have hlt0 : decide ((kb : Int) < 0) = false := decide_eq_false (by omega)
        have hgeM : decide ((M : Int) ≤ (kb : Int)) = false := decide_eq_false (by omega)
        have hgeM2 : decide (M ≤ kb) = false := decide_eq_false (by omega)
        have HD : Hid (∀ nq, Sees Z (Y2.drewN nq) ao (some ⟨pb, off, none⟩) cS w2.heap.size (.slice aB M cB) rows) := fun nq => HS2.out.drewN
        have HFk : Hid (∀ k, i = k + 1 → Y2.cell? ⟨pb, off + k * 7 + 4, none⟩ = some (.int .i64 ((spots rows).getD k Sp.zero).blk)) := fun k e => by
          obtain ⟨pb', off', e', _, _, _, _, _, h4, _⟩ := spot_cells HS2.out.sps (show k < (spots rows).length by omega)
          cases e'
          exact h4
        have HI : Hid (i = 0 ∨ ∃ k, i = k + 1) := by
          cases i with
          | zero => exact .inl rfl
          | succ k => exact .inr ⟨k, rfl⟩
        go_cut [37, 82] from 37 to 185 (fun vi v wx => vi = .int .i64 i ∧ v = .bool false ∧ ∃ nq, wx = Y2.drewN nq)
        case first =>
          rcases HI.out with hi0 | ⟨k, hik⟩
          · have hgi : decide ((0 : Int) < (i : Int)) = false := decide_eq_false (by omega)
            have hgi2 : decide (0 < i) = false := decide_eq_false (by omega)
            clear hi0 HFk HPrev HI
            go_big_quiet (fail)
            go_wp2
            go_meet
            case rel => exact ⟨rfl, rfl, _, rfl⟩
          · have hgi : decide ((0 : Int) < (i : Int)) = true := decide_eq_true (by omega)
            have hgi2 : decide (0 < i) = true := decide_eq_true (by omega)
            have hw : IntKind.i64.wrap ((i : Int) - 1) = (k : Int) := by rw [show (i : Int) - 1 = (k : Int) by omega]; exact IntWalk.i64_in _ ⟨by omega, by omega⟩
            have hc := HFk.out k hik
            have hp := HPrev.out k hik
            generalize ((spots rows).getD k Sp.zero).blk = pk at *
            have hp' : decide ((kb : Int) < pk) = false := decide_eq_false (by omega)
            have hk2 : (0 : Int) ≤ (k : Int) := by omega
            have hk3 : (k : Int) < (m : Int) := by omega
            clear hik HFk HPrev HI hp
            go_big_quiet (fail)
            go_wp2
            go_meet
            case rel => exact ⟨rfl, rfl, _, rfl⟩
        case rest =>
          obtain ⟨rfl, rfl, nq, rfl⟩ := hcut
          have HS3 : Hid _ := HD.out nq
          have HG3 : Hid ((Y2.drewN nq).heap[g7]? = some (spObj ⟨num, ltr, cab, zone, (kb : Int), exit, bld⟩)) := HG2.out.1
          clear HI HPrev HFk hgeM hgeM2 hlt0 hnsp hgdP d0 d1 d2 d3 d4 d5 d6 b0 b1 b2 b3 b4 b5 b6 HD HG2 HS2
          generalize Y2.drewN nq = Y3 at HS3 HG3 ⊢
          obtain ⟨gB, capB, aSe, cSe, eV, _, k0, k1, k2, k3, hNc, hSe⟩ := BlksAt.read HS3.out.bks (k := kb) (by have := HMB.out; omega)
          have q1 : aB = some ⟨gB, 0, none⟩ := by injection eV
          have q3 : cB = capB := by injection eV
          clear eV
          subst q1
          subst q3
          have HF : Hid (∀ Y, Below Y3.heap.size Y3 Y → Sees Z Y ao (some ⟨pb, off, none⟩) cS w2.heap.size (.slice (some ⟨gB, 0, none⟩) M cB) rows) := fun Y hY => HS3.out.later hY
          have HFg : Hid (∀ Y, Below Y3.heap.size Y3 Y → Y.heap[g7]? = some (spObj ⟨num, ltr, cab, zone, (kb : Int), exit, bld⟩)) := fun Y hY => (hY.block _ (lt_of_block HG3.out)).trans HG3.out
          have HFe : Hid (∀ Y, Below Y3.heap.size Y3 Y → ElemsAt seShape Y aSe ((blocksOf (spots rows)).getD kb Bk.zero).seats) := fun Y hY => hSe.later hY
          have HFb : Hid (∀ Y, Below Y3.heap.size Y3 Y → Y.cell? ⟨gB, kb * 4, none⟩ = some (.int .i64 ((blocksOf (spots rows)).getD kb Bk.zero).cab) ∧ Y.cell? ⟨gB, kb * 4 + 1, none⟩ = some (.int .i64 ((blocksOf (spots rows)).getD kb Bk.zero).row) ∧ Y.cell? ⟨gB, kb * 4 + 2, none⟩ = some (.bool ((blocksOf (spots rows)).getD kb Bk.zero).exit)) := fun Y hY => by
            obtain ⟨g', c', a', s', e', _, f0, f1, f2, _⟩ := BlksAt.read (HF.out Y hY).bks (k := kb) (by have := HMB.out; omega)
            injection e' with e1 _ _
            injection e1 with e2
            injection e2 with e3 _ _
            subst e3
            exact ⟨f0, f1, f2⟩
          clear hSe k0 k1 k2
          generalize (blocksOf (spots rows)).getD kb Bk.zero = blk at *
          obtain ⟨bc, br, be, ss⟩ := blk
          obtain ⟨hbc, hbr, hbe⟩ := HInfo.out
          simp only at hbc hbr hbe k3 hNc
          subst hbc hbr hbe
          obtain ⟨N, hN⟩ : ∃ N, N = ss.length := ⟨_, rfl⟩
          rw [← hN] at k3
          have HN : Hid _ := hN
          simp only at HSs
          have HT : Hid (anySeat (br, ltr) ss N = !bld) := by
            show _ = _
            rw [hN, anySeat_all]
            have := HThere.out
            simp only [Sp.seat] at this
            cases bld
            · simp [this]
            · simpa using this
          have hN36 : N ≤ 36 := by have := HSs.out; omega
          obtain ⟨b0, b1, b2, b3, b4, b5, b6⟩ := spo_cells HG3.out
          simp only at b0 b1 b2 b3 b4 b5 b6
          clear hN hNc HInfo HThere HS3 HG3
          go_wp2
          go_loopw [10, 90] (fun vt vj wr => ∃ j : Nat, vj = .int .i64 j ∧ j ≤ N ∧ vt = .bool (anySeat (br, ltr) ss j) ∧ Hid (Below Y3.heap.size Y3 wr)) (fun _ vj _ => N - (intOf vj).toNat)
          case atStart => exact ⟨0, rfl, by omega, rfl, Below.refl _ _⟩
          case round =>
            clear b0 b1 b2 b3 b4 b5 b6 k3
            obtain ⟨j, rfl, hjN, rfl, HB⟩ := hrel
            by_cases hjl : j < N
            · have hjl' : (j : Int) < (N : Int) := by omega
              have hj0 : (0 : Int) ≤ (j : Int) := by omega
              have hA := anySeat_step (br, ltr) ss j (by have := HN.out; omega)
              obtain ⟨b1', o1, rfl, _, d0, d1⟩ := seat_cells (HFe.out wr HB.out) (k := j) (by have := HN.out; omega)
              have HA : Hid _ := hA
              clear hA
              generalize ss.getD j (0, 0) = p at *
              obtain ⟨p1, p2⟩ := p
              simp only at d0 d1
              obtain ⟨W1, hW1⟩ : ∃ W1, W1 = wr.alloc (seObj p1 p2) := ⟨_, rfl⟩
              have h1W : Below wr.heap.size wr W1 := by rw [hW1]; exact (Below.refl _ _).alloc (Nat.le_refl _) _
              have hgW1 : W1.heap[wr.heap.size]? = some (seObj p1 p2) := by rw [hW1]; exact heap_alloc_new wr _
              have HBW : Hid (Below Y3.heap.size Y3 W1) := HB.out.trans (h1W.mono HB.out.size)
              obtain ⟨f0, f1⟩ := seo_cells hgW1
              obtain ⟨b0, b1, b2, b3, b4, b5, b6⟩ := spo_cells (HFg.out W1 HBW.out)
              simp only at b0 b1 b2 b3 b4 b5 b6
              unfold seObj at hW1
              have HW1 : Hid _ := hW1
              have heq := eql_seat (p1, p2) (br, ltr)
              simp only at heq
              clear hW1 h1W hgW1 HB
              go_upto_region 17 with fail
              rw [← HW1.out]
              clear HW1 d0 d1
              cases hAn : anySeat (br, ltr) ss j with
              | true =>
                go_wp2_with fail
                go_roundw
                case rel =>
                  exact ⟨j + 1, by go_num, by omega, by rw [HA.out, hAn]; simp, HBW.out⟩
                case measure => simp [intOf]; omega
              | false =>
                go_wp2_with fail
                go_roundw
                case rel => exact ⟨j + 1, by go_num, by omega, by rw [HA.out, hAn]; simp, HBW.out⟩
                case measure => simp [intOf]; omega
            · obtain rfl : j = N := by omega
              have hT := HT.out
              have HB4 : Hid (Below Y3.heap.size Y3 wr) := HB.out
              rw [hT]
              clear hT HT hN36 hlt hjN HB HN HFe HSs
              generalize wr = Y4 at *
              go_wp2_with fail
              go_loopw [11, 104] (fun vn vj wr => ∃ (j : Nat) (nn : Int), vj = .int .i64 j ∧ j ≤ m ∧ vn = .int .i64 nn ∧ 0 ≤ nn ∧ nn ≤ nearMost i j ∧ Hid (Below Y3.heap.size Y3 wr)) (fun _ vj _ => m - (intOf vj).toNat)
              case atStart => exact ⟨0, 0, rfl, by omega, rfl, by omega, by unfold nearMost; (repeat' split) <;> omega, HB4⟩
              case round =>
                clear HB4
                obtain ⟨q, nn, rfl, hq, rfl, hn0, hn1, HB⟩ := hrel
                by_cases hqm : q < m
                · have hq0 : (0 : Int) ≤ (q : Int) := by omega
                  have hqm' : (q : Int) < (m : Int) := by omega
                  have hqle : q < (spots rows).length := by have := HM.out; omega
                  obtain ⟨pb', off', e0, _, d0, d1, d2, d3, d4, d5, d6⟩ := spot_cells (HF.out wr HB.out).sps hqle
                  cases e0
                  have hN1 := HNat.out q hqle
                  have hN2 := HNat2.out q hqle
                  have hB1 := HBlk.out q
                  have hNe := HSne.out q hqle
                  have hst := nearMost_step i q
                  have hnr := nearMost_near i q
                  have hn2 := nearMost_two i (q + 1)
                  have HN1 : Hid (nearL (spots rows) (br, ltr) ((spots rows).getD q Sp.zero).seat = nearP (spots rows) i q) := hN1
                  have HN2 : Hid (nearL (spots rows) ((spots rows).getD q Sp.zero).seat (br, ltr) = nearP (spots rows) q i) := hN2
                  have HB1 : Hid _ := hB1
                  have HNe : Hid (i ≠ q → ((spots rows).getD q Sp.zero).seat ≠ (br, ltr)) := fun h e => hNe h e.symm
                  clear hN1 hN2 hB1 hNe
                  generalize (spots rows).getD q Sp.zero = z at *
                  obtain ⟨zn, zl, zc, zz, zb, ze, zd⟩ := z
                  simp only [Sp.seat] at d0 d1 d2 d3 d4 d5 d6 HN1 HN2 HB1 HNe
                  obtain ⟨W1, hW1⟩ : ∃ W1, W1 = wr.alloc (spObj ⟨zn, zl, zc, zz, zb, ze, zd⟩) := ⟨_, rfl⟩
                  have h1W : Below wr.heap.size wr W1 := by rw [hW1]; exact (Below.refl _ _).alloc (Nat.le_refl _) _
                  have hgW1 : W1.heap[wr.heap.size]? = some (spObj ⟨zn, zl, zc, zz, zb, ze, zd⟩) := by rw [hW1]; exact heap_alloc_new wr _
                  have HBW : Hid (Below Y3.heap.size Y3 W1) := HB.out.trans (h1W.mono HB.out.size)
                  have HgW : Hid _ := hgW1
                  unfold spObj at hW1
                  have HW1 : Hid _ := hW1
                  clear hW1 h1W hgW1 HB
                  go_upto_region 22 with fail
                  rw [← HW1.out]
                  clear HW1 d0 d1 d2 d3 d4 d5 d6
                  generalize wr.heap.size = g15 at *
                  obtain ⟨d0, d1, d2, d3, d4, d5, d6⟩ := spo_cells HgW.out
                  obtain ⟨b0, b1, b2, b3, b4, b5, b6⟩ := spo_cells (HFg.out W1 HBW.out)
                  simp only at b0 b1 b2 b3 b4 b5 b6 d0 d1 d2 d3 d4 d5 d6
                  have HC1 : Hid (Calls Tryd.prog 19 #[.agg #[.int .i64 br, .int .u8 ltr], .agg #[.int .i64 zn, .int .u8 zl], .slice ao rl ca] W1 fun e w' => e = .returned (.bool (nearP (spots rows) i q)) ∧ Below W1.heap.size W1 w') := by
                    have := HNr.out (br, ltr) (zn, zl) W1 (HF.out W1 HBW.out).rws
                    rw [HN1.out] at this
                    exact this
                  go_wp2_with fail
                  refine (show Calls _ _ _ _ _ from HC1.out).mono ?_
                  rintro e w7 ⟨rfl, hb7⟩
                  have HB7 : Hid (Below Y3.heap.size Y3 w7) := HBW.out.trans (hb7.mono HBW.out.size)
                  have HgW7 : Hid _ := (hb7.block _ (lt_of_block HgW.out)).trans HgW.out
                  clear hb7 HC1 b0 b1 b2 b3 b4 b5 b6 d0 d1 d2 d3 d4 d5 d6 HgW HBW
                  cases hnp : nearP (spots rows) i q with
                  | false =>
                    go_wp2_with fail
                    go_roundw
                    case rel => exact ⟨q + 1, nn, by go_num, by omega, rfl, hn0, by omega, HB7⟩
                    case measure => simp [intOf]; omega
                  | true =>
                    obtain ⟨z1, z2, z3⟩ := HB1.out hnp
                    subst z1
                    obtain ⟨d0, d1, d2, d3, d4, d5, d6⟩ := spo_cells HgW7.out
                    obtain ⟨b0, b1, b2, b3, b4, b5, b6⟩ := spo_cells (HFg.out w7 HB7.out)
                    simp only at b0 b1 b2 b3 b4 b5 b6 d0 d1 d2 d3 d4 d5 d6
                    have HC2 : Hid (Calls Tryd.prog 19 #[.agg #[.int .i64 zn, .int .u8 zl], .agg #[.int .i64 br, .int .u8 ltr], .slice ao rl ca] w7 fun e w' => e = .returned (.bool true) ∧ Below w7.heap.size w7 w') := by
                      have := HNr.out (zn, zl) (br, ltr) w7 (HF.out w7 HB7.out).rws
                      rw [HN2.out, z3] at this
                      exact this
                    have hni : nn + 1 ≤ nearMost i (q + 1) := by have := hnr z2; omega
                    have HNI : Hid _ := hni
                    have hnn : 0 ≤ nn + 1 ∧ nn + 1 ≤ 2 := by omega
                    have heq := eql_seat (zn, zl) (br, ltr)
                    have hde : decide ((zn, zl) = (br, ltr)) = false := decide_eq_false (HNe.out (by omega))
                    rw [hde] at heq
                    simp only at heq
                    clear z2 z3 hni hde HNe HB1 HN1 HN2 hnp
                    go_wp2_with fail
                    refine (show Calls _ _ _ _ _ from HC2.out).mono ?_
                    rintro e w8 ⟨rfl, hb8⟩
                    have HB8 : Hid (Below Y3.heap.size Y3 w8) := HB7.out.trans (hb8.mono HB7.out.size)
                    clear b0 b1 b2 b3 b4 b5 b6 d0 d1 d2 d3 d4 d5 d6 HC2
                    obtain ⟨d0, d1, d2, d3, d4, d5, d6⟩ := spo_cells ((hb8.block _ (lt_of_block HgW7.out)).trans HgW7.out)
                    obtain ⟨b0, b1, b2, b3, b4, b5, b6⟩ := spo_cells (HFg.out w8 HB8.out)
                    simp only at b0 b1 b2 b3 b4 b5 b6 d0 d1 d2 d3 d4 d5 d6
                    clear hb8
                    go_wp2_with fail
                    go_roundw
                    case rel => exact ⟨q + 1, nn + 1, by go_num, by omega, by go_num, by omega, HNI.out, HB8⟩
                    case measure => simp [intOf]; omega
                · have hqe : m = q := by omega
                  subst hqe
                  have HB5 : Hid (Below Y3.heap.size Y3 wr) := HB.out
                  have hn2 := nearMost_two i m
                  have ht2 : decide (2 < nn) = false := decide_eq_false (by omega)
                  have hbb : ((!bld) == bld) = false := by cases bld <;> rfl
                  clear HB hn2 hn0 hn1 HNat HNat2 HBlk HSne HNr HFd
                  generalize wr = Y5 at *
                  obtain ⟨b0, b1, b2, b3, b4, b5, b6⟩ := spo_cells (HFg.out Y5 HB5.out)
                  obtain ⟨k0, k1, k2⟩ := HFb.out Y5 HB5.out
                  simp only at b0 b1 b2 b3 b4 b5 b6 k0 k1 k2
                  have HS5 : Hid (∀ n, Sees Z (Y5.drewN n) ao (some ⟨pb, off, none⟩) cS w2.heap.size (.slice (some ⟨gB, 0, none⟩) M cB) rows) := fun n => (HF.out Y5 HB5.out).drewN
                  clear HF HFg HFb
                  go_upto_region 27 with fail
                  go_big_quiet (fail)
                  have HS6 : Hid (Sees Z (Y5.drewN nq) ao (some ⟨pb, off, none⟩) cS w2.heap.size (.slice (some ⟨gB, 0, none⟩) M cB) rows) := HS5.out nq
                  have hfl := free_le (spots rows) i
                  have HFl : Hid _ := HFree.out
                  clear HFree
                  cases bld with
                  | true =>
                    go_wp2
                    go_roundw
                    case rel => exact ⟨i + 1, by go_num, by omega, by rw [HFl.out]; rfl, HS6⟩
                    case measure => simp [intOf]; omega
                  | false =>
                    go_wp2
                    go_roundw
                    case rel => exact ⟨i + 1, by go_num, by omega, by rw [HFl.out]; rfl, HS6⟩
                    case measure => simp [intOf]; omega
      · have hie : m = i := by omega
        subst hie
        have HSm : Hid _ := HS.out
        have hr0 := rest_all rows
        rw [← HM.out] at hr0
        rw [← hr0]
        have hrl : rest (blocksOf (spots rows)) 0 ≤ 36 := by rw [hr0]; have := free_le (spots rows) m; omega
        have HRL0 : Hid _ := hrl
        clear HS hr0 hlt him hrl HFd HNr hgdS hgdP
        generalize wr = Y6 at *
        go_wp2_with fail
        go_loopw [5, 188] (fun vn vk wr => ∃ k : Nat, vk = .int .i64 k ∧ k ≤ M ∧ vn = .int .i64 (rest (blocksOf (spots rows)) k) ∧ rest (blocksOf (spots rows)) k ≤ 36 ∧ Hid (Below Y6.heap.size Y6 wr)) (fun _ vk _ => M - (intOf vk).toNat)
        case atStart => exact ⟨0, rfl, by omega, rfl, HRL0.out, Below.refl _ _⟩
        case round =>
          clear HRL0
          obtain ⟨k, rfl, hk, rfl, hr36, HB⟩ := hrel
          by_cases hlt : k < M
          · have hk0 : (0 : Int) ≤ (k : Int) := by omega
            have hM36 : M ≤ 36 := by have := blocks_le rows; have := HMB.out; omega
            have hkM : (k : Int) < (M : Int) := by omega
            have hrs := rest_step (blocksOf (spots rows)) k (by have := HMB.out; omega)
            obtain ⟨gB, capB, aSe, cSe, eV, _, k0, k1, k2, k3, _, _⟩ := BlksAt.read (HSm.out.later HB.out).bks (k := k) (by have := HMB.out; omega)
            have q1 : aB = some ⟨gB, 0, none⟩ := by injection eV
            clear eV
            subst q1
            generalize (blocksOf (spots rows)).getD k Bk.zero = blk at *
            obtain ⟨bc, br, be, ss⟩ := blk
            simp only at k0 k1 k2 k3 hrs
            generalize ss.length = N at *
            have HRS : Hid _ := hrs
            have hw : IntKind.i64.wrap ((rest (blocksOf (spots rows)) k : Int) - (N : Int)) = (rest (blocksOf (spots rows)) (k + 1) : Int) := by rw [show (rest (blocksOf (spots rows)) k : Int) - (N : Int) = (rest (blocksOf (spots rows)) (k + 1) : Int) by omega]; exact IntWalk.i64_in _ ⟨by omega, by omega⟩
            have hr36' : rest (blocksOf (spots rows)) (k + 1) ≤ 36 := by omega
            obtain ⟨W1, hW1⟩ : ∃ W1, W1 = wr.alloc (.cells #[.int .i64 bc, .int .i64 br, .bool be, .slice aSe N cSe] 43) := ⟨_, rfl⟩
            have h1W : Below wr.heap.size wr W1 := by rw [hW1]; exact (Below.refl _ _).alloc (Nat.le_refl _) _
            have hgW1 : W1.heap[wr.heap.size]? = some (.cells #[.int .i64 bc, .int .i64 br, .bool be, .slice aSe N cSe] 43 (0, 0)) := by rw [hW1]; exact heap_alloc_new wr _
            have HBW : Hid (Below Y6.heap.size Y6 W1) := HB.out.trans (h1W.mono HB.out.size)
            have f3 : W1.cell? ⟨wr.heap.size, 3, none⟩ = some (.slice aSe N cSe) := by rw [Joins.cell_of_block hgW1]; rfl
            have HW1 : Hid _ := hW1
            have HR36 : Hid _ := hr36'
            clear hW1 h1W hgW1 HB hrs hr36'
            go_upto_region 35 with fail
            rw [← HW1.out]
            clear HW1 k0 k1 k2 k3
            go_wp2_with fail
            go_roundw
            case rel => exact ⟨k + 1, by go_num, by omega, rfl, HR36.out, HBW⟩
            case measure => simp [intOf]; omega
          · have hke : M = k := by omega
            subst hke
            have hz : rest (blocksOf (spots rows)) M = 0 := by rw [HMB.out]; exact rest_end _
            rw [hz]
            have HE : Hid (Below w.heap.size w wr) := HBZ.out.trans (HSm.out.bel.trans (HB.out.mono HSm.out.bel.size) |>.mono HBZ.out.size)
            clear hz hr36 HB HSm
            go_wp2_with fail
            go_ret
            exact ⟨rfl, HE.out⟩
end Go.Proofs.YtbnmjmapmbdioaaDoor.Cb
