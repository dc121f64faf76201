/-
  The statement OrderRanges, walked: whatever three lists of parts lie in memory, it answers true.
-/
import Derived.Test.YtceghgbkiafklaaDoorOrderRisesWalk
import Derived.Test.YtceghgbkiafklaaDoorOrderEndsWalk
namespace Go.Proofs.YtceghgbkiafklaaDoor.Od
open Go.RowKit
open Go.Lib (compareBytes)
open Go.Proofs.YtceghgbkiafklaaDoor.Cm
attribute [local go_sem ↓] Go.wp_at_zero Go.wp_at_succ
set_option linter.unusedVariables false
set_option linter.unusedSimpArgs false

theorem own_empty3 (w : World) (base : Nat) (h : base ≤ w.heap.size) : (w.alloc (.cells #[] 25)).ownsRow base 25 3 (.slice (some ⟨w.heap.size, 0, none⟩) 0 0) 0 (partVals []) :=
  ⟨by simp [partVals], .inr ⟨w.heap.size, 0, #[], rfl, h, heap_alloc_new w _, by simp, by simp, by simp, by simp [partVals]⟩⟩
theorem rights_append {a b : List Pt} (h : rights (a ++ b)) : rights a := fun p hp => h p (List.mem_append_left _ hp)
theorem oks_append {a b : List Pt} (ha : oks a) (hb : oks b) : oks (a ++ b) := fun p hp => (List.mem_append.1 hp).elim (ha p) (hb p)
theorem room_append {a b : List Pt} (h : 4 * a.length + tot a + (4 * b.length + tot b) ≤ 1048576) : room (a ++ b) := by
  unfold room
  rw [tot_append, List.length_append]
  omega
theorem take_begins {a b : List Pt} [Decidable (a <+: b)] (h : a.length ≤ b.length) : (cL (b.take a.length) a == 0) = decide (a <+: b) := by
  by_cases hp : a <+: b
  · rw [decide_eq_true hp, ← List.prefix_iff_eq_take.1 hp, cL_zero.2 rfl]; rfl
  · rw [decide_eq_false hp]
    exact beq_eq_false_iff_ne.2 fun e => hp (List.prefix_iff_eq_take.2 (cL_zero.1 e).symm)

set_option maxRecDepth 100000 in
set_option maxHeartbeats 500000 in
theorem ranges_walk (ao bo co : Option Addr) (ca cb cc : Nat) (ps qs rs : List Pt) (w : World) (hp : PartsAt w ao ps) (hq : PartsAt w bo qs) (hr : PartsAt w co rs) (op : oks ps) (oq : oks qs) (or : oks rs)
    (na : ao = none → ca = 0) (nb : bo = none → cb = 0) (lc : rs.length ≤ cc) (hm : MaxOk w) (hbd : 4 * ps.length + tot ps + (4 * qs.length + tot qs) ≤ 1048576) (hbr : 4 * rs.length + tot rs ≤ 1048576) :
    Calls Tryd.prog 8 #[.slice ao ps.length ca, .slice bo qs.length cb, .slice co rs.length cc] w fun e w' => e = .returned (.bool true) ∧ Below w.heap.size w w' := by
  have iD : Decidable (ps <+: rs) := Classical.propDecidable _
  obtain ⟨i0, hi0, hz0, hz1, hz2⟩ := info_parts infoPart
  have hlp : ps.length ≤ 1048576 := by omega
  have hlq : qs.length ≤ 1048576 := by omega
  have hlr : rs.length ≤ 1048576 := by omega
  obtain ⟨k1, hk1⟩ : ∃ k, k = keyAns ps := ⟨_, rfl⟩
  obtain ⟨k2, hk2⟩ : ∃ k, k = keyAns (ps ++ qs) := ⟨_, rfl⟩
  obtain ⟨k3, hk3⟩ : ∃ k, k = keyAns rs := ⟨_, rfl⟩
  have HK1 : Hid (∀ w', Below w.heap.size w w' → Calls Tryd.prog 10 #[.slice ao ps.length ca] w' fun e w2 => e = .returned k1 ∧ Below w'.heap.size w' w2) := fun w' hb => by
    rw [hk1]; exact Key_any ao ca ps w' (hp.below hb) op (hm.below hb) (room_of (by omega))
  have HK2 : Hid (∀ w' a c, Below w.heap.size w w' → PartsAt w' a (ps ++ qs) → Calls Tryd.prog 10 #[.slice a (ps.length + qs.length) c] w' fun e w2 => e = .returned k2 ∧ Below w'.heap.size w' w2) := fun w' a c hb hpp => by
    rw [hk2, ← List.length_append]; exact Key_any a c (ps ++ qs) w' hpp (oks_append op oq) (hm.below hb) (room_append hbd)
  have HK3 : Hid (∀ w', Below w.heap.size w w' → Calls Tryd.prog 10 #[.slice co rs.length cc] w' fun e w2 => e = .returned k3 ∧ Below w'.heap.size w' w2) := fun w' hb => by
    rw [hk3]; exact Key_any co cc rs w' (hr.below hb) or (hm.below hb) (room_of (by omega))
  have HLX : Hid ((keyS ps).size ≤ 140737488355328) := by
    show _ ≤ _
    rw [keyS_size]
    have := keyOf_length ps
    omega
  clear hbd hbr
  have hshape : ∀ l : List Pt, ∃ t u, keyAns l = .tuple #[.string t, .int .i64 u] := fun l => by
    by_cases h : rights l
    · exact ⟨_, _, keyAns_right h⟩
    · exact ⟨_, _, keyAns_wrong h⟩
  by_cases hr1 : rights ps
  · rw [keyAns_right hr1] at hk1
    by_cases hr2 : rights (ps ++ qs)
    · rw [keyAns_right hr2] at hk2
      by_cases hr3 : rights rs
      · rw [keyAns_right hr3] at hk3
        obtain ⟨X, hX⟩ : ∃ X, X = keyS ps := ⟨_, rfl⟩
        obtain ⟨Y, hY⟩ : ∃ Y, Y = keyS (ps ++ qs) := ⟨_, rfl⟩
        obtain ⟨Z, hZ⟩ : ∃ Z, Z = keyS rs := ⟨_, rfl⟩
        replace hk1 : k1 = .tuple #[.string X, .int .i64 0] := by rw [hk1, hX]; rfl
        replace hk2 : k2 = .tuple #[.string Y, .int .i64 0] := by rw [hk2, hY]; rfl
        replace hk3 : k3 = .tuple #[.string Z, .int .i64 0] := by rw [hk3, hZ]; rfl
        obtain ⟨E, hE⟩ : ∃ E : ByteArray, E = ⟨(endOf X.data.toList).toArray⟩ := ⟨_, rfl⟩
        have HEnd : Hid (∀ w, Calls Tryd.prog 17 #[.string X] w fun e w' => e = .returned (.string E) ∧ Below w.heap.size w w') := fun w => by
          rw [hE]; exact End_any X w (by rw [hX]; exact HLX.out)
        have b1 := begins_bool X Y
        have b2 := begins_bool X Z
        have hXY : X.data.toList <+: Y.data.toList := by
          rw [hX, hY, keyS_list, keyS_list, keyOf_append]; exact ⟨_, rfl⟩
        have hXZ : decide (X.data.toList <+: Z.data.toList) = decide (ps <+: rs) := by
          have := key_begins hr1 hr3 op or
          rw [hX, hZ, keyS_list, keyS_list]
          exact decide_eq_decide.2 this
        rw [decide_eq_true hXY, ← hE] at b1
        rw [hXZ, ← hE] at b2
        obtain ⟨B, hB⟩ : ∃ B, B = decide (ps <+: rs) := ⟨_, rfl⟩
        rw [← hB] at b2
        obtain ⟨g, hg⟩ : ∃ g, Op.bytesLess Z.toList X.toList = g := ⟨_, rfl⟩
        obtain ⟨m, hm'⟩ : ∃ m, E.toList.isEmpty = m := ⟨_, rfl⟩
        obtain ⟨l, hl⟩ : ∃ l, Op.bytesLess Z.toList E.toList = l := ⟨_, rfl⟩
        obtain ⟨g1, hg1⟩ : ∃ g, Op.bytesLess Y.toList X.toList = g := ⟨_, rfl⟩
        obtain ⟨l1, hl1⟩ : ∃ l, Op.bytesLess Y.toList E.toList = l := ⟨_, rfl⟩
        rw [hg, hm', hl] at b2
        rw [hg1, hm', hl1] at b1
        obtain rfl : g1 = false := by
          cases g1 with
          | false => rfl
          | true => exact absurd b1 (by cases m <;> cases l1 <;> decide)
        subst hk1 hk2 hk3
        clear hX hY hZ hE hXY hXZ hshape
        have HM : Hid (m = false → l1 = true) := fun h => by subst h; simpa using b1.symm
        have HB2' : Hid (B = (!g && (m || l))) := b2
        clear b1 b2 hr1 hr2 hr3
        have hC : ∀ w' : World, Below w.heap.size w w' → ps.length ≤ rs.length → Calls Tryd.prog 15 #[.slice co ps.length cc, .slice ao ps.length ca] w' fun e w2 => e = .returned (.int .i64 (cL (rs.take ps.length) ps)) ∧ Below w'.heap.size w' w2 := fun w' hb h => by
          have := Compare_any co ao cc ca (rs.take ps.length) ps w' ((hr.below hb).take _) (hp.below hb) (by simp; omega) (by omega)
          rwa [List.length_take, Nat.min_eq_left h] at this
        have HC : Hid _ := hC
        clear hC
        go_enter Tryd.func8, Tryd.ntmps8
        go_wp2_with fail
        refine (lives_any _ hm).mono ?_
        rintro e w1 ⟨rfl, hb1⟩
        have HB1 : Hid (Below w.heap.size w w1) := hb1
        have hs1 := hb1.size
        clear hb1
        go_wp2_with fail
        refine Calls.mono (HK1.out w1 HB1.out) ?_
        rintro e w2 ⟨rfl, hb2⟩
        have HB2 : Hid (Below w.heap.size w w2) := HB1.out.trans (hb2.mono hs1)
        have hs2 := HB2.out.size
        have hp2 := (hp.below HB2.out).below ((Below.refl _ w2).alloc (Nat.le_refl _) (.cells #[] 25))
        clear hb2
        go_wp2_with (at_builtin; refine wpList_append_parts _ rfl _ _ 22 rfl w.heap.size 25 i0 _ Tryd.underlying22 hi0 hz0 hz1 hz2 rfl _ 0 [] rfl (own_empty3 w2 _ hs2) ao ps.length ca ps rfl na rfl hp2 ?c1 ?c2 ?_)
        case c1 => omega
        case c2 => simp; omega
        intro v3 w3 hown3 hgrow3 hat3
        have HB3 : Hid (Below w.heap.size w w3) := (HB2.out.alloc hs2 _).grown hgrow3 (by simp; omega) (fun k hk => ((own_empty3 w2 _ hs2).lt k hk).1)
        have hs3 := HB3.out.size
        have hq3 := hq.below HB3.out
        clear hgrow3 hat3 hp2
        go_wp2_with (at_builtin; refine wpList_append_parts _ rfl _ _ 22 rfl w.heap.size 25 i0 _ Tryd.underlying22 hi0 hz0 hz1 hz2 rfl v3 ps.length ps rfl hown3 bo qs.length cb qs rfl nb rfl hq3 ?d1 ?d2 ?_)
        case d1 => omega
        case d2 => omega
        intro v4 w4 hown4 hgrow4 hat4
        have HB4 : Hid (Below w.heap.size w w4) := HB3.out.grown hgrow4 hs3 (fun k hk => (hown3.lt k hk).1)
        have hs4 := HB4.out.size
        rw [← List.length_append] at hown4
        obtain ⟨ao4, ca4, rfl, na4, _, la4, hp4⟩ := own_parts hown4
        have HP4 : Hid (PartsAt w4 ao4 (ps ++ qs)) := hp4
        clear hgrow4 hat4 hown3 hown4 hq3 hp4 na4 la4
        go_wp2_with fail
        refine Calls.mono (HK2.out w4 ao4 ca4 HB4.out HP4.out) ?_
        rintro e w5 ⟨rfl, hb5⟩
        have HB5 : Hid (Below w.heap.size w w5) := HB4.out.trans (hb5.mono hs4)
        have hs5 := HB5.out.size
        clear hb5 HP4
        go_wp2_with fail
        refine Calls.mono (HK3.out w5 HB5.out) ?_
        rintro e w6 ⟨rfl, hb6⟩
        have HB6 : Hid (Below w.heap.size w w6) := HB5.out.trans (hb6.mono hs5)
        have hs6 := HB6.out.size
        clear hb6
        obtain ⟨c, hc⟩ : ∃ c, c = cL (rs.take ps.length) ps := ⟨_, rfl⟩
        rw [← hc] at HC
        have HCE : Hid (ps.length ≤ rs.length → (c == 0) = B) := fun h => by rw [hc, take_begins h, hB]
        have HBS : Hid (¬ ps.length ≤ rs.length → B = false) := fun h => by
          rw [hB]
          exact decide_eq_false fun hh => h hh.length_le
        clear hc hB
        go_wp2_with fail
        refine Calls.mono (HEnd.out _) ?_
        rintro e w7 ⟨rfl, hb7⟩
        have HB7 : Hid (Below w.heap.size w w7) := HB6.out.trans (hb7.mono hs6)
        have hs7 := HB7.out.size
        clear hb7
        by_cases hle : ps.length ≤ rs.length
        · have hlen : decide ((ps.length : Int) ≤ (rs.length : Int)) = true := decide_eq_true (by omega)
          have hcut := cut_parts co rs.length cc ps.length (by omega)
          have hcz := HCE.out hle
          have HBv := HB2'.out
          subst HBv
          clear HCE HBS HB2'
          cases m with
          | true =>
            cases g <;> simp only [Bool.not_true, Bool.not_false, Bool.true_and, Bool.false_and, Bool.or_true, Bool.or_false, Bool.true_or, Bool.false_or] at hcz
            all_goals
              go_wp2_with fail
              refine Calls.mono (HC.out w7 HB7.out hle) ?_
              rintro e w8 ⟨rfl, hb8⟩
              go_wp2
              go_ret
              exact ⟨rfl, HB7.out.trans (hb8.mono hs7)⟩
          | false =>
            obtain rfl := HM.out rfl
            cases g <;> cases l <;> simp only [Bool.not_true, Bool.not_false, Bool.true_and, Bool.false_and, Bool.or_true, Bool.or_false, Bool.true_or, Bool.false_or] at hcz
            all_goals
              go_wp2_with fail
              refine Calls.mono (HC.out w7 HB7.out hle) ?_
              rintro e w8 ⟨rfl, hb8⟩
              go_wp2
              go_ret
              exact ⟨rfl, HB7.out.trans (hb8.mono hs7)⟩
        · have hlen : decide ((ps.length : Int) ≤ (rs.length : Int)) = false := decide_eq_false (by omega)
          have HBv := HBS.out hle
          subst HBv
          have HX := HB2'.out
          clear HCE HBS HB2'
          cases m with
          | true =>
            cases g with
            | true =>
              clear HX
              go_wp2
              go_ret
              exact ⟨rfl, HB7.out⟩
            | false => exact absurd HX (by cases l <;> decide)
          | false =>
            obtain rfl := HM.out rfl
            cases g <;> cases l <;> first | (exact absurd HX (by decide)) | skip
            all_goals
              clear HX
              go_wp2
              go_ret
              exact ⟨rfl, HB7.out⟩
      · rw [keyAns_wrong hr3] at hk3
        subst hk1 hk2 hk3
        go_enter Tryd.func8, Tryd.ntmps8
        go_wp2_with fail
        refine (lives_any _ hm).mono ?_
        rintro e w1 ⟨rfl, hb1⟩
        have HB1 : Hid (Below w.heap.size w w1) := hb1
        have hs1 := hb1.size
        clear hb1
        go_wp2_with fail
        refine Calls.mono (HK1.out w1 HB1.out) ?_
        rintro e w2 ⟨rfl, hb2⟩
        have HB2 : Hid (Below w.heap.size w w2) := HB1.out.trans (hb2.mono hs1)
        have hs2 := HB2.out.size
        have hp2 := (hp.below HB2.out).below ((Below.refl _ w2).alloc (Nat.le_refl _) (.cells #[] 25))
        clear hb2
        go_wp2_with (at_builtin; refine wpList_append_parts _ rfl _ _ 22 rfl w.heap.size 25 i0 _ Tryd.underlying22 hi0 hz0 hz1 hz2 rfl _ 0 [] rfl (own_empty3 w2 _ hs2) ao ps.length ca ps rfl na rfl hp2 ?c1 ?c2 ?_)
        case c1 => omega
        case c2 => simp; omega
        intro v3 w3 hown3 hgrow3 hat3
        have HB3 : Hid (Below w.heap.size w w3) := (HB2.out.alloc hs2 _).grown hgrow3 (by simp; omega) (fun k hk => ((own_empty3 w2 _ hs2).lt k hk).1)
        have hs3 := HB3.out.size
        have hq3 := hq.below HB3.out
        clear hgrow3 hat3 hp2
        go_wp2_with (at_builtin; refine wpList_append_parts _ rfl _ _ 22 rfl w.heap.size 25 i0 _ Tryd.underlying22 hi0 hz0 hz1 hz2 rfl v3 ps.length ps rfl hown3 bo qs.length cb qs rfl nb rfl hq3 ?d1 ?d2 ?_)
        case d1 => omega
        case d2 => omega
        intro v4 w4 hown4 hgrow4 hat4
        have HB4 : Hid (Below w.heap.size w w4) := HB3.out.grown hgrow4 hs3 (fun k hk => (hown3.lt k hk).1)
        have hs4 := HB4.out.size
        rw [← List.length_append] at hown4
        obtain ⟨ao4, ca4, rfl, na4, _, la4, hp4⟩ := own_parts hown4
        have HP4 : Hid (PartsAt w4 ao4 (ps ++ qs)) := hp4
        clear hgrow4 hat4 hown3 hown4 hq3 hp4 na4 la4
        go_wp2_with fail
        refine Calls.mono (HK2.out w4 ao4 ca4 HB4.out HP4.out) ?_
        rintro e w5 ⟨rfl, hb5⟩
        have HB5 : Hid (Below w.heap.size w w5) := HB4.out.trans (hb5.mono hs4)
        have hs5 := HB5.out.size
        clear hb5 HP4
        go_wp2_with fail
        refine Calls.mono (HK3.out w5 HB5.out) ?_
        rintro e w6 ⟨rfl, hb6⟩
        have HB6 : Hid (Below w.heap.size w w6) := HB5.out.trans (hb6.mono hs5)
        have hs6 := HB6.out.size
        clear hb6
        go_wp2
        go_ret
        exact ⟨rfl, HB6.out⟩
    · rw [keyAns_wrong hr2] at hk2
      obtain ⟨t3, u3, e3⟩ := hshape rs
      rw [e3] at hk3
      subst hk1 hk2 hk3
      clear hshape e3
      go_enter Tryd.func8, Tryd.ntmps8
      go_wp2_with fail
      refine (lives_any _ hm).mono ?_
      rintro e w1 ⟨rfl, hb1⟩
      have HB1 : Hid (Below w.heap.size w w1) := hb1
      have hs1 := hb1.size
      clear hb1
      go_wp2_with fail
      refine Calls.mono (HK1.out w1 HB1.out) ?_
      rintro e w2 ⟨rfl, hb2⟩
      have HB2 : Hid (Below w.heap.size w w2) := HB1.out.trans (hb2.mono hs1)
      have hs2 := HB2.out.size
      have hp2 := (hp.below HB2.out).below ((Below.refl _ w2).alloc (Nat.le_refl _) (.cells #[] 25))
      clear hb2
      go_wp2_with (at_builtin; refine wpList_append_parts _ rfl _ _ 22 rfl w.heap.size 25 i0 _ Tryd.underlying22 hi0 hz0 hz1 hz2 rfl _ 0 [] rfl (own_empty3 w2 _ hs2) ao ps.length ca ps rfl na rfl hp2 ?c1 ?c2 ?_)
      case c1 => omega
      case c2 => simp; omega
      intro v3 w3 hown3 hgrow3 hat3
      have HB3 : Hid (Below w.heap.size w w3) := (HB2.out.alloc hs2 _).grown hgrow3 (by simp; omega) (fun k hk => ((own_empty3 w2 _ hs2).lt k hk).1)
      have hs3 := HB3.out.size
      have hq3 := hq.below HB3.out
      clear hgrow3 hat3 hp2
      go_wp2_with (at_builtin; refine wpList_append_parts _ rfl _ _ 22 rfl w.heap.size 25 i0 _ Tryd.underlying22 hi0 hz0 hz1 hz2 rfl v3 ps.length ps rfl hown3 bo qs.length cb qs rfl nb rfl hq3 ?d1 ?d2 ?_)
      case d1 => omega
      case d2 => omega
      intro v4 w4 hown4 hgrow4 hat4
      have HB4 : Hid (Below w.heap.size w w4) := HB3.out.grown hgrow4 hs3 (fun k hk => (hown3.lt k hk).1)
      have hs4 := HB4.out.size
      rw [← List.length_append] at hown4
      obtain ⟨ao4, ca4, rfl, na4, _, la4, hp4⟩ := own_parts hown4
      have HP4 : Hid (PartsAt w4 ao4 (ps ++ qs)) := hp4
      clear hgrow4 hat4 hown3 hown4 hq3 hp4 na4 la4
      go_wp2_with fail
      refine Calls.mono (HK2.out w4 ao4 ca4 HB4.out HP4.out) ?_
      rintro e w5 ⟨rfl, hb5⟩
      have HB5 : Hid (Below w.heap.size w w5) := HB4.out.trans (hb5.mono hs4)
      have hs5 := HB5.out.size
      clear hb5 HP4
      go_wp2_with fail
      refine Calls.mono (HK3.out w5 HB5.out) ?_
      rintro e w6 ⟨rfl, hb6⟩
      have HB6 : Hid (Below w.heap.size w w6) := HB5.out.trans (hb6.mono hs5)
      have hs6 := HB6.out.size
      clear hb6
      go_wp2
      go_ret
      exact ⟨rfl, HB6.out⟩
  · rw [keyAns_wrong hr1] at hk1
    obtain ⟨t2, u2, e2⟩ := hshape (ps ++ qs)
    obtain ⟨t3, u3, e3⟩ := hshape rs
    rw [e2] at hk2
    rw [e3] at hk3
    subst hk1 hk2 hk3
    clear hshape e2 e3
    go_enter Tryd.func8, Tryd.ntmps8
    go_wp2_with fail
    refine (lives_any _ hm).mono ?_
    rintro e w1 ⟨rfl, hb1⟩
    have HB1 : Hid (Below w.heap.size w w1) := hb1
    have hs1 := hb1.size
    clear hb1
    go_wp2_with fail
    refine Calls.mono (HK1.out w1 HB1.out) ?_
    rintro e w2 ⟨rfl, hb2⟩
    have HB2 : Hid (Below w.heap.size w w2) := HB1.out.trans (hb2.mono hs1)
    have hs2 := HB2.out.size
    have hp2 := (hp.below HB2.out).below ((Below.refl _ w2).alloc (Nat.le_refl _) (.cells #[] 25))
    clear hb2
    go_wp2_with (at_builtin; refine wpList_append_parts _ rfl _ _ 22 rfl w.heap.size 25 i0 _ Tryd.underlying22 hi0 hz0 hz1 hz2 rfl _ 0 [] rfl (own_empty3 w2 _ hs2) ao ps.length ca ps rfl na rfl hp2 ?c1 ?c2 ?_)
    case c1 => omega
    case c2 => simp; omega
    intro v3 w3 hown3 hgrow3 hat3
    have HB3 : Hid (Below w.heap.size w w3) := (HB2.out.alloc hs2 _).grown hgrow3 (by simp; omega) (fun k hk => ((own_empty3 w2 _ hs2).lt k hk).1)
    have hs3 := HB3.out.size
    have hq3 := hq.below HB3.out
    clear hgrow3 hat3 hp2
    go_wp2_with (at_builtin; refine wpList_append_parts _ rfl _ _ 22 rfl w.heap.size 25 i0 _ Tryd.underlying22 hi0 hz0 hz1 hz2 rfl v3 ps.length ps rfl hown3 bo qs.length cb qs rfl nb rfl hq3 ?d1 ?d2 ?_)
    case d1 => omega
    case d2 => omega
    intro v4 w4 hown4 hgrow4 hat4
    have HB4 : Hid (Below w.heap.size w w4) := HB3.out.grown hgrow4 hs3 (fun k hk => (hown3.lt k hk).1)
    have hs4 := HB4.out.size
    rw [← List.length_append] at hown4
    obtain ⟨ao4, ca4, rfl, na4, _, la4, hp4⟩ := own_parts hown4
    have HP4 : Hid (PartsAt w4 ao4 (ps ++ qs)) := hp4
    clear hgrow4 hat4 hown3 hown4 hq3 hp4 na4 la4
    go_wp2_with fail
    refine Calls.mono (HK2.out w4 ao4 ca4 HB4.out HP4.out) ?_
    rintro e w5 ⟨rfl, hb5⟩
    have HB5 : Hid (Below w.heap.size w w5) := HB4.out.trans (hb5.mono hs4)
    have hs5 := HB5.out.size
    clear hb5 HP4
    go_wp2_with fail
    refine Calls.mono (HK3.out w5 HB5.out) ?_
    rintro e w6 ⟨rfl, hb6⟩
    have HB6 : Hid (Below w.heap.size w w6) := HB5.out.trans (hb6.mono hs5)
    have hs6 := HB6.out.size
    clear hb6
    go_wp2
    go_ret
    exact ⟨rfl, HB6.out⟩
end Go.Proofs.YtceghgbkiafklaaDoor.Od
