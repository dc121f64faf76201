/-
  The reference: what Decode answers, for any text.
-/
import Derived.Test.YtjfanbemihheiaaGreatDoorQManRefRead
import Derived.Test.YtjfanbemihheiaaGreatDoorQManRefEnc
namespace Go.Proofs.YtjfanbemihheiaaGreatDoor.Ma
open Go.RowKit Cm
open Pk (RfAt Step enc enc_len fold unfold)
set_option linter.unusedVariables false

theorem erI_false : erI false = 0 := rfl
theorem erI_true : erI true = 1 := rfl
theorem erI_max (a b : Bool) : max (erI a) (erI b) = erI (a || b) := by cases a <;> cases b <;> rfl
theorem erI_max0 (b : Bool) : max 0 (erI b) = erI b := by cases b <;> rfl
theorem erI_ok (b : Bool) : (erI b == 0) = !b := by cases b <;> rfl
theorem if_max (x y : Int) : (if x < y then y else x) = max x y := by
  rcases Int.lt_or_le x y with h | h
  · rw [if_pos h]; omega
  · rw [if_neg (by omega)]; omega
theorem run_max6 (P : Program) (ts : Array TypeId) (t : TypeId) (a b c d e f : Int) (w : World) : (Builtin.max_ ts t #[.int .i64 a, .int .i64 b, .int .i64 c, .int .i64 d, .int .i64 e, .int .i64 f]).run P w = .ok (.int .i64 (max (max (max (max (max a b) c) d) e) f)) w := by
  simp [Builtin.max_, Builtin.max2, if_max]
set_option maxRecDepth 100000 in
set_option maxHeartbeats 4000000 in
theorem decodeR_any (s : ByteArray) (w : World) (hs : s.size ≤ 10000000000) : Calls Tryz.prog 16 #[.string s] w (DecAns w s) := by
  obtain ⟨i0, hi, hz0, hz1, hz2⟩ := info_parts infoFi
  obtain ⟨j0, hj, hy0, hy1, hy2⟩ := info_parts infoIn
  obtain ⟨X, hX⟩ : ∃ X, X = ((w.alloc (edObj (.slice none 0 0) (.slice none 0 0) edZero)).alloc (.cells #[.string s] 83)).alloc (edObj (.slice none 0 0) (.slice none 0 0) edZero) := ⟨_, rfl⟩
  have hXs : X.heap.size = w.heap.size + 3 := by rw [hX]; simp
  have hb : ∀ o1 o2 o3 : Obj, (((w.alloc o1).alloc o2).alloc o3).heap[w.heap.size]? = some o1 ∧ (((w.alloc o1).alloc o2).alloc o3).heap[w.heap.size + 1]? = some o2 ∧ (((w.alloc o1).alloc o2).alloc o3).heap[w.heap.size + 1 + 1]? = some o3 := fun o1 o2 o3 => by
    refine ⟨?_, ?_, ?_⟩
    · exact (Below.heap_alloc _ _ _ (by simp only [World.size_alloc]; omega)).trans ((Below.heap_alloc _ _ _ (by simp only [World.size_alloc]; omega)).trans (heap_alloc_new w _))
    · refine (Below.heap_alloc _ _ _ (by simp only [World.size_alloc]; omega)).trans ?_
      have := heap_alloc_new (w.alloc o1) o2
      rwa [World.size_alloc] at this
    · have := heap_alloc_new ((w.alloc o1).alloc o2) o3
      rwa [World.size_alloc, World.size_alloc] at this
  have hL : LiesF w (w.heap.size + 1) (w.heap.size + 1 + 1) X.heap.size := ⟨by omega, by omega, by omega, by omega, by omega⟩
  have hD : DF w (w.heap.size + 1) (w.heap.size + 1 + 1) X.heap.size s (.slice none 0 0) (.slice none 0 0) edZero X := by
    obtain ⟨h1, h2, h3⟩ := hb (edObj (.slice none 0 0) (.slice none 0 0) edZero) (.cells #[.string s] 83) (edObj (.slice none 0 0) (.slice none 0 0) edZero)
    rw [← hX] at h1 h2 h3
    refine ⟨h2, h3, h1, ⟨World.ownsRow_nil _ _ _ _, World.ownsRow_nil _ _ _ _⟩, ?_⟩
    rw [hX]
    exact (((Below.refl _ _).alloc (Nat.le_refl _) _).alloc (by simp) _).alloc (by simp; omega) _
  have HL : Hid (LiesF w (w.heap.size + 1) (w.heap.size + 1 + 1) X.heap.size) := hL
  have HD0 : Hid _ := hD
  have HXs : Hid (X.heap.size = w.heap.size + 3) := hXs
  have hX' : ((w.alloc (.cells #[.slice none 0 0, .slice none 0 0, .int .i64 0, .int .i64 0, .int .i64 0] 30)).alloc (.cells #[.string s] 83)).alloc (.cells #[.slice none 0 0, .slice none 0 0, .int .i64 0, .int .i64 0, .int .i64 0] 30) = X := hX.symm
  have HF : Hid _ := fnum_any (w.heap.size + 1) s X hD.rf (by omega)
  clear hb hL hD hX hXs
  go_enter Tryz.func16, Tryz.ntmps16
  go_wp2_with fail
  refine (show Calls _ _ _ _ _ from HF.out).mono ?_
  rintro x w1 ⟨N, s1, b1, rfl, hN, hz, hrf, hrd, hst⟩
  have HD1 : Hid (DF w (w.heap.size + 1) (w.heap.size + 1 + 1) X.heap.size s1 (.slice none 0 0) (.slice none 0 0) edZero w1) := HD0.out.read HL.out hrf hst
  have HM1 : Hid (Many fiB OkF (bs s) false N [] (bs s1) b1) := Many.start hrd
  clear HF HD0 hX' hrf hrd hst
  have hN' : N < 18446744073709551616 := hN
  go_wp2
  go_loopw [8, 9] (fun ev iv wr => ∃ (l : List Fi) (v : Value) (s2 : ByteArray) (b2 : Bool), ev = .int .i64 (erI b2) ∧ iv = .int .u64 l.length ∧ l.length ≤ N ∧ l.length ≤ s.size + 1 ∧ s2.size ≤ s.size ∧ Hid (∀ x ∈ l, OkF x) ∧ Hid (DF w (w.heap.size + 1) (w.heap.size + 1 + 1) X.heap.size s2 v (.slice none 0 0) ⟨l, [], 0, 0, 0⟩ wr) ∧ Hid (Many fiB OkF (bs s) false N l (bs s2) b2)) (fun _ iv _ => N - (intOf iv).toNat)
  case atStart => exact ⟨[], _, s1, b1, rfl, rfl, by simp, by simp, hz, (fun x hx => by cases hx), HD1, HM1⟩
  case round =>
    clear HD1 HM1 hz
    obtain ⟨l, v, s2, b2, rfl, rfl, hlN, hls, hz, HOk, HD, HM⟩ := hrel
    obtain ⟨ao, cap, rfl, _, _, _, _⟩ := own_rows (F := fiShape) HD.out.own.add
    by_cases hgo : b2 = false ∧ l.length < N
    · obtain ⟨rfl, hlt⟩ := hgo
      have hlt' : (l.length : Int) < (N : Int) := by omega
      rw [erI_false]
      have hlen := many_len fiB_pos HM.out
      rw [bs_len, bs_len] at hlen
      have HR1 : Hid _ := fint_any (w.heap.size + 1) s2 wr HD.out.rf (by omega)
      go_wp2_with fail
      refine (show Calls _ _ _ _ _ from HR1.out).mono ?_
      rintro e w3 ⟨a, s3, b3, rfl, ha, hz3, hrf3, hrd3, hst3⟩
      have HD3 : Hid (DF w (w.heap.size + 1) (w.heap.size + 1 + 1) X.heap.size s3 (.slice ao l.length cap) (.slice none 0 0) ⟨l, [], 0, 0, 0⟩ w3) := HD.out.read HL.out hrf3 hst3
      have HE3 : Hid (Rd intB OkI (bs s2) false a (bs s3) b3) := hrd3
      have HR2 : Hid _ := fint_any (w.heap.size + 1) s3 w3 hrf3 (by omega)
      clear hrf3 hrd3 hst3 HR1 HD
      go_wp2_with fail
      refine (show Calls _ _ _ _ _ from HR2.out).mono ?_
      rintro e w4 ⟨c, s4, b4, rfl, hc, hz4, hrf4, hrd4, hst4⟩
      have HD4 : Hid (DF w (w.heap.size + 1) (w.heap.size + 1 + 1) X.heap.size s4 (.slice ao l.length cap) (.slice none 0 0) ⟨l, [], 0, 0, 0⟩ w4) := HD3.out.read HL.out hrf4 hst4
      have HM4 : Hid (Many fiB OkF (bs s) false N (l ++ [(a, c)]) (bs s4) (b3 || b4)) := Many.step fiB_free HM.out hlt (Rd.pair HE3.out (hrd4.under b3))
      have hbox := one_box w4 (a, c)
      obtain ⟨⟨y0, y1, y2, y3, y4⟩, yf⟩ := HD4.out.cells
      have hsz4 : X.heap.size ≤ w4.heap.size + 1 := by have := HD4.out.bel.size; have := lt_of_block HD4.out.box; have := HXs.out; omega
      clear hrf4 hrd4 hst4 HR2 HD3 HE3 HM yf
      go_wp2_with (at_builtin; refine wpList_append_rows (F := fiShape) _ rfl _ _ 24 rfl X.heap.size 53 i0 _ 16 Tryz.underlying24 hi hz0 hz1 hz2 rfl (.slice ao l.length cap) l.length l rfl (World.ownsRow.alloc HD4.out.own.add _) (some ⟨w4.heap.size, 0, none⟩) 1 1 [(a, c)] rfl (by simp) rfl hbox ?c1 ?c2 ?c3 ?_)
      case c1 => unfold maxLen; omega
      case c2 => omega
      case c3 => simp; omega
      rintro v5 w5 hown hgr hat
      obtain ⟨h51, h52, _, _⟩ := HD4.out.grownA HL.out (fun j e => (HD4.out.own.add.lt j e).1) hgr
      have HD5 : Hid (DF w (w.heap.size + 1) (w.heap.size + 1 + 1) X.heap.size s4 v5 (.slice none 0 0) ⟨l ++ [(a, c)], [], 0, 0, 0⟩ (w5.setCell ⟨w.heap.size + 1 + 1, 0, none⟩ v5)) := HD4.out.addA HL.out HD4.out.own.apart hown hgr
      obtain ⟨x0, x1, x2, x3, x4⟩ := ed_cells h52
      have xf0 : w5.frozen? ⟨w.heap.size + 1 + 1, 0, none⟩ = false := by simp [World.frozen?, h52, edObj]
      obtain ⟨ao5, cap5, hv5, _, _, _, _⟩ := own_rows (F := fiShape) (xs := l ++ [(a, c)]) (by rw [List.length_append]; exact hown)
      rw [List.length_append, List.length_singleton] at hv5
      subst hv5
      have hmx := erI_max b3 b4
      clear hown hgr hat hbox HD4 h51 h52 y0 y1 y2 y3 y4
      go_wp2
      go_roundw
      case rel => exact ⟨l ++ [(a, c)], _, s4, b3 || b4, by go_num, by rw [List.length_append, List.length_singleton]; go_num, by rw [List.length_append, List.length_singleton]; omega, by rw [List.length_append, List.length_singleton]; omega, by omega, (fun x hx => by rcases List.mem_append.1 hx with hx | hx; exact HOk.out x hx; obtain rfl : x = (a, c) := (by simpa using hx); exact ⟨ha, hc⟩), HD5, HM4⟩
      case measure => simp [intOf]; omega
    · have HD2 : Hid (Rd (manyB fiB) (OkL OkF) (bs s) false l (bs s2) b2) := HM.out.done (by
        rcases Nat.lt_or_ge l.length N with h | h
        · right; cases b2; exact absurd ⟨rfl, h⟩ hgo; rfl
        · left; omega)
      clear HM
      have HF2 : Hid _ := fnum_any (w.heap.size + 1) s2 wr HD.out.rf (by omega)
      have hex : ¬ l.length < N ∨ (b2 = true ∧ l.length < N) := by
        rcases Nat.lt_or_ge l.length N with h | h
        · right; cases b2; exact absurd ⟨rfl, h⟩ hgo; exact ⟨rfl, h⟩
        · left; omega
      clear hgo
      rcases hex with hlt | ⟨hb2, hlt⟩
      case' inl =>
        have hlt' : ¬ ((l.length : Int) < (N : Int)) := by omega
        have hm0 := erI_max0 b2
        go_wp2_with fail
      case' inr =>
        have hlt' : ((l.length : Int) < (N : Int)) := by omega
        have hm0 := erI_max0 b2
        have he0 : (erI b2 == 0) = false := by rw [hb2]; rfl
        clear hb2
        go_wp2_with fail
        clear he0
      all_goals
        clear hlt hlt' hm0
        refine (show Calls _ _ _ _ _ from HF2.out).mono ?_
        rintro x w6 ⟨N2, s6, b6, rfl, hN2, hz6, hrf6, hrd6, hst6⟩
        have HD6 : Hid (DF w (w.heap.size + 1) (w.heap.size + 1 + 1) X.heap.size s6 (.slice ao l.length cap) (.slice none 0 0) ⟨l, [], 0, 0, 0⟩ w6) := HD.out.read HL.out hrf6 hst6
        have HM6 : Hid (Many intB OkI (bs s2) false N2 [] (bs s6) b6) := Many.start hrd6
        clear HF2 HD hrf6 hrd6 hst6
        have hN2' : N2 < 18446744073709551616 := hN2
        go_wp2
        go_loopw [8, 14] (fun ev iv wr => ∃ (d : List Int) (v : Value) (s7 : ByteArray) (b7 : Bool), ev = .int .i64 (erI b7) ∧ iv = .int .u64 d.length ∧ d.length ≤ N2 ∧ d.length ≤ s.size + 1 ∧ s7.size ≤ s2.size ∧ Hid (∀ x ∈ d, OkI x) ∧ Hid (DF w (w.heap.size + 1) (w.heap.size + 1 + 1) X.heap.size s7 (.slice ao l.length cap) v ⟨l, d, 0, 0, 0⟩ wr) ∧ Hid (Many intB OkI (bs s2) false N2 d (bs s7) b7)) (fun _ iv _ => N2 - (intOf iv).toNat)
        case atStart => exact ⟨[], _, s6, b6, rfl, rfl, by simp, by simp, hz6, (fun x hx => by cases hx), HD6, HM6⟩
        case round =>
          clear HD6 HM6 hz6
          obtain ⟨d, v, s7, b7, rfl, rfl, hdN, hds, hz7, HOd, HD, HM⟩ := hrel
          obtain ⟨ad, capd, rfl, _, _, _, _⟩ := own_rows (F := inShape) HD.out.own.del
          by_cases hgo : b7 = false ∧ d.length < N2
          · obtain ⟨rfl, hlt⟩ := hgo
            have hlt' : (d.length : Int) < (N2 : Int) := by omega
            rw [erI_false]
            have hlen := many_len intB_pos HM.out
            rw [bs_len, bs_len] at hlen
            have HR1 : Hid _ := fint_any (w.heap.size + 1) s7 wr HD.out.rf (by omega)
            go_wp2_with fail
            refine (show Calls _ _ _ _ _ from HR1.out).mono ?_
            rintro e w8 ⟨c, s8, b8, rfl, hc, hz8, hrf8, hrd8, hst8⟩
            have HD8 : Hid (DF w (w.heap.size + 1) (w.heap.size + 1 + 1) X.heap.size s8 (.slice ao l.length cap) (.slice ad d.length capd) ⟨l, d, 0, 0, 0⟩ w8) := HD.out.read HL.out hrf8 hst8
            have HM8 : Hid (Many intB OkI (bs s2) false N2 (d ++ [c]) (bs s8) b8) := Many.step intB_free HM.out hlt hrd8
            have hbox := one_int w8 c
            obtain ⟨⟨y0, y1, y2, y3, y4⟩, yf⟩ := HD8.out.cells
            have hsz8 : X.heap.size ≤ w8.heap.size + 1 := by have := HD8.out.bel.size; have := lt_of_block HD8.out.box; have := HXs.out; omega
            clear hrf8 hrd8 hst8 HR1 HD HM yf
            go_wp2_with (at_builtin; refine wpList_append_rows (F := inShape) _ rfl _ _ 28 rfl X.heap.size 3 j0 _ 8 Tryz.underlying28 hj hy0 hy1 hy2 rfl (.slice ad d.length capd) d.length d rfl (World.ownsRow.alloc HD8.out.own.del _) (some ⟨w8.heap.size, 0, none⟩) 1 1 [c] rfl (by simp) rfl hbox ?c1 ?c2 ?c3 ?_)
            case c1 => unfold maxLen; omega
            case c2 => omega
            case c3 => simp; omega
            rintro v5 w9 hown hgr hat
            obtain ⟨h51, h52, _, _⟩ := HD8.out.grownA HL.out (fun j e => (HD8.out.own.del.lt j e).1) hgr
            have HD9 : Hid (DF w (w.heap.size + 1) (w.heap.size + 1 + 1) X.heap.size s8 (.slice ao l.length cap) v5 ⟨l, d ++ [c], 0, 0, 0⟩ (w9.setCell ⟨w.heap.size + 1 + 1, 1, none⟩ v5)) := HD8.out.addD HL.out (fun k h1 h2 => HD8.out.own.apart k h2 h1) hown hgr
            obtain ⟨x0, x1, x2, x3, x4⟩ := ed_cells h52
            have xf1 : w9.frozen? ⟨w.heap.size + 1 + 1, 1, none⟩ = false := by simp [World.frozen?, h52, edObj]
            obtain ⟨ao5, cap5, hv5, _, _, _, _⟩ := own_rows (F := inShape) (xs := d ++ [c]) (by rw [List.length_append]; exact hown)
            rw [List.length_append, List.length_singleton] at hv5
            subst hv5
            clear hown hgr hat hbox HD8 h51 h52 y0 y1 y2 y3 y4
            go_wp2
            go_roundw
            case rel => exact ⟨d ++ [c], _, s8, b8, by go_num, by rw [List.length_append, List.length_singleton]; go_num, by rw [List.length_append, List.length_singleton]; omega, by rw [List.length_append, List.length_singleton]; omega, by omega, (fun x hx => by rcases List.mem_append.1 hx with hx | hx; exact HOd.out x hx; obtain rfl : x = c := (by simpa using hx); exact hc), HD9, HM8⟩
            case measure => simp [intOf]; omega
          · have HE2 : Hid (Rd (manyB intB) (OkL OkI) (bs s2) false d (bs s7) b7) := HM.out.done (by
              rcases Nat.lt_or_ge d.length N2 with h | h
              · right; cases b7; exact absurd ⟨rfl, h⟩ hgo; rfl
              · left; omega)
            have HR3 : Hid _ := fint_any (w.heap.size + 1) s7 wr HD.out.rf (by omega)
            have hex : ¬ d.length < N2 ∨ (b7 = true ∧ d.length < N2) := by
              rcases Nat.lt_or_ge d.length N2 with h | h
              · right; cases b7; exact absurd ⟨rfl, h⟩ hgo; exact ⟨rfl, h⟩
              · left; omega
            clear hgo HM
            rcases hex with hlt | ⟨hb7, hlt⟩
            case' inl =>
              have hlt' : ¬ ((d.length : Int) < (N2 : Int)) := by omega
              go_wp2_with fail
            case' inr =>
              have hlt' : ((d.length : Int) < (N2 : Int)) := by omega
              have he0 : (erI b7 == 0) = false := by rw [hb7]; rfl
              clear hb7
              go_wp2_with fail
              clear he0
            all_goals
              clear hlt hlt'
              refine (show Calls _ _ _ _ _ from HR3.out).mono ?_
              rintro x wa ⟨na, sa, ba, rfl, hna, hza, hrfa, hrda, hsta⟩
              have HDa : Hid (DF w (w.heap.size + 1) (w.heap.size + 1 + 1) X.heap.size sa (.slice ao l.length cap) (.slice ad d.length capd) ⟨l, d, 0, 0, 0⟩ wa) := HD.out.read HL.out hrfa hsta
              have HEa : Hid (Rd intB OkI (bs s7) false na (bs sa) ba) := hrda
              have HRb : Hid _ := fint_any (w.heap.size + 1) sa wa hrfa (by omega)
              clear HR3 HD hrfa hrda hsta
              go_wp2_with fail
              refine (show Calls _ _ _ _ _ from HRb.out).mono ?_
              rintro x wb ⟨nb, sb, bb, rfl, hnb, hzb, hrfb, hrdb, hstb⟩
              have HDb : Hid (DF w (w.heap.size + 1) (w.heap.size + 1 + 1) X.heap.size sb (.slice ao l.length cap) (.slice ad d.length capd) ⟨l, d, 0, 0, 0⟩ wb) := HDa.out.read HL.out hrfb hstb
              have HEb : Hid (Rd intB OkI (bs sa) false nb (bs sb) bb) := hrdb
              have HRc : Hid _ := fint_any (w.heap.size + 1) sb wb hrfb (by omega)
              clear HRb HDa hrfb hrdb hstb
              go_wp2_with fail
              refine (show Calls _ _ _ _ _ from HRc.out).mono ?_
              rintro x wc ⟨nc, sc, bc, rfl, hnc, hzc, hrfc, hrdc, hstc⟩
              have hdc := HDb.out.read HL.out hrfc hstc
              have HDc : Hid (DF w (w.heap.size + 1) (w.heap.size + 1 + 1) X.heap.size sc (.slice ao l.length cap) (.slice ad d.length capd) ⟨l, d, na, nb, nc⟩ _) := hdc.setW HL.out na nb nc
              have HT : Hid (Rd tupB tupK (bs s) false ((((l, d), na), nb), nc) (bs sc) ((((b2 || b7) || ba) || bb) || bc)) := rd_tup HD2.out (HE2.out.under b2) (HEa.out.under _) (HEb.out.under _) (hrdc.under _)
              obtain ⟨⟨y0, y1, y2, y3, y4⟩, yf⟩ := hdc.cells
              have yf2 := yf 2
              have yf3 := yf 3
              have yf4 := yf 4
              have hll : l.length + d.length ≤ 100000000000 := by omega
              have hOk' : (⟨l, d, na, nb, nc⟩ : Ed).Ok' := ⟨HOk.out, HOd.out, hna, hnb, hnc⟩
              have hen := encodeR_any ao cap ad capd ⟨l, d, na, nb, nc⟩ _ (HDc.out.own.ed (fun k hk => hk.elim) HOk.out HOd.out hll) hOk'
              unfold edV at hen
              have HEn : Hid _ := hen
              clear HRc HDb hrfc hrdc hstc hdc yf hen hOk'
              go_wp2_with fail
              refine (show Calls _ _ _ _ _ from HEn.out).mono ?_
              rintro x wd ⟨rfl, hbd⟩
              have HDd : Hid (DF w (w.heap.size + 1) (w.heap.size + 1 + 1) X.heap.size sc (.slice ao l.length cap) (.slice ad d.length capd) ⟨l, d, na, nb, nc⟩ wd) := HDc.out.below hbd
              clear HDc hbd HEn y0 y1 y2 y3 y4 yf2 yf3 yf4 HE2 HEa HEb
              have hm6 := run_max6 Tryz.prog
              have q1 := erI_max b2 b7
              have q2 := erI_max (b2 || b7) ba
              have q3 := erI_max ((b2 || b7) || ba) bb
              have q4 := erI_max (((b2 || b7) || ba) || bb) bc
              obtain ⟨T, hTe⟩ : ∃ T, T = ((((b2 || b7) || ba) || bb) || bc) := ⟨_, rfl⟩
              rw [← hTe] at q4 HT
              clear hTe
              obtain ⟨z0, z1, z2, z3, z4⟩ := ed_cells HDd.out.res
              simp only [edZero] at z2 z3 z4
              have zf : ∀ i, wd.frozen? ⟨w.heap.size, i, none⟩ = false := fun i => by simp [World.frozen?, HDd.out.res, edObj]
              have zf0 := zf 0
              have zf1 := zf 1
              have zf2 := zf 2
              have zf3 := zf 3
              have zf4 := zf 4
              obtain ⟨y0, y1, y2, y3, y4⟩ := ed_cells HDd.out.box
              have HSet : Hid _ := ed_set HDd.out.res (.slice none 0 0) (.slice none 0 0) (.int .i64 0) (.int .i64 0) (.int .i64 0)
              have HWe : Hid _ := dec_store HDd.out.res HDd.out.bel (.slice none 0 0) (.slice none 0 0) (.int .i64 0) (.int .i64 0) (.int .i64 0)
              clear zf
              cases hri : right ⟨l, d, na, nb, nc⟩
              · have hA : encA ⟨l, d, na, nb, nc⟩ = .tuple #[.string ⟨#[]⟩, .int .i64 11] := by unfold encA; rw [hri]; rfl
                rw [hA]
                have q5 : (max (erI T) 11 == 0) = false := by cases T <;> rfl
                clear hA
                have HNo : Hid (∀ e, ¬ IsEd (bs s) e) := by
                  cases T
                  · obtain ⟨k1, k2⟩ := rd_ed (e := ⟨l, d, na, nb, nc⟩) HT.out
                    exact ed_not k1 k2 (.inr hri)
                  · exact rd_not HT.out
                clear HT
                go_wp2
                obtain ⟨u0, u1, u2, u3, u4⟩ := HSet.out _ rfl
                refine bodyPost_ret (v := .tuple #[.agg #[.slice none 0 0, .slice none 0 0, .int .i64 0, .int .i64 0, .int .i64 0], .int .i64 11]) (by simp [results, Tryz.results16, go_sem, u0, u1, u2, u3, u4]) rfl ?_
                exact .inr ⟨HNo.out, rfl, HWe.out⟩
              · have hA : encA ⟨l, d, na, nb, nc⟩ = .tuple #[.string ⟨(encE ⟨l, d, na, nb, nc⟩).toArray⟩, .int .i64 0] := by unfold encA; rw [hri]; rfl
                rw [hA]
                clear hA
                cases T
                · obtain ⟨k1, k2⟩ := rd_ed (e := ⟨l, d, na, nb, nc⟩) HT.out
                  have q5 : (max (erI false) 0 == 0) = true := rfl
                  have HK1 : Hid ((⟨l, d, na, nb, nc⟩ : Ed).Ok) := k1
                  have HK2 : Hid (bs s = encE ⟨l, d, na, nb, nc⟩ ++ bs sc) := k2
                  have HRi : Hid (right ⟨l, d, na, nb, nc⟩ = true) := hri
                  obtain ⟨A, hA⟩ : ∃ A : ByteArray, A = ⟨(encE ⟨l, d, na, nb, nc⟩).toArray⟩ := ⟨_, rfl⟩
                  have HAb : Hid (bs A = encE ⟨l, d, na, nb, nc⟩) := by show _ = _; rw [hA, bs_mk]
                  rw [← hA]
                  clear hA k1 k2 hri
                  by_cases h5 : bs sc = []
                  · have hcmp : (A.toList == s.toList) = true := by
                      rw [Lib.toList_data, Lib.toList_data, beq_iff_eq]
                      show bs A = bs s
                      rw [HAb.out, HK2.out, h5, List.append_nil]
                    have HIs : Hid (IsEd (bs s) ⟨l, d, na, nb, nc⟩) := ⟨HK1.out, HRi.out, by have := HK2.out; rw [h5, List.append_nil] at this; exact this⟩
                    have HSetE : Hid _ := ed_set HDd.out.res (.slice ao l.length cap) (.slice ad d.length capd) (.int .i64 na) (.int .i64 nb) (.int .i64 nc)
                    have HWeE : Hid _ := dec_store HDd.out.res HDd.out.bel (.slice ao l.length cap) (.slice ad d.length capd) (.int .i64 na) (.int .i64 nb) (.int .i64 nc)
                    have hXg : w.heap.size < X.heap.size := by have := HXs.out; omega
                    have HOwE : Hid _ := (dec_own HDd.out.own hXg (.slice ao l.length cap) (.slice ad d.length capd) (.int .i64 na) (.int .i64 nb) (.int .i64 nc)).le (Nat.le_of_lt hXg)
                    clear HT HAb HK1 HK2 HRi hXg HSet HWe
                    go_wp2
                    obtain ⟨u0, u1, u2, u3, u4⟩ := HSetE.out _ rfl
                    refine bodyPost_ret (v := .tuple #[.agg #[.slice ao l.length cap, .slice ad d.length capd, .int .i64 na, .int .i64 nb, .int .i64 nc], .int .i64 0]) (by simp [results, Tryz.results16, go_sem, u0, u1, u2, u3, u4]) rfl ?_
                    exact .inl ⟨_, _, _, HIs.out, rfl, HOwE.out, hll, HWeE.out⟩
                  · have hcmp : (A.toList == s.toList) = false := by
                      rw [Lib.toList_data, Lib.toList_data, beq_eq_false_iff_ne]
                      show ¬ bs A = bs s
                      rw [HAb.out, HK2.out]
                      intro q
                      exact h5 (by simpa using q)
                    have HNo : Hid (∀ e, ¬ IsEd (bs s) e) := ed_not HK1.out HK2.out (.inl h5)
                    clear HT
                    go_wp2
                    obtain ⟨u0, u1, u2, u3, u4⟩ := HSet.out _ rfl
                    refine bodyPost_ret (v := .tuple #[.agg #[.slice none 0 0, .slice none 0 0, .int .i64 0, .int .i64 0, .int .i64 0], .int .i64 11]) (by simp [results, Tryz.results16, go_sem, u0, u1, u2, u3, u4]) rfl ?_
                    exact .inr ⟨HNo.out, rfl, HWe.out⟩
                · have q5 : (max (erI true) 0 == 0) = false := rfl
                  have HNo : Hid (∀ e, ¬ IsEd (bs s) e) := rd_not HT.out
                  clear HT
                  go_wp2
                  obtain ⟨u0, u1, u2, u3, u4⟩ := HSet.out _ rfl
                  refine bodyPost_ret (v := .tuple #[.agg #[.slice none 0 0, .slice none 0 0, .int .i64 0, .int .i64 0, .int .i64 0], .int .i64 11]) (by simp [results, Tryz.results16, go_sem, u0, u1, u2, u3, u4]) rfl ?_
                  exact .inr ⟨HNo.out, rfl, HWe.out⟩
end Go.Proofs.YtjfanbemihheiaaGreatDoor.Ma
