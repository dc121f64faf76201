/-
  The walk of MergeAsMem.
-/
import Derived.Test.YtdaibmafnamfgaaMergeMem
namespace Go.Proofs.Ytdaibmafnamfgaa.Mg
open Go.RowKit Go.Shelf Cm Mm
set_option linter.unusedVariables false

theorem three_cells (w : World) : CellsAt (w.alloc (.cells #[.int .i64 2, .int .i64 0, .int .i64 1] 3)) (some ⟨w.heap.size, 0, none⟩) ([2, 0, 1].map (Value.int .i64)) := by
  refine .inr ⟨w.heap.size, 0, rfl, by simp, fun j hj => ?_⟩
  rw [Joins.cell_of_block (show (w.alloc (.cells #[.int .i64 2, .int .i64 0, .int .i64 1] 3)).heap[w.heap.size]? = some (.cells #[.int .i64 2, .int .i64 0, .int .i64 1] 3 (0, 0)) from heap_alloc_new w _)]
  rcases (show j = 0 ∨ j = 1 ∨ j = 2 by simp at hj; omega) with rfl | rfl | rfl <;> rfl
/-- A table's list, at any later world. -/
def AllLies (Z : World) (vs : List En) (e : Ending) (w' : World) : Prop := ∃ ao c, e = .returned (.slice ao vs.length c) ∧ Lies w' ao c vs ∧ Below Z.heap.size Z w'
theorem all_lies {w0 w Z : World} {tb : Nat} {vs : List En} (h : TabW w0 tb vs w) (hz : Below w.heap.size w Z) (hl : vs.length ≤ 1000000000000) :
    Calls Try.prog 12 #[.pointer (some ⟨tb, 0, none⟩)] Z (AllLies Z vs) := by
  obtain ⟨⟨S, hT, _, _⟩, _⟩ := h
  refine (allS Z (hT.below hz) hl).mono ?_
  rintro e w' ⟨v, rfl, ho, hb⟩
  obtain ⟨ao, c, rfl, hy⟩ := Lies.of (B := Z.heap.size) ho
  exact ⟨ao, c, rfl, hy, hb⟩
set_option maxRecDepth 100000 in
set_option maxHeartbeats 2000000 in
theorem asMem_any (ao bo : Option Addr) (ca cb : Nat) (a b : List En) (w : World) (ha : ElemsAt enShape w ao a) (hb : ElemsAt enShape w bo b) (na : ao = none → ca = 0) (nb : bo = none → cb = 0) (oka : AllOk a) (okb : AllOk b) (hl : a.length + bytesE a + (b.length + bytesE b) ≤ 1048576) :
    Calls Try.prog 3 #[.slice ao a.length ca, .slice bo b.length cb] w fun e w' => e = .returned (.bool true) ∧ Below w.heap.size w w' := by
  have HA : Hid (∀ X, Below w.heap.size w X → Lies X ao ca a) := fun X hX => ⟨ha.later hX, na⟩
  have HB : Hid (∀ X, Below w.heap.size w X → Lies X bo cb b) := fun X hX => ⟨hb.later hX, nb⟩
  have HL : Hid (a.length + bytesE a + (b.length + bytesE b) ≤ 1048576) := hl
  have HOK : Hid (AllOk a ∧ AllOk b) := ⟨oka, okb⟩
  obtain ⟨la, hla⟩ : ∃ n, n = a.length := ⟨_, rfl⟩
  obtain ⟨lb, hlb⟩ : ∃ n, n = b.length := ⟨_, rfl⟩
  have HLA : Hid _ := hla
  have HLB : Hid _ := hlb
  have hla2 : la ≤ 1048576 := by omega
  have hlb2 : lb ≤ 1048576 := by omega
  rw [← hla, ← hlb]
  clear ha hb na nb oka okb hl hla hlb
  go_enter Try.func3, Try.ntmps3
  go_wp2_with fail
  refine (lives_any _).mono ?_
  rintro e w0 ⟨rfl, hb0⟩
  have H0 : Hid _ := hb0
  have HN : Hid _ := newS (some ⟨w0.heap.size, 0, none⟩) 3 [2, 0, 1] _ (three_cells w0) (by intro h hh; simp at hh; omega) (by simp)
  obtain ⟨X, hX⟩ : ∃ X, X = w0.alloc (.cells #[.int .i64 2, .int .i64 0, .int .i64 1] 3) := ⟨_, rfl⟩
  rw [← hX] at HN
  have HX : Hid (Below w.heap.size w X) := by rw [hX]; exact hb0.alloc hb0.size _
  have HXq : Hid _ := hX
  clear hb0 hX
  go_wp2_with fail
  rw [← HXq.out]
  refine (show Calls _ _ _ _ _ from HN.out).mono ?_
  rintro e w1 ⟨rfl, hT, hb1⟩
  have HT : Hid (TabW X (X.heap.size + 1) [] w1) := ⟨⟨_, hT, fun k hk => Nat.le_trans hb1.size hk, fun k hk => hk⟩, hb1⟩
  have HXX : Hid (∀ Y, Below X.heap.size X Y → Below w.heap.size w Y) := fun Y hY => HX.out.trans (hY.mono HX.out.size)
  generalize htb : X.heap.size + 1 = tb at *
  clear hT hb1 HN H0 HXq htb
  have HT1 : Hid (TabW X tb (rest [] b lb) w1) := by rw [HLB.out, rest_all]; exact HT
  clear HT
  go_wp2
  go_loopw [6] (fun vi wr => ∃ (t : Int) (j : Nat), vi = .int .i64 t ∧ t + 1 = (j : Int) ∧ j ≤ lb ∧ Hid (TabW X tb (rest [] b j) wr)) (fun vi _ => (intOf vi + 1).toNat)
  case atStart => exact ⟨(lb : Int) - 1, lb, by first | rfl | go_num, by omega, Nat.le_refl _, HT1⟩
  case round =>
    clear HT1
    obtain ⟨t, j, rfl, htj, hj, HT⟩ := hrel
    by_cases ht : 0 ≤ t
    · obtain ⟨i, rfl⟩ := Int.eq_ofNat_of_zero_le ht
      have hij : j = i + 1 := by omega
      subst hij
      have hil : i < b.length := by have := HLB.out; omega
      obtain ⟨pb, off, rfl, k0, k1, k2, k3⟩ := elem_cells (HB.out wr (HXX.out wr HT.out.2)).elems (k := i) hil
      have hi0 : (0 : Int) ≤ (i : Int) := by omega
      have hi1 : (i : Int) < (lb : Int) := by omega
      have hsz := rest_size (vs := []) hil
      have hok : (b.getD i En.zero).ok := by rw [getD_eq hil]; exact HOK.out.2 _ (List.getElem_mem hil)
      have had := add_one (b.getD i En.zero) HT.out hok (by have h1 := (show ([] : List En).length = 0 ∧ bytesE ([] : List En) = 0 from ⟨rfl, rfl⟩); have h2 := HL.out; omega) (by have h1 := (show ([] : List En).length = 0 ∧ bytesE ([] : List En) = 0 from ⟨rfl, rfl⟩); have h2 := HL.out; omega)
      rw [← rest_next hil] at had
      have HAD : Hid _ := had
      unfold entObj at HAD
      clear had hsz hok htj hil HT
      generalize b.getD i En.zero = x at *
      go_wp2_with fail
      refine (show Calls _ _ _ _ _ from HAD.out).mono ?_
      rintro e w5 ⟨rfl, ht5⟩
      have HT5 : Hid _ := ht5
      clear ht5 HAD k0 k1 k2 k3
      go_wp2
      go_roundw
      case rel => exact ⟨(i : Int) - 1, i, by first | rfl | go_num, by omega, by omega, HT5⟩
      case measure => first | (simp [intOf]; done) | (simp [intOf]; omega)
    · have hj0 : j = 0 := by omega
      subst hj0
      have htn : t < 0 := by omega
      have HT2 : Hid (TabW X tb (rest (addAll [] b.reverse) a la) wr) := by
        rw [HLA.out, rest_all]; exact HT
      clear HT htj
      generalize wr = X5 at *
      go_wp2
      go_loopw [7] (fun vi wr => ∃ (t : Int) (j : Nat), vi = .int .i64 t ∧ t + 1 = (j : Int) ∧ j ≤ la ∧ Hid (TabW X tb (rest (addAll [] b.reverse) a j) wr)) (fun vi _ => (intOf vi + 1).toNat)
      case atStart => exact ⟨(la : Int) - 1, la, by first | rfl | go_num, by omega, Nat.le_refl _, HT2⟩
      case round =>
        clear HT2
        obtain ⟨t, j, rfl, htj, hj, HT⟩ := hrel
        by_cases ht : 0 ≤ t
        · obtain ⟨i, rfl⟩ := Int.eq_ofNat_of_zero_le ht
          have hij : j = i + 1 := by omega
          subst hij
          have hil : i < a.length := by have := HLA.out; omega
          obtain ⟨pb, off, rfl, k0, k1, k2, k3⟩ := elem_cells (HA.out wr (HXX.out wr HT.out.2)).elems (k := i) hil
          have hi0 : (0 : Int) ≤ (i : Int) := by omega
          have hi1 : (i : Int) < (la : Int) := by omega
          have hsz := rest_size (vs := (addAll [] b.reverse)) hil
          have hok : (a.getD i En.zero).ok := by rw [getD_eq hil]; exact HOK.out.1 _ (List.getElem_mem hil)
          have had := add_one (a.getD i En.zero) HT.out hok (by have h1 := (show (addAll [] b.reverse).length ≤ b.length ∧ bytesE (addAll [] b.reverse) ≤ bytesE b by have h := addAll_len [] b.reverse; rw [List.length_reverse, bytes_rev] at h; simpa [bytesE] using h); have h2 := HL.out; omega) (by have h1 := (show (addAll [] b.reverse).length ≤ b.length ∧ bytesE (addAll [] b.reverse) ≤ bytesE b by have h := addAll_len [] b.reverse; rw [List.length_reverse, bytes_rev] at h; simpa [bytesE] using h); have h2 := HL.out; omega)
          rw [← rest_next hil] at had
          have HAD : Hid _ := had
          unfold entObj at HAD
          clear had hsz hok htj hil HT
          generalize a.getD i En.zero = x at *
          go_wp2_with fail
          refine (show Calls _ _ _ _ _ from HAD.out).mono ?_
          rintro e w5 ⟨rfl, ht5⟩
          have HT5 : Hid _ := ht5
          clear ht5 HAD k0 k1 k2 k3
          go_wp2
          go_roundw
          case rel => exact ⟨(i : Int) - 1, i, by first | rfl | go_num, by omega, by omega, HT5⟩
          case measure => first | (simp [intOf]; done) | (simp [intOf]; omega)
        · have hj0 : j = 0 := by omega
          subst hj0
          have htn : t < 0 := by omega
          have hfin := HT.out
          clear HT htj
          generalize wr = Y at *
          rw [rest_zero, addAll_append, ← List.reverse_append, add_merged] at hfin
          obtain ⟨L, hLq⟩ : ∃ L, L = merged (a ++ b) := ⟨_, rfl⟩
          rw [← hLq] at hfin
          have hLl : L.length ≤ 1048576 := by
            have h1 := merged_len (a ++ b)
            rw [← hLq, List.length_append] at h1
            have := HL.out
            omega
          have HFB : Hid (Below X.heap.size X Y) := hfin.2
          have HALL : Hid (∀ Z, Below Y.heap.size Y Z → Calls Try.prog 12 #[.pointer (some ⟨tb, 0, none⟩)] Z (AllLies Z (L.map clean))) := fun Z hZ => all_lies hfin hZ (by rw [List.length_map]; omega)
          have hmg := merge2_any Y (HA.out Y (HXX.out Y hfin.2)).elems (HA.out Y (HXX.out Y hfin.2)).nil (HB.out Y (HXX.out Y hfin.2)).elems (HB.out Y (HXX.out Y hfin.2)).nil (by have := HL.out; omega)
          rw [← hLq, ← HLA.out, ← HLB.out] at hmg
          have HMG : Hid _ := hmg
          have hbm : Below Y.heap.size Y (Y.alloc (.cells #[.slice ao la ca, .slice bo lb cb] 22)) := (Below.refl _ _).alloc (Nat.le_refl _) _
          have HBM : Hid _ := hbm
          clear hmg hbm hfin hLq
          go_wp2_with fail
          refine (show Calls _ _ _ _ _ from HMG.out).mono ?_
          rintro e w2 ⟨v, rfl, ho, hb2⟩
          have HB2 : Hid (Below Y.heap.size Y w2) := HBM.out.trans (hb2.mono HBM.out.size)
          have hoo : OwnE w2 Y.heap.size v L := own_base ho HBM.out.size
          clear ho hb2 HMG HBM
          rcases hoo.2 with ⟨rfl, hn⟩ | ⟨g, cap, cur, rfl, _⟩
          · have hLn : L = [] := List.length_eq_zero_iff.1 hn
            subst hLn
            have HA2 : Hid (Calls Try.prog 12 #[.pointer (some ⟨tb, 0, none⟩)] w2 (AllLies w2 [])) := HALL.out w2 HB2.out
            clear hoo hn HALL
            go_wp2
            refine wp_loop_rounds 1 ?_
            rw [rounds_succ]
            go_wp2_with fail
            refine (show Calls _ _ _ _ _ from HA2.out).mono ?_
            rintro e w3 ⟨ao3, c3, rfl, hy3, hb3⟩
            have HS : Hid (Calls Try.prog 11 #[.slice none 0 0, .slice ao3 0 c3] w3 fun e w' => e = .returned (.bool true) ∧ Below w3.heap.size w3 w') := sm (l := []) ⟨.inl rfl, fun _ => rfl⟩ hy3 (by simp)
            have HB3 : Hid (Below Y.heap.size Y w3) := HB2.out.trans (hb3.mono HB2.out.size)
            clear hy3 hb3 HA2
            go_wp2_with fail
            refine (show Calls _ _ _ _ _ from HS.out).mono ?_
            rintro e w4 ⟨rfl, hb4⟩
            have HB4 : Hid (Below w.heap.size w w4) := HXX.out _ (HFB.out.trans ((HB3.out.trans (hb4.mono HB3.out.size)).mono HFB.out.size))
            clear hb4 HS HB3
            go_wp2
            go_ret
            exact ⟨rfl, HB4.out⟩
          · obtain ⟨n, hn⟩ : ∃ n, n = L.length := ⟨_, rfl⟩
            have HNq : Hid _ := hn
            have HR : Hid (RowE Y.heap.size g n cap w2 (cl L 0) w2) := by rw [cl_zero, hn]; exact RowE.start hoo
            rw [← hn]
            have hn2 : n ≤ 1048576 := by omega
            clear hoo hn
            go_wp2
            go_loopw [48] (fun vi wr => ∃ k : Nat, vi = .int .i64 k ∧ k ≤ n ∧ Hid (RowE Y.heap.size g n cap w2 (cl L k) wr)) (fun vi _ => n - (intOf vi).toNat)
            case atStart => exact ⟨0, rfl, by omega, HR⟩
            case round =>
              clear HR
              obtain ⟨k, rfl, hk, HR⟩ := hrel
              by_cases hlt : k < n
              · have hlt' : (k : Int) < (n : Int) := by omega
                have hkL : k < L.length := by have := HNq.out; omega
                obtain ⟨c0, c1, c2, c3⟩ := HR.out.cells (k := k) hlt
                have hfz := HR.out.frozen
                rw [cl_get hkL] at c0 c1 c2 c3
                have HV : Hid ((L.getD k En.zero).dead = true → RowE Y.heap.size g n cap w2 (cl L (k + 1)) (wr.setCell ⟨g, k * 4 + 3, none⟩ (.string ⟨#[]⟩))) := fun hd => HR.out.void hkL hd
                have HK : Hid ((L.getD k En.zero).dead = false → RowE Y.heap.size g n cap w2 (cl L (k + 1)) wr) := fun hd => by rw [cl_same hkL hd]; exact HR.out
                clear HR hkL
                generalize L.getD k En.zero = x at *
                cases hd : x.dead
                · rw [hd] at c2
                  have HR2 : Hid _ := HK.out hd
                  clear HV HK hd
                  go_wp2
                  go_roundw
                  case rel => exact ⟨k + 1, by go_num, by omega, HR2⟩
                  case measure => simp [intOf]; omega
                · rw [hd] at c2
                  have HR2 : Hid _ := HV.out hd
                  clear HV HK hd
                  go_wp2
                  go_roundw
                  case rel =>
                    clear c0 c1 c2 c3
                    exact ⟨k + 1, by go_num, by omega, HR2⟩
                  case measure => simp [intOf]; omega
              · have hkn : k = n := by omega
                subst hkn
                have hlt' : ¬ (k : Int) < (k : Int) := by omega
                have hr := HR.out
                rw [HNq.out, cl_all] at hr
                obtain ⟨ho, hb3⟩ := hr.done HB2.out
                have hlm : (L.map clean).length = L.length := List.length_map _
                obtain ⟨ao3, c3, e3, hy3⟩ := Lies.of ho
                have HY3 : Hid (∀ Z, Below wr.heap.size wr Z → Lies Z ao3 c3 (L.map clean)) := fun Z hZ => hy3.later hZ
                rw [hlm, ← HNq.out] at e3
                have HE3 : Hid _ := e3
                have HB3 : Hid _ := hb3
                have HA2 : Hid _ := HALL.out wr hb3
                clear ho hb3 hr HR hlm hy3 HALL e3 hlt
                go_wp2_with fail
                refine (show Calls _ _ _ _ _ from HA2.out).mono ?_
                rintro e w4 ⟨ao4, c4, rfl, hy4, hb4⟩
                have hs := sm (HY3.out w4 hb4) hy4 (by rw [List.length_map]; omega)
                rw [show (L.map clean).length = k by rw [List.length_map]; exact HNq.out.symm] at hs ⊢
                rw [← HE3.out] at hs
                have HS : Hid _ := hs
                have HB4 : Hid (Below Y.heap.size Y w4) := HB3.out.trans (hb4.mono HB3.out.size)
                clear hs hy4 hb4 HA2 HY3
                go_wp2_with fail
                refine (show Calls _ _ _ _ _ from HS.out).mono ?_
                rintro e w5 ⟨rfl, hb5⟩
                have HB5 : Hid (Below w.heap.size w w5) := HXX.out _ (HFB.out.trans ((HB4.out.trans (hb5.mono HB4.out.size)).mono HFB.out.size))
                clear hb5 HS HB4
                go_wp2
                go_ret
                exact ⟨rfl, HB5.out⟩
end Go.Proofs.Ytdaibmafnamfgaa.Mg
