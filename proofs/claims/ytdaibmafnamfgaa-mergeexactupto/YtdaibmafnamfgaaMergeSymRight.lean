/-
  The merge of two neighbouring lists of which the second has one version.
-/
import Derived.Test.YtdaibmafnamfgaaMergeSymLeft
namespace Go.Proofs.Ytdaibmafnamfgaa.Mg
open Go.RowKit Cm Mm
set_option linter.unusedVariables false

theorem move_left {F P Q Z : List En} {y z : En} {k j : Nat} (hk : F.length + P.length = k) (hj : k + 1 = j) : swp (F ++ ((P ++ [z]) ++ (y :: (Q ++ Z)))) j k = F ++ (P ++ (y :: ((z :: Q) ++ Z))) := by
  rw [swp_comm (by omega)]
  have := swp_app (A := F ++ P) (M := []) (Z := Q ++ Z) (x := z) (y := y) (i := k) (j := j) (by simp; omega) (by simp; omega)
  simp only [List.append_assoc, List.nil_append, List.cons_append] at this ⊢
  exact this
theorem right_done {A L Z : List En} {y : En} {a m b i : Nat} (hL : WS L) (ha : A.length = a) (hm : a + L.length = m) (hb : m + 1 = b) (h1 : a ≤ i) (h2 : i ≤ m)
    (hl : i = a ∨ less y ((A ++ (L ++ ([y] ++ Z))).getD (i - 1) En.zero) = false) (hr : i = m ∨ less y ((A ++ (L ++ ([y] ++ Z))).getD i En.zero) = true) :
    WS ((L.take (i - a) ++ [y]) ++ L.drop (i - a)) ∧ Stab (L ++ [y]) ((L.take (i - a) ++ [y]) ++ L.drop (i - a)) := by
  have gx : (A ++ (L ++ ([y] ++ Z))).getD m En.zero = y := by
    have := getD_app (A ++ L) Z y
    rw [List.length_append, ha, hm] at this
    simpa using this
  have gm : (A ++ (L ++ ([y] ++ Z))).getD (b - 1) En.zero = y := by
    have : b - 1 = m := by omega
    rw [this]; exact gx
  have s1 := strictly (A := A) (L := L) (R := [y]) (Z := Z) (a := a) (m := m) (b := b) (s := i) (e := b) rfl hL (WS.one y) ha hm (by simpa using hb) ⟨h1, h2⟩ ⟨by omega, by omega⟩ (by
    rcases hr with hr | hr
    · exact .inl hr
    · exact .inr (.inr (by rw [gm]; exact hr)))
  have s2 := weakly (A := A) (L := L) (R := [y]) (Z := Z) (a := a) (m := m) (b := b) (s := i) (e := m) rfl hL (WS.one y) ha hm (by simpa using hb) ⟨h1, h2⟩ ⟨by omega, by omega⟩ (by
    rcases hl with hl | hl
    · exact .inl hl
    · exact .inr (.inr (by rw [gx]; exact le_iff.2 hl)))
  have e1 : [y].take (b - m) = [y] := by rw [← hb]; simp
  have e2 : [y].drop (m - m) = [y] := by simp
  rw [e1] at s1
  rw [e2] at s2
  have hL2 : WS (L.take (i - a) ++ L.drop (i - a)) := by rw [List.take_append_drop]; exact hL
  have hw2 : WS (L.take (i - a) ++ [y]) := WS.mk hL2.append.1 (WS.one y) s2
  have := merge_done (L1 := L.take (i - a)) (L2 := L.drop (i - a)) (R1 := [y]) (R2 := []) (M1 := L.take (i - a) ++ [y]) (M2 := L.drop (i - a)) hL2 (by simpa using WS.one y) s1 (fun x _ y hy => by cases hy) hw2 hL2.append.2.1 (Stab.refl _) (by rw [List.append_nil]; exact Stab.refl _)
  rw [List.take_append_drop, List.append_nil] at this
  exact this

set_option maxRecDepth 100000 in
set_option maxHeartbeats 2000000 in
theorem symRight_any {B g n cap : Nat} {w0 w : World} {A L Z : List En} {y : En} (h : RowE B g n cap w0 (A ++ (L ++ ([y] ++ Z))) w) (hL : WS L) (a m b : Nat) (ha : A.length = a) (hm : a + L.length = m) (hL2 : 2 ≤ L.length) (hb : m + 1 = b) (hn : n ≤ 1000000000000) :
    Calls Try.prog 58 #[.slice (some ⟨g, 0, none⟩) n cap, .int .i64 a, .int .i64 m, .int .i64 b, fvE] w fun e w' => e = .returned (.tuple #[]) ∧ ∃ M, WS M ∧ Stab (L ++ [y]) M ∧ RowE B g n cap w0 (A ++ (M ++ Z)) w' := by
  unfold fvE
  have hlen : b + Z.length = n := by rw [← h.len, ← hb, ← hm, ← ha]; simp; omega
  have hbn : b ≤ n := by omega
  have ham : a + 2 ≤ m := by omega
  have hmn : m < n := by omega
  have HD : Hid (∀ i, a ≤ i → i ≤ m → (i = a ∨ less y ((A ++ (L ++ ([y] ++ Z))).getD (i - 1) En.zero) = false) → (i = m ∨ less y ((A ++ (L ++ ([y] ++ Z))).getD i En.zero) = true) →
      ∃ L1 L2, L1 ++ L2 = L ∧ L1.length = i - a ∧ L2.length = m - i ∧ WS ((L1 ++ [y]) ++ L2) ∧ Stab (L ++ [y]) ((L1 ++ [y]) ++ L2)) := fun i h1 h2 hl hr => by
    obtain ⟨d1, d2⟩ := right_done hL ha hm hb h1 h2 hl hr
    exact ⟨_, _, List.take_append_drop _ _, by simp; omega, by simp; omega, d1, d2⟩
  have gx : (A ++ (L ++ ([y] ++ Z))).getD m En.zero = y := by
    have := getD_app (A ++ L) Z y
    rw [List.length_append, ha, hm] at this
    simpa using this
  have HA : Hid (A.length = a) := ha
  have wm : IntKind.i64.wrap ((m : Int) - (a : Int)) = ((m - a : Nat) : Int) := wrap_nat (by omega) (by omega)
  have wb : IntKind.i64.wrap ((b : Int) - (m : Int)) = 1 := by
    have : (b : Int) - (m : Int) = ((1 : Nat) : Int) := by omega
    rw [this]; rfl
  have hm1 : (((m - a : Nat) : Int) == 1) = false := by simp; omega
  have HR : Hid _ := h
  have HXS : Hid (∀ L1 L2 wq, L1 ++ L2 = L → RowE B g n cap w0 (A ++ (L ++ ([y] ++ Z))) wq → RowE B g n cap w0 ((A ++ L1) ++ (L2 ++ (y :: ([] ++ Z)))) wq) := fun R1 R2 wq e hq => by
    subst e; simpa using hq
  clear h ha hb hlen hL hm hL2
  generalize hxs : A ++ (L ++ ([y] ++ Z)) = xs at *
  clear hxs
  generalize hma : m - a = ma at *
  have HMA : Hid _ := hma
  clear hma
  go_enter Try.func58, Try.ntmps58
  go_wp2
  go_loopw [14, 15] (fun vi vj wr => ∃ i j : Nat, vi = .int .i64 i ∧ vj = .int .i64 j ∧ a ≤ i ∧ i ≤ j ∧ j ≤ m ∧ Hid (i = a ∨ less y (xs.getD (i - 1) En.zero) = false) ∧ Hid (j = m ∨ less y (xs.getD j En.zero) = true) ∧ Hid (RowE B g n cap w0 xs wr)) (fun vi vj _ => (intOf vj).toNat - (intOf vi).toNat)
  case atStart => exact ⟨a, m, rfl, rfl, by omega, by omega, by omega, Or.inl rfl, Or.inl rfl, HR⟩
  case round =>
    clear HR wm wb hm1
    obtain ⟨i, j, rfl, rfl, h1, h2, h3, HI, HJ, HR⟩ := hrel
    by_cases hlt : i < j
    · obtain ⟨q, hq⟩ : ∃ q, q = (i + j) / 2 := ⟨_, rfl⟩
      have hqn : q < n := by omega
      have he := fun w' (hb : Below wr.heap.size wr w') => HR.out.eight (i := m) (j := q) hmn hqn hb
      rw [gx] at he
      have HK : Hid _ := he
      obtain ⟨c0, c1, c2, c3, d0, d1, d2, d3⟩ := he wr (Below.refl _ _)
      have HL : Hid (∀ wq, _) := fun wq => cmpE_any y (xs.getD q En.zero) wq
      unfold env at HL
      have HBd : Hid (∀ wq, Below wr.drew.heap.size wr.drew wq → Below wr.heap.size wr wq) := fun wq h => (Below.refl _ _).drew.trans h
      have HRL : Hid (∀ wq, Below wr.heap.size wr wq → RowE B g n cap w0 _ wq) := fun wq h => HR.out.later h
      have hmi : ((i : Int) + (j : Int)) / 2 = (q : Int) := by omega
      have HMI : Hid _ := hmi
      have hq0 : (0 : Int) ≤ (q : Int) := by omega
      have hq1 : (q : Int) < (n : Int) := by omega
      have ha1 : (m : Int) < (n : Int) := by omega
      have HQ : Hid (q = (i + j) / 2) := hq
      clear he hmi hq HR HD HXS gx HMA
      generalize hy : xs.getD q En.zero = x at *
      have HY : Hid _ := hy
      clear hy
      cases hxy : less y x
      · have hcc := cE_not hxy
        have HXY : Hid (q + 1 = a ∨ less y (xs.getD (q + 1 - 1) En.zero) = false) := .inr (by rw [Nat.add_sub_cancel, HY.out]; exact hxy)
        generalize cE y x = c at *
        clear hxy
        have hnc : (!decide (c < 0)) = true := by simp [hcc]
        go_wp2_with fail
        rw [HMI.out]
        go_region_held3 (fun w' => w'.cell? ⟨g, m * 4, none⟩ = some (.string y.key) ∧ w'.cell? ⟨g, m * 4 + 1, none⟩ = some (.int .i64 y.seq) ∧ w'.cell? ⟨g, m * 4 + 2, none⟩ = some (.bool y.dead) ∧ w'.cell? ⟨g, m * 4 + 3, none⟩ = some (.string y.val) ∧ w'.cell? ⟨g, q * 4, none⟩ = some (.string x.key) ∧ w'.cell? ⟨g, q * 4 + 1, none⟩ = some (.int .i64 x.seq) ∧ w'.cell? ⟨g, q * 4 + 2, none⟩ = some (.bool x.dead) ∧ w'.cell? ⟨g, q * 4 + 3, none⟩ = some (.string x.val)) (first | with_reducible exact ⟨c0, c1, c2, c3, d0, d1, d2, d3⟩ | exact ⟨c0, c1, c2, c3, d0, d1, d2, d3⟩ | exact HK.out _ hbq)
          ((go_at_call 23; refine (show Calls _ _ _ _ _ from HL.out _).mono ?_; rintro e w2 ⟨rfl, hb2⟩; have hbq := HBd.out w2 hb2))
        have HB2 : Hid _ := hbq
        clear hb2 hbq HBd HK HL c0 c1 c2 c3 d0 d1 d2 d3
        go_wp2
        go_roundw
        case rel => have := HQ.out; exact ⟨q + 1, j, by go_num, rfl, by omega, by omega, h3, HXY, HJ, HRL.out _ HB2.out⟩
        case measure => have := HQ.out; simp [intOf]; omega
      · have hcc := cE_neg hxy
        have HXY : Hid (q = m ∨ less y (xs.getD q En.zero) = true) := .inr (by rw [HY.out]; exact hxy)
        generalize cE y x = c at *
        clear hxy
        go_wp2_with fail
        rw [HMI.out]
        go_region_held3 (fun w' => w'.cell? ⟨g, m * 4, none⟩ = some (.string y.key) ∧ w'.cell? ⟨g, m * 4 + 1, none⟩ = some (.int .i64 y.seq) ∧ w'.cell? ⟨g, m * 4 + 2, none⟩ = some (.bool y.dead) ∧ w'.cell? ⟨g, m * 4 + 3, none⟩ = some (.string y.val) ∧ w'.cell? ⟨g, q * 4, none⟩ = some (.string x.key) ∧ w'.cell? ⟨g, q * 4 + 1, none⟩ = some (.int .i64 x.seq) ∧ w'.cell? ⟨g, q * 4 + 2, none⟩ = some (.bool x.dead) ∧ w'.cell? ⟨g, q * 4 + 3, none⟩ = some (.string x.val)) (first | with_reducible exact ⟨c0, c1, c2, c3, d0, d1, d2, d3⟩ | exact ⟨c0, c1, c2, c3, d0, d1, d2, d3⟩ | exact HK.out _ hbq)
          ((go_at_call 23; refine (show Calls _ _ _ _ _ from HL.out _).mono ?_; rintro e w2 ⟨rfl, hb2⟩; have hbq := HBd.out w2 hb2))
        have HB2 : Hid _ := hbq
        clear hb2 hbq HBd HK HL c0 c1 c2 c3 d0 d1 d2 d3
        go_wp2
        go_roundw
        case rel => have := HQ.out; exact ⟨i, q, rfl, rfl, h1, by omega, by omega, HI, HXY, HRL.out _ HB2.out⟩
        case measure => have := HQ.out; simp [intOf]; omega
    · obtain rfl : i = j := by omega
      obtain ⟨L1, L2, e12, hl1, hl2, hws, hst⟩ := HD.out i h1 h3 HI.out HJ.out
      have HR1 := HXS.out L1 L2 _ e12 HR.out
      have HE : Hid (WS ((L1 ++ [y]) ++ L2) ∧ Stab (L ++ [y]) ((L1 ++ [y]) ++ L2)) := ⟨hws, hst⟩
      have HL2 : Hid (L2.length = m - i) := hl2
      have HF : Hid ((A ++ L1).length = i) := by have := HA.out; show _ = _; rw [List.length_append]; omega
      have hir : ¬ (i : Int) < (i : Int) := by omega
      have HRq : Hid _ := HR1
      clear HR1 e12 hws hst hl1 hl2 HI HJ HD HXS HR gx HMA
      generalize wr = X at *
      go_wp2
      go_loopw [17] (fun vk wr => ∃ (k : Nat) (P Q : List En), vk = .int .i64 k ∧ i ≤ k ∧ k ≤ m ∧ Hid (P ++ Q = L2) ∧ Hid (i + P.length = k) ∧ Hid (RowE B g n cap w0 ((A ++ L1) ++ (P ++ (y :: (Q ++ Z)))) wr)) (fun vk _ => (intOf vk).toNat)
      case atStart => exact ⟨m, L2, [], rfl, by omega, by omega, by show _ = _; simp, by have := HL2.out; show _ = _; omega, HRq⟩
      case round =>
        clear HRq
        obtain ⟨j, P, Q, rfl, hk1, hk2, HPQ, HP, HR⟩ := hrel
        have hP := HP.out
        by_cases hki : i < j
        · obtain ⟨P', z, rfl⟩ : ∃ P' z, P = P' ++ [z] := by
            rcases List.eq_nil_or_concat P with rfl | ⟨P', z, rfl⟩
            · exfalso; simp at hP; omega
            · exact ⟨P', z, by simp⟩
          obtain ⟨k, hkj⟩ : ∃ k, k + 1 = j := ⟨j - 1, by omega⟩
          simp only [List.length_append, List.length_cons, List.length_nil] at hP
          have hPk : (A ++ L1).length + P'.length = k := by rw [HF.out]; omega
          have hr := HR.out
          have hsl := move_left (y := y) (z := z) (Q := Q) (Z := Z) hPk hkj
          obtain ⟨gk, gk1⟩ := ins_get (x := y) (y := z) (R := Q ++ Z) hPk
          rw [hkj] at gk1
          have hjn : j < n := by omega
          have hkn : k < n := by omega
          have hsw := (hr.swap (i := j) (j := k) hjn hkn).drew
          obtain ⟨c0, c1, c2, c3⟩ := hr.cells (k := j) hjn
          obtain ⟨d0, d1, d2, d3⟩ := hr.cells (k := k) hkn
          obtain ⟨f0, f1, f2, f3⟩ := hr.other (i := j) (j := k) hjn hkn (by omega) z
          rw [gk, gk1, hsl] at hsw
          rw [gk1] at c0 c1 c2 c3
          rw [gk] at d0 d1 d2 d3 f0 f1 f2 f3
          have hfz := hr.frozen
          unfold set4 at f0 f1 f2 f3 hsw
          have HSW : Hid _ := hsw
          have HP2 : Hid (P' ++ z :: Q = L2) := by rw [← HPQ.out]; show _ = _; simp
          have hki' : (i : Int) < (j : Int) := by omega
          have hjn' : (j : Int) < (n : Int) := by omega
          have hkn' : (k : Int) < (n : Int) := by omega
          have wk : IntKind.i64.wrap ((j : Int) - 1) = (k : Int) := wrap_nat (by omega) (by omega)
          have hP3 : Hid (i + P'.length = k) := by show _ = _; omega
          have HKJ : Hid _ := hkj
          clear hsw hr hsl gk gk1 hPk HR HPQ HP hP hkj
          go_wp2_with fail
          go_region
          go_wp2
          go_roundw
          case rel =>
            clear c0 c1 c2 c3 d0 d1 d2 d3 f0 f1 f2 f3
            have := HKJ.out
            refine ⟨k, P', z :: Q, by first | rfl | (rw [wk]), by omega, by omega, HP2, hP3, ?_⟩
            with_reducible exact HSW
          case measure => have := HKJ.out; simp [intOf]; omega
        · obtain rfl : i = j := by omega
          have hQ : P = [] := List.length_eq_zero_iff.1 (by omega)
          subst hQ
          have hPR : Q = L2 := by have := HPQ.out; simpa using this
          subst hPR
          clear hP
          go_wp2
          refine bodyPost_ret (results_none rfl _ _ _) rfl ?_
          refine ⟨rfl, _, HE.out.1, HE.out.2, ?_⟩
          have := HR.out
          simpa using this
end Go.Proofs.Ytdaibmafnamfgaa.Mg
