/-
  The merge of two neighbouring lists of which the first has one version.
-/
import Derived.Test.YtdaibmafnamfgaaMergeInsert
namespace Go.Proofs.Ytdaibmafnamfgaa.Mg
open Go.RowKit Cm Mm
set_option linter.unusedVariables false

theorem move_right {A P Q W : List En} {x y : En} {k : Nat} (hk : A.length + P.length = k) : swp (A ++ (P ++ (x :: ((y :: Q) ++ W)))) k (k + 1) = A ++ ((P ++ [y]) ++ (x :: (Q ++ W))) := by
  have := swp_app (A := A ++ P) (M := []) (Z := Q ++ W) (x := x) (y := y) (i := k) (j := k + 1) (by simp; omega) (by simp)
  simp only [List.append_assoc, List.nil_append, List.cons_append] at this ⊢
  exact this
theorem move_gets {A P W : List En} {x y : En} {k : Nat} (hk : A.length + P.length = k) : (A ++ (P ++ (x :: (y :: W)))).getD k En.zero = x ∧ (A ++ (P ++ (x :: (y :: W)))).getD (k + 1) En.zero = y := by
  constructor
  · have := getD_app (A ++ P) (y :: W) x
    rw [List.length_append, hk] at this
    simpa using this
  · have := getD_app (A ++ P ++ [x]) W y
    rw [List.length_append, List.length_append, hk] at this
    simpa using this
theorem left_done {A R Z : List En} {x : En} {a m b i : Nat} (hR : WS R) (ha : A.length = a) (hm : a + 1 = m) (hb : m + R.length = b) (h1 : m ≤ i) (h2 : i ≤ b)
    (hl : i = m ∨ less ((A ++ ([x] ++ (R ++ Z))).getD (i - 1) En.zero) x = true) (hr : i = b ∨ less ((A ++ ([x] ++ (R ++ Z))).getD i En.zero) x = false) :
    WS (R.take (i - m) ++ x :: R.drop (i - m)) ∧ Stab ([x] ++ R) (R.take (i - m) ++ x :: R.drop (i - m)) := by
  have gx : (A ++ ([x] ++ (R ++ Z))).getD a En.zero = x := by rw [← ha]; exact getD_app _ _ _
  have gm : (A ++ ([x] ++ (R ++ Z))).getD (m - 1) En.zero = x := by
    have : m - 1 = a := by omega
    rw [this]; exact gx
  have s1 := strictly (A := A) (L := [x]) (R := R) (Z := Z) (a := a) (m := m) (b := b) (s := a) (e := i) rfl (WS.one x) hR ha (by simpa using hm) hb ⟨by omega, by omega⟩ ⟨h1, h2⟩ (by
    rcases hl with hl | hl
    · exact .inr (.inl hl)
    · exact .inr (.inr (by rw [gx]; exact hl)))
  have s2 := weakly (A := A) (L := [x]) (R := R) (Z := Z) (a := a) (m := m) (b := b) (s := m) (e := i) rfl (WS.one x) hR ha (by simpa using hm) hb ⟨by omega, by omega⟩ ⟨h1, h2⟩ (by
    rcases hr with hr | hr
    · exact .inr (.inl hr)
    · exact .inr (.inr (by rw [gm]; exact le_iff.2 hr)))
  have e1 : [x].drop (a - a) = [x] := by simp
  have e2 : [x].take (m - a) = [x] := by rw [← hm]; simp
  rw [e1] at s1
  rw [e2] at s2
  have hR2 : WS (R.take (i - m) ++ R.drop (i - m)) := by rw [List.take_append_drop]; exact hR
  have hw2 : WS (x :: R.drop (i - m)) := List.pairwise_cons.2 ⟨fun y hy => s2 x List.mem_cons_self y hy, hR2.append.2.1⟩
  have := merge_done (L1 := []) (L2 := [x]) (R1 := R.take (i - m)) (R2 := R.drop (i - m)) (M1 := R.take (i - m)) (M2 := x :: R.drop (i - m)) (WS.one x) hR2 s1 (fun x hx => by cases hx) hR2.append.1 hw2 (Stab.refl _) (Stab.refl _)
  rw [List.take_append_drop] at this
  exact this

set_option maxRecDepth 100000 in
set_option maxHeartbeats 2000000 in
theorem symLeft_any {B g n cap : Nat} {w0 w : World} {A R Z : List En} {x : En} (h : RowE B g n cap w0 (A ++ ([x] ++ (R ++ Z))) w) (hR : WS R) (a m b : Nat) (ha : A.length = a) (hm : a + 1 = m) (hb : m + R.length = b) (hn : n ≤ 1000000000000) :
    Calls Try.prog 58 #[.slice (some ⟨g, 0, none⟩) n cap, .int .i64 a, .int .i64 m, .int .i64 b, fvE] w fun e w' => e = .returned (.tuple #[]) ∧ ∃ M, WS M ∧ Stab ([x] ++ R) M ∧ RowE B g n cap w0 (A ++ (M ++ Z)) w' := by
  unfold fvE
  have hlen : b + Z.length = n := by rw [← h.len, ← hb, ← hm, ← ha]; simp; omega
  have hbn : b ≤ n := by omega
  have hmb : m ≤ b := by omega
  have han : a < n := by omega
  have HD : Hid (∀ i, m ≤ i → i ≤ b → (i = m ∨ less ((A ++ ([x] ++ (R ++ Z))).getD (i - 1) En.zero) x = true) → (i = b ∨ less ((A ++ ([x] ++ (R ++ Z))).getD i En.zero) x = false) →
      ∃ R1 R2, R1 ++ R2 = R ∧ R1.length = i - m ∧ WS (R1 ++ x :: R2) ∧ Stab ([x] ++ R) (R1 ++ x :: R2)) := fun i h1 h2 hl hr => by
    obtain ⟨d1, d2⟩ := left_done hR ha hm hb h1 h2 hl hr
    exact ⟨_, _, List.take_append_drop _ _, by simp; omega, d1, d2⟩
  have gx : (A ++ ([x] ++ (R ++ Z))).getD a En.zero = x := by rw [← ha]; exact getD_app _ _ _
  have HA : Hid (A.length = a) := ha
  have wm : IntKind.i64.wrap ((m : Int) - (a : Int)) = 1 := by
    have : (m : Int) - (a : Int) = ((1 : Nat) : Int) := by omega
    rw [this]; rfl
  have HR : Hid _ := h
  have HXS : Hid (∀ R1 R2 wq, R1 ++ R2 = R → RowE B g n cap w0 (A ++ ([x] ++ (R ++ Z))) wq → RowE B g n cap w0 (A ++ ([] ++ (x :: (R1 ++ (R2 ++ Z))))) wq) := fun R1 R2 wq e hq => by
    subst e; simpa using hq
  clear h ha hb hlen hR
  generalize hxs : A ++ ([x] ++ (R ++ Z)) = xs at *
  go_enter Try.func58, Try.ntmps58
  go_wp2
  go_loopw [10, 11] (fun vi vj wr => ∃ i j : Nat, vi = .int .i64 i ∧ vj = .int .i64 j ∧ m ≤ i ∧ i ≤ j ∧ j ≤ b ∧ Hid (i = m ∨ less (xs.getD (i - 1) En.zero) x = true) ∧ Hid (j = b ∨ less (xs.getD j En.zero) x = false) ∧ Hid (RowE B g n cap w0 xs wr)) (fun vi vj _ => (intOf vj).toNat - (intOf vi).toNat)
  case atStart => exact ⟨m, b, rfl, rfl, by omega, hmb, by omega, Or.inl rfl, Or.inl rfl, HR⟩
  case round =>
    clear HR
    obtain ⟨i, j, rfl, rfl, h1, h2, h3, HI, HJ, HR⟩ := hrel
    by_cases hlt : i < j
    · obtain ⟨q, hq⟩ : ∃ q, q = (i + j) / 2 := ⟨_, rfl⟩
      have hqn : q < n := by omega
      have he := fun w' (hb : Below wr.heap.size wr w') => HR.out.eight (i := q) (j := a) hqn han hb
      rw [gx] at he
      have HK : Hid _ := he
      obtain ⟨c0, c1, c2, c3, d0, d1, d2, d3⟩ := he wr (Below.refl _ _)
      have HL : Hid (∀ wq, _) := fun wq => cmpE_any (xs.getD q En.zero) x wq
      unfold env at HL
      have HBd : Hid (∀ wq, Below wr.drew.heap.size wr.drew wq → Below wr.heap.size wr wq) := fun wq h => (Below.refl _ _).drew.trans h
      have HRL : Hid (∀ wq, Below wr.heap.size wr wq → RowE B g n cap w0 _ wq) := fun wq h => HR.out.later h
      have hmi : ((i : Int) + (j : Int)) / 2 = (q : Int) := by omega
      have HMI : Hid _ := hmi
      have hq0 : (0 : Int) ≤ (q : Int) := by omega
      have hq1 : (q : Int) < (n : Int) := by omega
      have ha1 : (a : Int) < (n : Int) := by omega
      have HQ : Hid (q = (i + j) / 2) := hq
      have HW : Hid (less (xs.getD q En.zero) x = less (xs.getD q En.zero) x) := rfl
      clear he hmi hq HR HD HXS
      generalize hy : xs.getD q En.zero = y at *
      have HY : Hid _ := hy
      clear hy
      cases hxy : less y x
      · have hcc := cE_not hxy
        have HXY : Hid (q = b ∨ less (xs.getD q En.zero) x = false) := .inr (by rw [HY.out]; exact hxy)
        generalize cE y x = c at *
        clear hxy
        go_wp2_with fail
        rw [HMI.out]
        go_region_held3 (fun w' => w'.cell? ⟨g, q * 4, none⟩ = some (.string y.key) ∧ w'.cell? ⟨g, q * 4 + 1, none⟩ = some (.int .i64 y.seq) ∧ w'.cell? ⟨g, q * 4 + 2, none⟩ = some (.bool y.dead) ∧ w'.cell? ⟨g, q * 4 + 3, none⟩ = some (.string y.val) ∧ w'.cell? ⟨g, a * 4, none⟩ = some (.string x.key) ∧ w'.cell? ⟨g, a * 4 + 1, none⟩ = some (.int .i64 x.seq) ∧ w'.cell? ⟨g, a * 4 + 2, none⟩ = some (.bool x.dead) ∧ w'.cell? ⟨g, a * 4 + 3, none⟩ = some (.string x.val)) (first | with_reducible exact ⟨c0, c1, c2, c3, d0, d1, d2, d3⟩ | exact ⟨c0, c1, c2, c3, d0, d1, d2, d3⟩ | exact HK.out _ hbq)
          ((go_at_call 23; refine (show Calls _ _ _ _ _ from HL.out _).mono ?_; rintro e w2 ⟨rfl, hb2⟩; have hbq := HBd.out w2 hb2))
        have HB2 : Hid _ := hbq
        clear hb2 hbq HBd HK HL c0 c1 c2 c3 d0 d1 d2 d3
        go_wp2
        go_roundw
        case rel => have := HQ.out; exact ⟨i, q, rfl, rfl, h1, by omega, by omega, HI, HXY, HRL.out _ HB2.out⟩
        case measure => have := HQ.out; simp [intOf]; omega
      · have hcc := cE_neg hxy
        have HXY : Hid (q + 1 = m ∨ less (xs.getD (q + 1 - 1) En.zero) x = true) := .inr (by rw [Nat.add_sub_cancel, HY.out]; exact hxy)
        generalize cE y x = c at *
        clear hxy
        go_wp2_with fail
        rw [HMI.out]
        go_region_held3 (fun w' => w'.cell? ⟨g, q * 4, none⟩ = some (.string y.key) ∧ w'.cell? ⟨g, q * 4 + 1, none⟩ = some (.int .i64 y.seq) ∧ w'.cell? ⟨g, q * 4 + 2, none⟩ = some (.bool y.dead) ∧ w'.cell? ⟨g, q * 4 + 3, none⟩ = some (.string y.val) ∧ w'.cell? ⟨g, a * 4, none⟩ = some (.string x.key) ∧ w'.cell? ⟨g, a * 4 + 1, none⟩ = some (.int .i64 x.seq) ∧ w'.cell? ⟨g, a * 4 + 2, none⟩ = some (.bool x.dead) ∧ w'.cell? ⟨g, a * 4 + 3, none⟩ = some (.string x.val)) (first | with_reducible exact ⟨c0, c1, c2, c3, d0, d1, d2, d3⟩ | exact ⟨c0, c1, c2, c3, d0, d1, d2, d3⟩ | exact HK.out _ hbq)
          ((go_at_call 23; refine (show Calls _ _ _ _ _ from HL.out _).mono ?_; rintro e w2 ⟨rfl, hb2⟩; have hbq := HBd.out w2 hb2))
        have HB2 : Hid _ := hbq
        clear hb2 hbq HBd HK HL c0 c1 c2 c3 d0 d1 d2 d3
        go_wp2
        go_roundw
        case rel => have := HQ.out; exact ⟨q + 1, j, by go_num, rfl, by omega, by omega, h3, HXY, HJ, HRL.out _ HB2.out⟩
        case measure => have := HQ.out; simp [intOf]; omega
    · obtain rfl : i = j := by omega
      obtain ⟨R1, R2, e12, hl1, hws, hst⟩ := HD.out i h1 h3 HI.out HJ.out
      have HR1 := HXS.out R1 R2 _ e12 HR.out
      have HE : Hid (WS (R1 ++ x :: R2) ∧ Stab ([x] ++ R) (R1 ++ x :: R2)) := ⟨hws, hst⟩
      have HL1 : Hid (R1.length = i - m) := hl1
      have hir : ¬ (i : Int) < (i : Int) := by omega
      have HRq : Hid _ := HR1
      clear HR1 e12 hws hst hl1 HI HJ HD HXS HR
      generalize wr = X at *
      have wi1 : IntKind.i64.wrap ((i : Int) - 1) = ((i - 1 : Nat) : Int) := wrap_nat (by omega) (by omega)
      go_wp2
      go_loopw [13] (fun vk wr => ∃ (k : Nat) (P Q : List En), vk = .int .i64 k ∧ a ≤ k ∧ k ≤ i - 1 ∧ Hid (P ++ Q = R1) ∧ Hid (a + P.length = k) ∧ Hid (RowE B g n cap w0 (A ++ (P ++ (x :: (Q ++ (R2 ++ Z))))) wr)) (fun vk _ => i - (intOf vk).toNat)
      case atStart => exact ⟨a, [], R1, rfl, by omega, by omega, by show _ = _; rfl, by show _ = _; rfl, HRq⟩
      case round =>
        clear HRq
        obtain ⟨k, P, Q, rfl, hk1, hk2, HPQ, HP, HR⟩ := hrel
        have hL : P.length + Q.length = i - m := by rw [← List.length_append, HPQ.out]; exact HL1.out
        have hP := HP.out
        by_cases hki : k < i - 1
        · obtain ⟨y, Q', rfl⟩ : ∃ y Q', Q = y :: Q' := by
            cases Q with
            | nil => exfalso; simp at hL; omega
            | cons y Q' => exact ⟨y, Q', rfl⟩
          have hPk : A.length + P.length = k := by rw [HA.out]; exact hP
          have hr := HR.out
          obtain ⟨gk, gk1⟩ := move_gets (x := x) (y := y) (W := Q' ++ (R2 ++ Z)) hPk
          have HM := move_right (x := x) (y := y) (Q := Q') (W := R2 ++ Z) hPk
          have hkn : k < n := by omega
          have hkn1 : k + 1 < n := by omega
          have hsw := (hr.swap (i := k) (j := k + 1) hkn hkn1).drew
          obtain ⟨c0, c1, c2, c3⟩ := hr.cells (k := k) hkn
          obtain ⟨d0, d1, d2, d3⟩ := hr.cells (k := k + 1) hkn1
          obtain ⟨f0, f1, f2, f3⟩ := hr.other (i := k) (j := k + 1) hkn hkn1 (by omega) y
          simp only [List.cons_append] at HM hsw c0 c1 c2 c3 d0 d1 d2 d3 f0 f1 f2 f3
          rw [gk, gk1, HM] at hsw
          rw [gk] at c0 c1 c2 c3
          rw [gk1] at d0 d1 d2 d3 f0 f1 f2 f3
          have hfz := hr.frozen
          unfold set4 at f0 f1 f2 f3 hsw
          have HSW : Hid _ := hsw
          have HP2 : Hid (P ++ [y] ++ Q' = R1) := by rw [← HPQ.out]; show _ = _; simp
          have hki' : (k : Int) < ((i - 1 : Nat) : Int) := by omega
          have hkn' : (k : Int) < (n : Int) := by omega
          have wk : IntKind.i64.wrap ((k : Int) + 1) = ((k + 1 : Nat) : Int) := wrap_nat (by omega) (by omega)
          have hkn2 : ((k + 1 : Nat) : Int) < (n : Int) := by omega
          have hP3 : Hid (a + (P ++ [y]).length = k + 1) := by show _ = _; simp; omega
          clear hsw hr HM gk gk1 hPk HR HPQ HP hL hP
          generalize hK : k + 1 = K at *
          have HK : Hid _ := hK
          clear hK
          go_wp2_with fail
          go_region
          go_wp2
          go_roundw
          case rel =>
            clear c0 c1 c2 c3 d0 d1 d2 d3 f0 f1 f2 f3
            have := HK.out
            refine ⟨K, P ++ [y], Q', by first | rfl | (rw [wk]), by omega, by omega, HP2, hP3, ?_⟩
            with_reducible exact HSW
          case measure => have := HK.out; simp [intOf]; omega
        · have hQ : Q = [] := List.length_eq_zero_iff.1 (by omega)
          subst hQ
          have hPR : P = R1 := by have := HPQ.out; simpa using this
          subst hPR
          have hki' : ¬ (k : Int) < ((i - 1 : Nat) : Int) := by omega
          clear hP hL
          go_wp2
          refine bodyPost_ret (results_none rfl _ _ _) rfl ?_
          refine ⟨rfl, _, HE.out.1, HE.out.2, ?_⟩
          have := HR.out
          simpa using this
end Go.Proofs.Ytdaibmafnamfgaa.Mg
