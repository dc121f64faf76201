/-
  The merge of two neighbouring lists: parted, rotated, and each half merged by itself.
-/
import Derived.Test.YtdaibmafnamfgaaMergeSymRight
import Derived.Deep.CutRange
namespace Go.Proofs.Ytdaibmafnamfgaa.Mg
open Go.RowKit Cm Mm
set_option linter.unusedVariables false

def SymPost (B g n cap : Nat) (w0 : World) (A X Z : List En) (w' : World) : Prop := ∃ M, WS M ∧ Stab X M ∧ RowE B g n cap w0 (A ++ (M ++ Z)) w'
def SymOk (B g n cap : Nat) (w0 : World) (N : Nat) : Prop := ∀ (w : World) (A L R Z : List En) (a m b : Nat), RowE B g n cap w0 (A ++ (L ++ (R ++ Z))) w → WS L → WS R → A.length = a → a + L.length = m → m + R.length = b → 0 < L.length → 0 < R.length → b - a ≤ N →
  Calls Try.prog 58 #[.slice (some ⟨g, 0, none⟩) n cap, .int .i64 a, .int .i64 m, .int .i64 b, .func (.func 23) #[] #[]] w fun e w' => e = .returned (.tuple #[]) ∧ SymPost B g n cap w0 A (L ++ R) Z w'
/-- All that follows where the two lists are parted at s and e. -/
structure Tail (B g n cap : Nat) (w0 : World) (A L R Z : List En) (a m b s e mid : Nat) (X1 Y1 : World → Prop) : Prop where
  c1 : s < m → m < e → ∀ wq, RowE B g n cap w0 (A ++ (L ++ (R ++ Z))) wq → Calls Try.prog 64 #[.slice (some ⟨g, 0, none⟩) n cap, .int .i64 s, .int .i64 m, .int .i64 e, .func (.func 23) #[] #[]] wq fun e w' => e = .returned (.tuple #[]) ∧ X1 w'
  n1 : ¬ (s < m ∧ m < e) → ∀ wq, RowE B g n cap w0 (A ++ (L ++ (R ++ Z))) wq → X1 wq
  c2 : a < s → s < mid → ∀ wq, X1 wq → Calls Try.prog 58 #[.slice (some ⟨g, 0, none⟩) n cap, .int .i64 a, .int .i64 s, .int .i64 mid, .func (.func 23) #[] #[]] wq fun e w' => e = .returned (.tuple #[]) ∧ Y1 w'
  n2 : ¬ (a < s ∧ s < mid) → ∀ wq, X1 wq → Y1 wq
  c3 : mid < e → e < b → ∀ wq, Y1 wq → Calls Try.prog 58 #[.slice (some ⟨g, 0, none⟩) n cap, .int .i64 mid, .int .i64 e, .int .i64 b, .func (.func 23) #[] #[]] wq fun e w' => e = .returned (.tuple #[]) ∧ SymPost B g n cap w0 A (L ++ R) Z w'
  n3 : ¬ (mid < e ∧ e < b) → ∀ wq, Y1 wq → SymPost B g n cap w0 A (L ++ R) Z wq
  d1 : ∀ wq, X1 wq → X1 (wq.drewN 0)
theorem sym_tail {B g n cap : Nat} {w0 : World} {N : Nat} (ih : SymOk B g n cap w0 N) (hn : n ≤ 1000000000000) {A L R Z : List En} {a m b s e mid : Nat} (hL : WS L) (hR : WS R) (ha : A.length = a) (hm : a + L.length = m) (hb : m + R.length = b)
    (hs : a ≤ s ∧ s ≤ m) (he : m ≤ e ∧ e ≤ b) (hmid : s + e = mid + m) (h1 : a < mid) (h2 : mid < b) (hN : b - a ≤ N + 1)
    (hst : s = m ∨ e = m ∨ less ((A ++ (L ++ (R ++ Z))).getD (e - 1) En.zero) ((A ++ (L ++ (R ++ Z))).getD s En.zero) = true)
    (hwk : s = a ∨ e = b ∨ le ((A ++ (L ++ (R ++ Z))).getD (s - 1) En.zero) ((A ++ (L ++ (R ++ Z))).getD e En.zero) = true) :
    ∃ X1 Y1, Tail B g n cap w0 A L R Z a m b s e mid X1 Y1 := by
  have k1 := strictly (A := A) (L := L) (R := R) (Z := Z) (s := s) (e := e) rfl hL hR ha hm hb hs he hst
  have k2 := weakly (A := A) (L := L) (R := R) (Z := Z) (s := s) (e := e) rfl hL hR ha hm hb hs he hwk
  obtain ⟨L1, hL1⟩ : ∃ x, x = L.take (s - a) := ⟨_, rfl⟩
  obtain ⟨L2, hL2⟩ : ∃ x, x = L.drop (s - a) := ⟨_, rfl⟩
  obtain ⟨R1, hR1⟩ : ∃ x, x = R.take (e - m) := ⟨_, rfl⟩
  obtain ⟨R2, hR2⟩ : ∃ x, x = R.drop (e - m) := ⟨_, rfl⟩
  have l1 : L1.length = s - a := by rw [hL1]; simp; omega
  have l2 : L2.length = m - s := by rw [hL2]; simp; omega
  have r1 : R1.length = e - m := by rw [hR1]; simp; omega
  have r2 : R2.length = b - e := by rw [hR2]; simp; omega
  have eL : L = L1 ++ L2 := by rw [hL1, hL2, List.take_append_drop]
  have eR : R = R1 ++ R2 := by rw [hR1, hR2, List.take_append_drop]
  rw [← hL2, ← hR1] at k1
  rw [← hL1, ← hR2] at k2
  clear hL1 hL2 hR1 hR2
  subst eL eR
  obtain ⟨wL1, wL2, _⟩ := hL.append
  obtain ⟨wR1, wR2, _⟩ := hR.append
  simp only [List.length_append] at hm hb
  have eX : (A ++ L1) ++ (R1 ++ (L2 ++ (R2 ++ Z))) = A ++ (L1 ++ (R1 ++ (L2 ++ (R2 ++ Z)))) := by simp
  have e0 : A ++ ((L1 ++ L2) ++ ((R1 ++ R2) ++ Z)) = (A ++ L1) ++ (L2 ++ (R1 ++ (R2 ++ Z))) := by simp
  refine ⟨RowE B g n cap w0 (A ++ (L1 ++ (R1 ++ (L2 ++ (R2 ++ Z))))), SymPost B g n cap w0 A (L1 ++ R1) (L2 ++ (R2 ++ Z)), ⟨fun p q wq hr => ?_, fun p wq hr => ?_, fun p q wq hr => ?_, fun p wq hr => ?_, fun p q wq hr => ?_, fun p wq hr => ?_, fun wq hr => hr.drewN 0⟩⟩
  · rw [e0] at hr
    rw [← eX]
    exact rotate_any hr s m e (by simp; omega) (by omega) (by omega) (by omega) (by omega) hn _
  · rw [e0] at hr
    rw [← eX]
    have : L2 = [] ∨ R1 = [] := by
      by_cases h : s < m
      · exact .inr (List.length_eq_zero_iff.1 (by omega))
      · exact .inl (List.length_eq_zero_iff.1 (by omega))
    rcases this with rfl | rfl
    · simpa using hr
    · simpa using hr
  · exact ih wq A L1 R1 (L2 ++ (R2 ++ Z)) a s mid hr wL1 wR1 ha (by omega) (by omega) (by omega) (by omega) (by omega)
  · refine ⟨L1 ++ R1, ws_two wL1 wR1 ?_, Stab.refl _, by simpa using hr⟩
    by_cases h : a < s
    · exact .inr (List.length_eq_zero_iff.1 (by omega))
    · exact .inl (List.length_eq_zero_iff.1 (by omega))
  · obtain ⟨M1, w1, s1, h1⟩ := hr
    have hl := s1.len
    rw [List.length_append] at hl
    have h1' : RowE B g n cap w0 ((A ++ M1) ++ (L2 ++ (R2 ++ Z))) wq := by simpa using h1
    refine (ih wq (A ++ M1) L2 R2 Z mid e b h1' wL2 wR2 (by simp; omega) (by omega) (by omega) (by omega) (by omega) (by omega)).mono ?_
    rintro e w' ⟨rfl, M2, w2, s2, h2⟩
    obtain ⟨d1, d2⟩ := merge_done hL hR k1 k2 w1 w2 s1 s2
    exact ⟨rfl, M1 ++ M2, d1, d2, by simpa using h2⟩
  · obtain ⟨M1, w1, s1, h1⟩ := hr
    have w2 : WS (L2 ++ R2) := ws_two wL2 wR2 (by
      by_cases h : mid < e
      · exact .inr (List.length_eq_zero_iff.1 (by omega))
      · exact .inl (List.length_eq_zero_iff.1 (by omega)))
    obtain ⟨d1, d2⟩ := merge_done hL hR k1 k2 w1 w2 s1 (Stab.refl _)
    exact ⟨M1 ++ (L2 ++ R2), d1, d2, by simpa using h1⟩

set_option maxRecDepth 100000 in
set_option maxHeartbeats 4000000 in
theorem symMain_any {B g n cap : Nat} {w0 w : World} {N : Nat} (ih : SymOk B g n cap w0 N) (hn : n ≤ 1000000000000) {A L R Z : List En} {a m b : Nat} (h : RowE B g n cap w0 (A ++ (L ++ (R ++ Z))) w) (hL : WS L) (hR : WS R) (ha : A.length = a) (hm : a + L.length = m) (hb : m + R.length = b) (h2L : 2 ≤ L.length) (h2R : 2 ≤ R.length) (hN : b - a ≤ N + 1) :
    Calls Try.prog 58 #[.slice (some ⟨g, 0, none⟩) n cap, .int .i64 a, .int .i64 m, .int .i64 b, .func (.func 23) #[] #[]] w fun e w' => e = .returned (.tuple #[]) ∧ SymPost B g n cap w0 A (L ++ R) Z w' := by
  obtain ⟨mid, hmid⟩ : ∃ mid, mid = (a + b) / 2 := ⟨_, rfl⟩
  obtain ⟨sum, hsum⟩ : ∃ sum, sum = mid + m := ⟨_, rfl⟩
  have hlen : b + Z.length = n := by rw [← h.len, ← hb, ← hm, ← ha]; simp; omega
  have hbn : b ≤ n := by omega
  have HT : Hid (∀ s e, a ≤ s → s ≤ m → m ≤ e → e ≤ b → s + e = sum → (s = m ∨ e = m ∨ less ((A ++ (L ++ (R ++ Z))).getD (e - 1) En.zero) ((A ++ (L ++ (R ++ Z))).getD s En.zero) = true) → (s = a ∨ e = b ∨ le ((A ++ (L ++ (R ++ Z))).getD (s - 1) En.zero) ((A ++ (L ++ (R ++ Z))).getD e En.zero) = true) →
      ∃ X1 Y1, Tail B g n cap w0 A L R Z a m b s e mid X1 Y1) := fun s e h1 h2 h3 h4 h5 h6 h7 =>
    sym_tail ih hn hL hR ha hm hb ⟨h1, h2⟩ ⟨h3, h4⟩ (by omega) (by omega) (by omega) hN h6 h7
  have HR : Hid _ := h
  have ham : a + 2 ≤ m := by omega
  have hmb : m + 2 ≤ b := by omega
  clear h hL hR ha hm hb h2L h2R hN hlen ih
  generalize hxs : A ++ (L ++ (R ++ Z)) = xs at *
  have HXS : Hid _ := hxs
  clear hxs
  have w1 : IntKind.i64.wrap ((m : Int) - (a : Int)) = ((m - a : Nat) : Int) := wrap_nat (by omega) (by omega)
  have w2 : IntKind.i64.wrap ((b : Int) - (m : Int)) = ((b - m : Nat) : Int) := wrap_nat (by omega) (by omega)
  have q1 : (((m - a : Nat) : Int) == 1) = false := by simp; omega
  have q2 : (((b - m : Nat) : Int) == 1) = false := by simp; omega
  have w3 : ((a : Int) + (b : Int)) / 2 = (mid : Int) := by omega
  have HW3 : Hid _ := w3
  have w4 : True := trivial
  have hmb1 : mid < b := by omega
  have ham1 : a < mid := by omega
  have HSUM : Hid _ := hsum
  have hsum2 : sum ≤ 2000000000000 := by omega
  have hsum1 : m + mid = sum := by omega
  have HCASE : Hid (m > mid ∨ m ≤ mid) := by show _ ∨ _; omega
  have HMID : Hid (mid < m → sum ≤ b + (sum - b) ∧ a ≤ sum - b ∧ b ≤ sum ∧ sum - b ≤ mid) := fun h => by omega
  have HMID2 : Hid (m ≤ mid → sum ≤ b + a) := fun h => by omega
  have HS4 : Hid ((mid : Int) + (m : Int) = (sum : Int)) := by show _ = _; omega
  obtain ⟨p, hp1⟩ : ∃ p, p + 1 = sum := ⟨sum - 1, by omega⟩
  have HP1 : Hid ((sum : Int) - 1 = (p : Int)) := by show _ = _; omega
  clear hmid w3 hsum w4
  generalize hma : m - a = ma at *
  generalize hbm : b - m = bm at *
  clear hma hbm
  go_enter Try.func58, Try.ntmps58
  go_upto_if 140 with fail
  rw [HW3.out]
  go_cut [19, 20, 21] from 25 (fun vn vs vr wx => wx = w ∧ vn = .int .i64 sum ∧ ∃ s r : Nat, vs = .int .i64 s ∧ vr = .int .i64 r ∧ a ≤ s ∧ s ≤ r ∧ r ≤ m ∧ sum ≤ b + s ∧ m + r ≤ sum ∧ Hid (s = a ∨ sum = b + s) ∧ Hid (r = m ∨ sum = m + r))
  case first =>
    by_cases hc : mid < m
    · have hc' : (mid : Int) < (m : Int) := by omega
      obtain ⟨x1, x2, x3, x4⟩ := HMID.out hc
      have w5 : (mid : Int) + (m : Int) - (b : Int) = ((sum - b : Nat) : Int) := by omega
      go_wp2
      go_meet
      case rel => exact ⟨rfl, by first | rfl | (rw [HS4.out]), sum - b, mid, by first | rfl | (rw [w5]), rfl, by omega, by omega, by omega, by omega, by omega, .inr (by omega), .inr (by omega)⟩
    · have hc' : ¬ (mid : Int) < (m : Int) := by omega
      have hc2 : decide ((mid : Int) < (m : Int)) = false := decide_eq_false hc'
      have x1 := HMID2.out (by omega)
      go_wp2
      go_meet
      case rel => exact ⟨rfl, by first | rfl | (rw [HS4.out]), a, m, rfl, rfl, by omega, by omega, by omega, by omega, by omega, .inl rfl, .inl rfl⟩
  case rest =>
    obtain ⟨rfl, rfl, lo, hi, rfl, rfl, hlo1, hlo2, hlo3, hlo4, hlo5, HLO, HHI⟩ := hcut
    clear HCASE HMID HMID2 w1 w2 q1 q2
    go_wp2
    rw [HP1.out]
    go_loopw [20, 21] (fun vs vr wr => ∃ s r : Nat, vs = .int .i64 s ∧ vr = .int .i64 r ∧ lo ≤ s ∧ s ≤ r ∧ r ≤ hi ∧ Hid (s = lo ∨ less (xs.getD (sum - s) En.zero) (xs.getD (s - 1) En.zero) = false) ∧ Hid (r = hi ∨ less (xs.getD (sum - 1 - r) En.zero) (xs.getD r En.zero) = true) ∧ Hid (RowE B g n cap w0 xs wr)) (fun vs vr _ => (intOf vr).toNat - (intOf vs).toNat)
    case atStart => exact ⟨lo, hi, rfl, rfl, by omega, by omega, by omega, Or.inl rfl, Or.inl rfl, HR⟩
    case round =>
      clear HR
      obtain ⟨s, r, rfl, rfl, h1, h2, h3, HS, HRr, HR⟩ := hrel
      by_cases hlt : s < r
      · obtain ⟨c, hc⟩ : ∃ c, c = (s + r) / 2 := ⟨_, rfl⟩
        obtain ⟨d, hd⟩ : ∃ d, d = sum - 1 - c := ⟨_, rfl⟩
        have hcn : c < n := by omega
        have hdn : d < n := by omega
        have he := fun w' (hb : Below wr.heap.size wr w') => HR.out.eight (i := d) (j := c) hdn hcn hb
        have HK : Hid _ := he
        obtain ⟨c0, c1, c2, c3, d0, d1, d2, d3⟩ := he wr (Below.refl _ _)
        have HL : Hid (∀ wq, _) := fun wq => cmpE_any (xs.getD d En.zero) (xs.getD c En.zero) wq
        unfold env at HL
        have HBd : Hid (∀ wq, Below wr.drew.heap.size wr.drew wq → Below wr.heap.size wr wq) := fun wq h => (Below.refl _ _).drew.trans h
        have HRL : Hid (∀ wq, Below wr.heap.size wr wq → RowE B g n cap w0 _ wq) := fun wq h => HR.out.later h
        have hmi : ((s : Int) + (r : Int)) / 2 = (c : Int) := by omega
        have HMI : Hid _ := hmi
        have hq0 : (0 : Int) ≤ (c : Int) := by omega
        have hq1 : (c : Int) < (n : Int) := by omega
        have hd0 : (0 : Int) ≤ (d : Int) := by omega
        have hd1 : (d : Int) < (n : Int) := by omega
        have wpc : IntKind.i64.wrap ((p : Int) - (c : Int)) = (d : Int) := wrap_nat (by omega) (by omega)

        have HC : Hid (c = (s + r) / 2) := hc
        have HDD : Hid (d = sum - 1 - c) := hd
        clear he hmi hc HR HT HXS hd HLO HHI hsum1 hmb1 ham1 hp1
        generalize hy : xs.getD d En.zero = y at *
        generalize hx : xs.getD c En.zero = x at *
        have HY : Hid _ := hy
        have HX : Hid _ := hx
        clear hy hx
        cases hxy : less y x
        · have hcc := cE_not hxy
          have HXY : Hid (c + 1 = lo ∨ less (xs.getD (sum - (c + 1)) En.zero) (xs.getD (c + 1 - 1) En.zero) = false) := .inr (by
            have e1 : sum - (c + 1) = d := by rw [HDD.out]; omega
            rw [Nat.add_sub_cancel, e1, HY.out, HX.out]; exact hxy)
          generalize cE y x = k at *
          clear hxy
          have hnc : (!decide (k < 0)) = true := by simp [hcc]
          go_wp2_with fail
          rw [HMI.out]
          go_region_held3 (fun w' => w'.cell? ⟨g, d * 4, none⟩ = some (.string y.key) ∧ w'.cell? ⟨g, d * 4 + 1, none⟩ = some (.int .i64 y.seq) ∧ w'.cell? ⟨g, d * 4 + 2, none⟩ = some (.bool y.dead) ∧ w'.cell? ⟨g, d * 4 + 3, none⟩ = some (.string y.val) ∧ w'.cell? ⟨g, c * 4, none⟩ = some (.string x.key) ∧ w'.cell? ⟨g, c * 4 + 1, none⟩ = some (.int .i64 x.seq) ∧ w'.cell? ⟨g, c * 4 + 2, none⟩ = some (.bool x.dead) ∧ w'.cell? ⟨g, c * 4 + 3, none⟩ = some (.string x.val)) (first | with_reducible exact ⟨c0, c1, c2, c3, d0, d1, d2, d3⟩ | exact ⟨c0, c1, c2, c3, d0, d1, d2, d3⟩ | exact HK.out _ hbq)
            ((go_at_call 23; refine (show Calls _ _ _ _ _ from HL.out _).mono ?_; rintro e w2 ⟨rfl, hb2⟩; have hbq := HBd.out w2 hb2))
          have HB2 : Hid _ := hbq
          clear hb2 hbq HBd HK HL c0 c1 c2 c3 d0 d1 d2 d3
          go_wp2
          go_roundw
          case rel => have := HC.out; exact ⟨c + 1, r, by go_num, rfl, by omega, by omega, h3, HXY, HRr, HRL.out _ HB2.out⟩
          case measure => have := HC.out; simp [intOf]; omega
        · have hcc := cE_neg hxy
          have HXY : Hid (c = hi ∨ less (xs.getD (sum - 1 - c) En.zero) (xs.getD c En.zero) = true) := .inr (by rw [← HDD.out, HY.out, HX.out]; exact hxy)
          generalize cE y x = k at *
          clear hxy
          go_wp2_with fail
          rw [HMI.out]
          go_region_held3 (fun w' => w'.cell? ⟨g, d * 4, none⟩ = some (.string y.key) ∧ w'.cell? ⟨g, d * 4 + 1, none⟩ = some (.int .i64 y.seq) ∧ w'.cell? ⟨g, d * 4 + 2, none⟩ = some (.bool y.dead) ∧ w'.cell? ⟨g, d * 4 + 3, none⟩ = some (.string y.val) ∧ w'.cell? ⟨g, c * 4, none⟩ = some (.string x.key) ∧ w'.cell? ⟨g, c * 4 + 1, none⟩ = some (.int .i64 x.seq) ∧ w'.cell? ⟨g, c * 4 + 2, none⟩ = some (.bool x.dead) ∧ w'.cell? ⟨g, c * 4 + 3, none⟩ = some (.string x.val)) (first | with_reducible exact ⟨c0, c1, c2, c3, d0, d1, d2, d3⟩ | exact ⟨c0, c1, c2, c3, d0, d1, d2, d3⟩ | exact HK.out _ hbq)
            ((go_at_call 23; refine (show Calls _ _ _ _ _ from HL.out _).mono ?_; rintro e w2 ⟨rfl, hb2⟩; have hbq := HBd.out w2 hb2))
          have HB2 : Hid _ := hbq
          clear hb2 hbq HBd HK HL c0 c1 c2 c3 d0 d1 d2 d3
          go_wp2
          go_roundw
          case rel => have := HC.out; exact ⟨s, c, rfl, rfl, h1, by omega, by omega, HS, HXY, HRL.out _ HB2.out⟩
          case measure => have := HC.out; simp [intOf]; omega
      · obtain rfl : s = r := by omega
        obtain ⟨e, he⟩ : ∃ e, e = sum - s := ⟨_, rfl⟩
        have hirr : ¬ (s : Int) < (s : Int) := by omega
        obtain ⟨X1, Y1, T⟩ := HT.out s e (by omega) (by omega) (by omega) (by omega) (by omega)
          (by
            rcases HRr.out with hh | hh
            · rcases HHI.out with hk | hk
              · exact .inl (by omega)
              · exact .inr (.inl (by omega))
            · refine .inr (.inr ?_)
              have e1 : e - 1 = sum - 1 - s := by omega
              rw [e1]; exact hh)
          (by
            rcases HS.out with hh | hh
            · rcases HLO.out with hk | hk
              · exact .inl (by omega)
              · exact .inr (.inl (by omega))
            · refine .inr (.inr (le_iff.2 ?_))
              rw [he]; exact hh)
        have HSE : Hid (wrap64 ((sum : Int) - (s : Int)) = (e : Int)) := by show _ = _; unfold wrap64; omega
        have k1 := T.c1
        have k2 := T.n1
        have k3 := T.c2
        have k4 := T.n2
        have k5 := T.c3
        have k6 := T.n3
        rw [HXS.out] at k1 k2
        have K1 : Hid _ := k1
        have K2 : Hid _ := k2
        have K3 : Hid _ := k3
        have K4 : Hid _ := k4
        have K5 : Hid _ := k5
        have K6 : Hid _ := k6
        have HEQ : Hid (s + e = mid + m) := by show _ = _; omega
        clear k1 k2 k3 k4 k5 k6 T HT HXS HS HRr HLO HHI hlo1 hlo2 hlo3 hlo4 hlo5 h1 h2 h3 he hsum1 hlt hp1
        go_upto_region 39 with fail
        rw [HSE.out]
        have HEQ2 := HEQ.out
        by_cases hp : s < m
        · by_cases hq : m < e
          · by_cases hr : a < s
            · by_cases ht : e < b
              · have f1 : (s : Int) < (m : Int) := by omega
                have f2 : (mid : Int) < (e : Int) := by omega
                have f3 : (m : Int) < (e : Int) := by omega
                have f4 : (s : Int) < (mid : Int) := by omega
                have f5 : (a : Int) < (s : Int) := by omega
                have f6 : (e : Int) < (b : Int) := by omega
                have HP : Hid _ := hp
                have HQ : Hid _ := hq
                have HA : Hid _ := hr
                have HB : Hid _ := ht
                clear hp hq hr ht
                go_upto_region 43 with (first | (go_at_call 64; refine (show Calls _ _ _ _ _ from K1.out HP.out HQ.out _ HR.out).mono ?_; rintro e1 w1 ⟨rfl, hr1⟩; have HX1 : Hid _ := hr1; clear hr1) | (go_at_call 58; refine (show Calls _ _ _ _ _ from K3.out HA.out (by have := HQ.out; have := HEQ.out; omega) _ HX1.out).mono ?_; rintro e2 w2 ⟨rfl, hr2⟩; have HY1 : Hid _ := hr2; clear hr2))
                go_wp2_with ((go_at_call 58; refine (show Calls _ _ _ _ _ from K5.out (by have := HP.out; have := HEQ.out; omega) HB.out _ HY1.out).mono ?_; rintro e3 w3 ⟨rfl, hr3⟩; have HZ1 : Hid _ := hr3; clear hr3))
                go_end0
                exact ⟨rfl, HZ1.out⟩
              · have f1 : (s : Int) < (m : Int) := by omega
                have f2 : (mid : Int) < (e : Int) := by omega
                have f3 : (m : Int) < (e : Int) := by omega
                have f4 : (s : Int) < (mid : Int) := by omega
                have f5 : (a : Int) < (s : Int) := by omega
                have f6 : ¬ (e : Int) < (b : Int) := by omega
                have HP : Hid _ := hp
                have HQ : Hid _ := hq
                have HA : Hid _ := hr
                have HB : Hid _ := ht
                clear hp hq hr ht
                go_upto_region 43 with (first | (go_at_call 64; refine (show Calls _ _ _ _ _ from K1.out HP.out HQ.out _ HR.out).mono ?_; rintro e1 w1 ⟨rfl, hr1⟩; have HX1 : Hid _ := hr1; clear hr1) | (go_at_call 58; refine (show Calls _ _ _ _ _ from K3.out HA.out (by have := HQ.out; have := HEQ.out; omega) _ HX1.out).mono ?_; rintro e2 w2 ⟨rfl, hr2⟩; have HY1 : Hid _ := hr2; clear hr2))
                go_wp2
                go_end0
                have HZ1 : Hid _ := K6.out (by have := HP.out; have := HB.out; have := HEQ.out; omega) _ HY1.out
                exact ⟨rfl, HZ1.out⟩
            · by_cases ht : e < b
              · have f1 : (s : Int) < (m : Int) := by omega
                have f2 : (mid : Int) < (e : Int) := by omega
                have f3 : (m : Int) < (e : Int) := by omega
                have f4 : (s : Int) < (mid : Int) := by omega
                have f5 : ¬ (a : Int) < (s : Int) := by omega
                have f6 : (e : Int) < (b : Int) := by omega
                have HP : Hid _ := hp
                have HQ : Hid _ := hq
                have HA : Hid _ := hr
                have HB : Hid _ := ht
                clear hp hq hr ht
                go_upto_region 43 with (first | (go_at_call 64; refine (show Calls _ _ _ _ _ from K1.out HP.out HQ.out _ HR.out).mono ?_; rintro e1 w1 ⟨rfl, hr1⟩; have HX1 : Hid _ := hr1; clear hr1; have HY1 : Hid _ := K4.out (by have := HQ.out; have := HA.out; have := HEQ.out; omega) _ HX1.out))
                go_wp2_with ((go_at_call 58; refine (show Calls _ _ _ _ _ from K5.out (by have := HP.out; have := HEQ.out; omega) HB.out _ HY1.out).mono ?_; rintro e3 w3 ⟨rfl, hr3⟩; have HZ1 : Hid _ := hr3; clear hr3))
                go_end0
                exact ⟨rfl, HZ1.out⟩
              · have f1 : (s : Int) < (m : Int) := by omega
                have f2 : (mid : Int) < (e : Int) := by omega
                have f3 : (m : Int) < (e : Int) := by omega
                have f4 : (s : Int) < (mid : Int) := by omega
                have f5 : ¬ (a : Int) < (s : Int) := by omega
                have f6 : ¬ (e : Int) < (b : Int) := by omega
                have HP : Hid _ := hp
                have HQ : Hid _ := hq
                have HA : Hid _ := hr
                have HB : Hid _ := ht
                clear hp hq hr ht
                go_upto_region 43 with (first | (go_at_call 64; refine (show Calls _ _ _ _ _ from K1.out HP.out HQ.out _ HR.out).mono ?_; rintro e1 w1 ⟨rfl, hr1⟩; have HX1 : Hid _ := hr1; clear hr1; have HY1 : Hid _ := K4.out (by have := HQ.out; have := HA.out; have := HEQ.out; omega) _ HX1.out))
                go_wp2
                go_end0
                have HZ1 : Hid _ := K6.out (by have := HP.out; have := HB.out; have := HEQ.out; omega) _ HY1.out
                exact ⟨rfl, HZ1.out⟩
          · by_cases hr : a < s
            · by_cases ht : e < b
              · have f1 : (s : Int) < (m : Int) := by omega
                have f2 : (mid : Int) < (e : Int) := by omega
                have f3 : ¬ (m : Int) < (e : Int) := by omega
                have f4 : ¬ (s : Int) < (mid : Int) := by omega
                have f5 : (a : Int) < (s : Int) := by omega
                have f6 : (e : Int) < (b : Int) := by omega
                have HP : Hid _ := hp
                have HQ : Hid _ := hq
                have HA : Hid _ := hr
                have HB : Hid _ := ht
                clear hp hq hr ht
                have HX1 : Hid _ := K2.out (by have := HP.out; have := HQ.out; omega) _ HR.out
                have HY1 : Hid _ := K4.out (by have := HQ.out; have := HA.out; have := HEQ.out; omega) _ HX1.out
                go_upto_region 43 with fail
                go_wp2_with ((go_at_call 58; refine (show Calls _ _ _ _ _ from K5.out (by have := HP.out; have := HEQ.out; omega) HB.out _ HY1.out).mono ?_; rintro e3 w3 ⟨rfl, hr3⟩; have HZ1 : Hid _ := hr3; clear hr3))
                go_end0
                exact ⟨rfl, HZ1.out⟩
              · have f1 : (s : Int) < (m : Int) := by omega
                have f2 : (mid : Int) < (e : Int) := by omega
                have f3 : ¬ (m : Int) < (e : Int) := by omega
                have f4 : ¬ (s : Int) < (mid : Int) := by omega
                have f5 : (a : Int) < (s : Int) := by omega
                have f6 : ¬ (e : Int) < (b : Int) := by omega
                have HP : Hid _ := hp
                have HQ : Hid _ := hq
                have HA : Hid _ := hr
                have HB : Hid _ := ht
                clear hp hq hr ht
                have HX1 : Hid _ := K2.out (by have := HP.out; have := HQ.out; omega) _ HR.out
                have HY1 : Hid _ := K4.out (by have := HQ.out; have := HA.out; have := HEQ.out; omega) _ HX1.out
                go_upto_region 43 with fail
                go_wp2
                go_end0
                have HZ1 : Hid _ := K6.out (by have := HP.out; have := HB.out; have := HEQ.out; omega) _ HY1.out
                exact ⟨rfl, HZ1.out⟩
            · by_cases ht : e < b
              · have f1 : (s : Int) < (m : Int) := by omega
                have f2 : (mid : Int) < (e : Int) := by omega
                have f3 : ¬ (m : Int) < (e : Int) := by omega
                have f4 : ¬ (s : Int) < (mid : Int) := by omega
                have f5 : ¬ (a : Int) < (s : Int) := by omega
                have f6 : (e : Int) < (b : Int) := by omega
                have HP : Hid _ := hp
                have HQ : Hid _ := hq
                have HA : Hid _ := hr
                have HB : Hid _ := ht
                clear hp hq hr ht
                have HX1 : Hid _ := K2.out (by have := HP.out; have := HQ.out; omega) _ HR.out
                have HY1 : Hid _ := K4.out (by have := HQ.out; have := HA.out; have := HEQ.out; omega) _ HX1.out
                go_upto_region 43 with fail
                go_wp2_with ((go_at_call 58; refine (show Calls _ _ _ _ _ from K5.out (by have := HP.out; have := HEQ.out; omega) HB.out _ HY1.out).mono ?_; rintro e3 w3 ⟨rfl, hr3⟩; have HZ1 : Hid _ := hr3; clear hr3))
                go_end0
                exact ⟨rfl, HZ1.out⟩
              · have f1 : (s : Int) < (m : Int) := by omega
                have f2 : (mid : Int) < (e : Int) := by omega
                have f3 : ¬ (m : Int) < (e : Int) := by omega
                have f4 : ¬ (s : Int) < (mid : Int) := by omega
                have f5 : ¬ (a : Int) < (s : Int) := by omega
                have f6 : ¬ (e : Int) < (b : Int) := by omega
                have HP : Hid _ := hp
                have HQ : Hid _ := hq
                have HA : Hid _ := hr
                have HB : Hid _ := ht
                clear hp hq hr ht
                have HX1 : Hid _ := K2.out (by have := HP.out; have := HQ.out; omega) _ HR.out
                have HY1 : Hid _ := K4.out (by have := HQ.out; have := HA.out; have := HEQ.out; omega) _ HX1.out
                go_upto_region 43 with fail
                go_wp2
                go_end0
                have HZ1 : Hid _ := K6.out (by have := HP.out; have := HB.out; have := HEQ.out; omega) _ HY1.out
                exact ⟨rfl, HZ1.out⟩
        · by_cases hq : m < e
          · by_cases hr : a < s
            · by_cases ht : e < b
              · have f1 : ¬ (s : Int) < (m : Int) := by omega
                have f2 : ¬ (mid : Int) < (e : Int) := by omega
                have f3 : (m : Int) < (e : Int) := by omega
                have f4 : (s : Int) < (mid : Int) := by omega
                have f5 : (a : Int) < (s : Int) := by omega
                have f6 : (e : Int) < (b : Int) := by omega
                have HP : Hid _ := hp
                have HQ : Hid _ := hq
                have HA : Hid _ := hr
                have HB : Hid _ := ht
                clear hp hq hr ht
                have HX1 : Hid _ := K2.out (by have := HP.out; have := HQ.out; omega) _ HR.out
                go_upto_region 43 with (first | (go_at_call 58; refine (show Calls _ _ _ _ _ from K3.out HA.out (by have := HQ.out; have := HEQ.out; omega) _ HX1.out).mono ?_; rintro e2 w2 ⟨rfl, hr2⟩; have HY1 : Hid _ := hr2; clear hr2))
                go_wp2
                go_end0
                have HZ1 : Hid _ := K6.out (by have := HP.out; have := HB.out; have := HEQ.out; omega) _ HY1.out
                exact ⟨rfl, HZ1.out⟩
              · have f1 : ¬ (s : Int) < (m : Int) := by omega
                have f2 : ¬ (mid : Int) < (e : Int) := by omega
                have f3 : (m : Int) < (e : Int) := by omega
                have f4 : (s : Int) < (mid : Int) := by omega
                have f5 : (a : Int) < (s : Int) := by omega
                have f6 : ¬ (e : Int) < (b : Int) := by omega
                have HP : Hid _ := hp
                have HQ : Hid _ := hq
                have HA : Hid _ := hr
                have HB : Hid _ := ht
                clear hp hq hr ht
                have HX1 : Hid _ := K2.out (by have := HP.out; have := HQ.out; omega) _ HR.out
                go_upto_region 43 with (first | (go_at_call 58; refine (show Calls _ _ _ _ _ from K3.out HA.out (by have := HQ.out; have := HEQ.out; omega) _ HX1.out).mono ?_; rintro e2 w2 ⟨rfl, hr2⟩; have HY1 : Hid _ := hr2; clear hr2))
                first | (go_wp2; done) | (go_wp2; go_end0; have HZ1 : Hid _ := K6.out (by have := HP.out; have := HB.out; have := HEQ.out; omega) _ HY1.out; exact ⟨rfl, HZ1.out⟩)
            · by_cases ht : e < b
              · have f1 : ¬ (s : Int) < (m : Int) := by omega
                have f2 : ¬ (mid : Int) < (e : Int) := by omega
                have f3 : (m : Int) < (e : Int) := by omega
                have f4 : (s : Int) < (mid : Int) := by omega
                have f5 : ¬ (a : Int) < (s : Int) := by omega
                have f6 : (e : Int) < (b : Int) := by omega
                have HP : Hid _ := hp
                have HQ : Hid _ := hq
                have HA : Hid _ := hr
                have HB : Hid _ := ht
                clear hp hq hr ht
                have HX1 : Hid _ := K2.out (by have := HP.out; have := HQ.out; omega) _ HR.out
                have HY1 : Hid _ := K4.out (by have := HQ.out; have := HA.out; have := HEQ.out; omega) _ HX1.out
                go_upto_region 43 with fail
                go_wp2
                go_end0
                have HZ1 : Hid _ := K6.out (by have := HP.out; have := HB.out; have := HEQ.out; omega) _ HY1.out
                exact ⟨rfl, HZ1.out⟩
              · have f1 : ¬ (s : Int) < (m : Int) := by omega
                have f2 : ¬ (mid : Int) < (e : Int) := by omega
                have f3 : (m : Int) < (e : Int) := by omega
                have f4 : (s : Int) < (mid : Int) := by omega
                have f5 : ¬ (a : Int) < (s : Int) := by omega
                have f6 : ¬ (e : Int) < (b : Int) := by omega
                have HP : Hid _ := hp
                have HQ : Hid _ := hq
                have HA : Hid _ := hr
                have HB : Hid _ := ht
                clear hp hq hr ht
                have HX1 : Hid _ := K2.out (by have := HP.out; have := HQ.out; omega) _ HR.out
                have HY1 : Hid _ := K4.out (by have := HQ.out; have := HA.out; have := HEQ.out; omega) _ HX1.out
                go_upto_region 43 with fail
                first | (go_wp2; done) | (go_wp2; go_end0; have HZ1 : Hid _ := K6.out (by have := HP.out; have := HB.out; have := HEQ.out; omega) _ HY1.out; exact ⟨rfl, HZ1.out⟩)
          · by_cases hr : a < s
            · by_cases ht : e < b
              · have f1 : ¬ (s : Int) < (m : Int) := by omega
                have f2 : ¬ (mid : Int) < (e : Int) := by omega
                have f3 : ¬ (m : Int) < (e : Int) := by omega
                have f4 : ¬ (s : Int) < (mid : Int) := by omega
                have f5 : (a : Int) < (s : Int) := by omega
                have f6 : (e : Int) < (b : Int) := by omega
                have HP : Hid _ := hp
                have HQ : Hid _ := hq
                have HA : Hid _ := hr
                have HB : Hid _ := ht
                clear hp hq hr ht
                have HX1 : Hid _ := K2.out (by have := HP.out; have := HQ.out; omega) _ HR.out
                have HY1 : Hid _ := K4.out (by have := HQ.out; have := HA.out; have := HEQ.out; omega) _ HX1.out
                go_upto_region 43 with fail
                go_wp2
                go_end0
                have HZ1 : Hid _ := K6.out (by have := HP.out; have := HB.out; have := HEQ.out; omega) _ HY1.out
                exact ⟨rfl, HZ1.out⟩
              · have f1 : ¬ (s : Int) < (m : Int) := by omega
                have f2 : ¬ (mid : Int) < (e : Int) := by omega
                have f3 : ¬ (m : Int) < (e : Int) := by omega
                have f4 : ¬ (s : Int) < (mid : Int) := by omega
                have f5 : (a : Int) < (s : Int) := by omega
                have f6 : ¬ (e : Int) < (b : Int) := by omega
                have HP : Hid _ := hp
                have HQ : Hid _ := hq
                have HA : Hid _ := hr
                have HB : Hid _ := ht
                clear hp hq hr ht
                have HX1 : Hid _ := K2.out (by have := HP.out; have := HQ.out; omega) _ HR.out
                have HY1 : Hid _ := K4.out (by have := HQ.out; have := HA.out; have := HEQ.out; omega) _ HX1.out
                go_upto_region 43 with fail
                first | (go_wp2; done) | (go_wp2; go_end0; have HZ1 : Hid _ := K6.out (by have := HP.out; have := HB.out; have := HEQ.out; omega) _ HY1.out; exact ⟨rfl, HZ1.out⟩)
            · by_cases ht : e < b
              · have f1 : ¬ (s : Int) < (m : Int) := by omega
                have f2 : ¬ (mid : Int) < (e : Int) := by omega
                have f3 : ¬ (m : Int) < (e : Int) := by omega
                have f4 : ¬ (s : Int) < (mid : Int) := by omega
                have f5 : ¬ (a : Int) < (s : Int) := by omega
                have f6 : (e : Int) < (b : Int) := by omega
                have HP : Hid _ := hp
                have HQ : Hid _ := hq
                have HA : Hid _ := hr
                have HB : Hid _ := ht
                clear hp hq hr ht
                have HX1 : Hid _ := K2.out (by have := HP.out; have := HQ.out; omega) _ HR.out
                have HY1 : Hid _ := K4.out (by have := HQ.out; have := HA.out; have := HEQ.out; omega) _ HX1.out
                go_upto_region 43 with fail
                go_wp2
                go_end0
                have HZ1 : Hid _ := K6.out (by have := HP.out; have := HB.out; have := HEQ.out; omega) _ HY1.out
                exact ⟨rfl, HZ1.out⟩
              · have f1 : ¬ (s : Int) < (m : Int) := by omega
                have f2 : ¬ (mid : Int) < (e : Int) := by omega
                have f3 : ¬ (m : Int) < (e : Int) := by omega
                have f4 : ¬ (s : Int) < (mid : Int) := by omega
                have f5 : ¬ (a : Int) < (s : Int) := by omega
                have f6 : ¬ (e : Int) < (b : Int) := by omega
                have HP : Hid _ := hp
                have HQ : Hid _ := hq
                have HA : Hid _ := hr
                have HB : Hid _ := ht
                clear hp hq hr ht
                have HX1 : Hid _ := K2.out (by have := HP.out; have := HQ.out; omega) _ HR.out
                have HY1 : Hid _ := K4.out (by have := HQ.out; have := HA.out; have := HEQ.out; omega) _ HX1.out
                go_upto_region 43 with fail
                first | (go_wp2; done) | (go_wp2; go_end0; have HZ1 : Hid _ := K6.out (by have := HP.out; have := HB.out; have := HEQ.out; omega) _ HY1.out; exact ⟨rfl, HZ1.out⟩)
theorem symMerge_ok {B g n cap : Nat} {w0 : World} (hn : n ≤ 1000000000000) : ∀ N, SymOk B g n cap w0 N
  | 0 => fun w A L R Z a m b h hL hR ha hm hb h1 h2 hN => by omega
  | N + 1 => fun w A L R Z a m b h hL hR ha hm hb h1 h2 hN => by
    by_cases hl : L.length = 1
    · obtain ⟨x, rfl⟩ := List.length_eq_one_iff.1 hl
      exact symLeft_any h hR a m b ha (by simpa using hm) hb hn
    · by_cases hr : R.length = 1
      · obtain ⟨y, rfl⟩ := List.length_eq_one_iff.1 hr
        exact symRight_any h hL a m b ha hm (by omega) (by simpa using hb) hn
      · exact symMain_any (symMerge_ok hn N) hn h hL hR ha hm hb (by omega) (by omega) hN
end Go.Proofs.Ytdaibmafnamfgaa.Mg
