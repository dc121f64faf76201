/-
  The row put in order by insertion.
-/
import Derived.Test.YtdaibmafnamfgaaMergeRotate
namespace Go.Proofs.Ytdaibmafnamfgaa.Mg
open Go.RowKit Cm Mm
set_option linter.unusedVariables false

theorem swp_comm {xs : List En} {i j : Nat} (h : i ≠ j) : swp xs i j = swp xs j i := by
  unfold swp; exact List.set_comm _ _ h
theorem RowE.eight {B g n cap : Nat} {w0 w : World} {xs : List En} (h : RowE B g n cap w0 xs w) {i j : Nat} (hi : i < n) (hj : j < n) {w' : World} (hb : Below w.heap.size w w') :
    w'.cell? ⟨g, i * 4, none⟩ = some (.string (xs.getD i En.zero).key) ∧ w'.cell? ⟨g, i * 4 + 1, none⟩ = some (.int .i64 (xs.getD i En.zero).seq) ∧ w'.cell? ⟨g, i * 4 + 2, none⟩ = some (.bool (xs.getD i En.zero).dead) ∧ w'.cell? ⟨g, i * 4 + 3, none⟩ = some (.string (xs.getD i En.zero).val) ∧
    w'.cell? ⟨g, j * 4, none⟩ = some (.string (xs.getD j En.zero).key) ∧ w'.cell? ⟨g, j * 4 + 1, none⟩ = some (.int .i64 (xs.getD j En.zero).seq) ∧ w'.cell? ⟨g, j * 4 + 2, none⟩ = some (.bool (xs.getD j En.zero).dead) ∧ w'.cell? ⟨g, j * 4 + 3, none⟩ = some (.string (xs.getD j En.zero).val) := by
  obtain ⟨a0, a1, a2, a3⟩ := (h.later hb).cells hi
  obtain ⟨b0, b1, b2, b3⟩ := (h.later hb).cells hj
  exact ⟨a0, a1, a2, a3, b0, b1, b2, b3⟩
theorem cE_neg {a b : En} (h : less a b = true) : cE a b < 0 := by have := cE_lt a b; rw [h] at this; simpa using this
theorem cE_not {a b : En} (h : less a b = false) : ¬ cE a b < 0 := by have := cE_lt a b; rw [h] at this; simpa using this
/-- The value that Merge hands on as the order. -/
def fvE : Value := .func (.func 23) #[] #[]
theorem ins_step {A M1 M2 Y Z : List En} {x y : En} {j p : Nat} (hj : A.length + p = j) (hp : M1.length = p) : swp (A ++ ((M1 ++ [y]) ++ (x :: (M2 ++ (Y ++ Z))))) (j + 1) j = A ++ (M1 ++ (x :: ((y :: M2) ++ (Y ++ Z)))) := by
  rw [swp_comm (by omega)]
  have := swp_app (A := A ++ M1) (M := []) (Z := M2 ++ (Y ++ Z)) (x := y) (y := x) (i := j) (j := j + 1) (by simp; omega) (by simp)
  simp only [List.append_assoc, List.nil_append, List.cons_append] at this ⊢
  exact this
theorem ins_get {A M1 R : List En} {x y : En} {j : Nat} (hj : A.length + M1.length = j) : (A ++ ((M1 ++ [y]) ++ (x :: R))).getD j En.zero = y ∧ (A ++ ((M1 ++ [y]) ++ (x :: R))).getD (j + 1) En.zero = x := by
  constructor
  · have := getD_app (A ++ M1) (x :: R) y
    rw [List.length_append, hj] at this
    simpa using this
  · have := getD_app (A ++ M1 ++ [y]) R x
    rw [List.length_append, List.length_append, hj] at this
    simpa using this
set_option maxRecDepth 100000 in
set_option maxHeartbeats 2000000 in
theorem insertion_any {B g n cap : Nat} {w0 w : World} {A X Z : List En} (h : RowE B g n cap w0 (A ++ (X ++ Z)) w) (a b : Nat) (ha : A.length = a) (hb : a + X.length = b) (hn : n ≤ 1000000000000) :
    Calls Try.prog 57 #[.slice (some ⟨g, 0, none⟩) n cap, .int .i64 a, .int .i64 b, fvE] w fun e w' => e = .returned (.tuple #[]) ∧ ∃ M, WS M ∧ Stab X M ∧ RowE B g n cap w0 (A ++ (M ++ Z)) w' := by
  unfold fvE
  have hlen : a + (X.length + Z.length) = n := by rw [← h.len, ← ha]; simp
  have hbn : b ≤ n := by omega
  have han : a ≤ n := by omega
  have HXl : Hid (a + X.length = b) := hb
  have HA : Hid (A.length = a) := ha
  have HS0 : Hid (∃ (M Y : List En), WS M ∧ Stab X (M ++ Y) ∧ RowE B g n cap w0 (A ++ (M ++ (Y ++ Z))) w ∧ (a + M.length = a + 1 ∨ (Y = [] ∧ b ≤ a + 1))) := by
    cases X with
    | nil => exact ⟨[], [], WS.nil, Stab.refl _, h, .inr ⟨rfl, by simp at hb; omega⟩⟩
    | cons x X => exact ⟨[x], X, WS.one x, Stab.refl _, h, .inl rfl⟩
  have wa : IntKind.i64.wrap ((a : Int) + 1) = ((a + 1 : Nat) : Int) := wrap_nat (by omega) (by omega)
  clear h hlen hb ha
  go_enter Try.func57, Try.ntmps57
  go_wp2
  go_loopw [8] (fun vi wr => ∃ (i : Nat), vi = .int .i64 i ∧ a + 1 ≤ i ∧ i ≤ n + 1 ∧ Hid (∃ (M Y : List En), WS M ∧ Stab X (M ++ Y) ∧ RowE B g n cap w0 (A ++ (M ++ (Y ++ Z))) wr ∧ (a + M.length = i ∨ (Y = [] ∧ b ≤ i)))) (fun vi _ => n + 1 - (intOf vi).toNat)
  case atStart => exact ⟨a + 1, by first | rfl | (rw [wa]), by omega, by omega, HS0⟩
  case round =>
    clear HS0 wa
    obtain ⟨i, rfl, hi1, hi2, HI⟩ := hrel
    by_cases hlt : i < b
    · have hlt' : (i : Int) < (b : Int) := by omega
      obtain ⟨M, Y0, hM, hSt, hR, hc⟩ := HI.out
      have hiM : a + M.length = i := by
        rcases hc with hc | ⟨_, hc⟩
        · exact hc
        · omega
      obtain ⟨x, Y, rfl⟩ : ∃ x Y, Y0 = x :: Y := by
        cases Y0 with
        | nil =>
          exfalso
          have h1 := hSt.len
          have h2 := HXl.out
          simp at h1; omega
        | cons x Y => exact ⟨x, Y, rfl⟩
      have HN : Hid (Among X M [] Y x) := Among.new hM hSt
      have HR : Hid (RowE B g n cap w0 (A ++ (M ++ (x :: ([] ++ (Y ++ Z))))) wr) := hR
      have HiM : Hid (a + M.length = i) := hiM
      have HML : Hid (M.length + ([] : List En).length = M.length) := rfl
      clear HI hM hSt hR hc hiM
      go_wp2
      go_loopw [9] (fun vj wq => ∃ (j : Nat) (M1 M2 : List En), vj = .int .i64 j ∧ a ≤ j ∧ j ≤ i ∧ Hid (a + M1.length = j) ∧ Hid (Among X M1 M2 Y x) ∧ Hid (RowE B g n cap w0 (A ++ (M1 ++ (x :: (M2 ++ (Y ++ Z))))) wq) ∧ Hid (M1.length + M2.length = M.length)) (fun vj _ => (intOf vj).toNat)
      case atStart => exact ⟨i, M, [], rfl, by omega, by omega, HiM, HN, HR, HML⟩
      case round =>
        clear HN HR HML
        obtain ⟨j, M1, M2, rfl, hja, hji, HJ, HN, HR, HML⟩ := hrel
        have HD : Hid (∀ wq, RowE B g n cap w0 (A ++ (M1 ++ (x :: (M2 ++ (Y ++ Z))))) wq → (M1 = [] ∨ ∃ M y, M1 = M ++ [y] ∧ less x y = false) → ∃ (M Y : List En), WS M ∧ Stab X (M ++ Y) ∧ RowE B g n cap w0 (A ++ (M ++ (Y ++ Z))) wq ∧ (a + M.length = i + 1 ∨ (Y = [] ∧ b ≤ i + 1))) := fun wq hq hd => by
          obtain ⟨d1, d2⟩ := HN.out.done hd
          refine ⟨_, Y, d1, d2, by simpa using hq, .inl ?_⟩
          have h1 := HML.out
          have h2 := HiM.out
          simp only [List.length_append, List.length_cons]; omega
        have wi : IntKind.i64.wrap ((i : Int) + 1) = ((i + 1 : Nat) : Int) := wrap_nat (by omega) (by omega)
        by_cases hj : a < j
        · have hj' : (a : Int) < (j : Int) := by omega
          obtain ⟨M1', y, rfl⟩ : ∃ M1' y, M1 = M1' ++ [y] := by
            rcases List.eq_nil_or_concat M1 with rfl | ⟨M1', y, rfl⟩
            · exfalso; have := HJ.out; simp at this; omega
            · exact ⟨M1', y, by simp⟩
          obtain ⟨k, hkj⟩ : ∃ k, k + 1 = j := ⟨j - 1, by omega⟩
          have hk1 : A.length + M1'.length = k := by have h1 := HJ.out; have h2 := HA.out; simp at h1; omega
          have HK1 : Hid (a + M1'.length = k) := by have h2 := HA.out; show _ = _; omega
          obtain ⟨gy, gx⟩ := ins_get (x := x) (y := y) (R := M2 ++ (Y ++ Z)) hk1
          have HW : Hid _ := ins_step (y := y) (x := x) (M2 := M2) (Y := Y) (Z := Z) (p := M1'.length) hk1 rfl
          have hjn : j < n := by omega
          have hkn : k < n := by omega
          have he := fun w' (hb : Below wr.heap.size wr w') => HR.out.eight (i := j) (j := k) hjn hkn hb
          rw [← hkj] at he
          rw [gx, gy, hkj] at he
          have HK : Hid _ := he
          obtain ⟨c0, c1, c2, c3, d0, d1, d2, d3⟩ := he wr (Below.refl _ _)
          have HL : Hid (∀ wq, _) := fun wq => cmpE_any x y wq
          unfold env at HL
          have HBd : Hid (∀ wq, Below wr.drew.heap.size wr.drew wq → Below wr.heap.size wr wq) := fun wq h => (Below.refl _ _).drew.trans h
          have HRL : Hid (∀ wq, Below wr.heap.size wr wq → RowE B g n cap w0 _ wq) := fun wq h => HR.out.later h
          have hwj : IntKind.i64.wrap ((j : Int) - 1) = (k : Int) := wrap_nat (by omega) (by omega)
          have hjn' : (j : Int) < (n : Int) := by omega
          have hkn' : (k : Int) < (n : Int) := by omega
          have HKJ : Hid _ := hkj
          have HGX : Hid _ := gx
          have HGY : Hid _ := gy
          clear he gx gy hk1 hkj HR hj
          cases hxy : less x y
          · have hcc := cE_not hxy
            have HXY : Hid _ := hxy
            generalize cE x y = c at *
            clear hxy
            go_wp2_with fail
            go_region_held3 (fun w' => w'.cell? ⟨g, j * 4, none⟩ = some (.string x.key) ∧ w'.cell? ⟨g, j * 4 + 1, none⟩ = some (.int .i64 x.seq) ∧ w'.cell? ⟨g, j * 4 + 2, none⟩ = some (.bool x.dead) ∧ w'.cell? ⟨g, j * 4 + 3, none⟩ = some (.string x.val) ∧ w'.cell? ⟨g, k * 4, none⟩ = some (.string y.key) ∧ w'.cell? ⟨g, k * 4 + 1, none⟩ = some (.int .i64 y.seq) ∧ w'.cell? ⟨g, k * 4 + 2, none⟩ = some (.bool y.dead) ∧ w'.cell? ⟨g, k * 4 + 3, none⟩ = some (.string y.val)) (first | with_reducible exact ⟨c0, c1, c2, c3, d0, d1, d2, d3⟩ | exact ⟨c0, c1, c2, c3, d0, d1, d2, d3⟩ | exact HK.out _ hbq)
              ((go_at_call 23; refine (show Calls _ _ _ _ _ from HL.out _).mono ?_; rintro e w2 ⟨rfl, hb2⟩; have hbq := HBd.out w2 hb2))
            have HB2 : Hid _ := hbq
            clear hb2 hbq HBd HK HL c0 c1 c2 c3 d0 d1 d2 d3
            go_wp2
            go_roundw
            case rel => exact ⟨i + 1, by first | rfl | (rw [wi]), by omega, by omega, HD.out _ (HRL.out _ HB2.out) (.inr ⟨_, _, rfl, HXY.out⟩)⟩
            case measure => simp [intOf]; omega
          · have hcc := cE_neg hxy
            have HXY : Hid _ := HN.out.step hxy
            generalize cE x y = c at *
            clear hxy HD
            go_wp2_with fail
            go_region_held3 (fun w' => w'.cell? ⟨g, j * 4, none⟩ = some (.string x.key) ∧ w'.cell? ⟨g, j * 4 + 1, none⟩ = some (.int .i64 x.seq) ∧ w'.cell? ⟨g, j * 4 + 2, none⟩ = some (.bool x.dead) ∧ w'.cell? ⟨g, j * 4 + 3, none⟩ = some (.string x.val) ∧ w'.cell? ⟨g, k * 4, none⟩ = some (.string y.key) ∧ w'.cell? ⟨g, k * 4 + 1, none⟩ = some (.int .i64 y.seq) ∧ w'.cell? ⟨g, k * 4 + 2, none⟩ = some (.bool y.dead) ∧ w'.cell? ⟨g, k * 4 + 3, none⟩ = some (.string y.val)) (first | with_reducible exact ⟨c0, c1, c2, c3, d0, d1, d2, d3⟩ | exact ⟨c0, c1, c2, c3, d0, d1, d2, d3⟩ | exact HK.out _ hbq)
              ((go_at_call 23; refine (show Calls _ _ _ _ _ from HL.out _).mono ?_; rintro e w2 ⟨rfl, hb2⟩; have hbq := HBd.out w2 hb2))
            have hr2 := HRL.out _ hbq
            clear hb2 hbq HBd HK HL c0 c1 c2 c3 d0 d1 d2 d3 HN
            have hkj := HKJ.out
            have hsw := (hr2.swap (i := j) (j := k) hjn hkn).drew
            obtain ⟨c0, c1, c2, c3⟩ := hr2.cells (k := j) hjn
            obtain ⟨d0, d1, d2, d3⟩ := hr2.cells (k := k) hkn
            obtain ⟨f0, f1, f2, f3⟩ := hr2.other (i := j) (j := k) hjn hkn (by omega) y
            rw [← hkj] at hsw c0 c1 c2 c3
            rw [HGX.out, HGY.out, HW.out, hkj] at hsw
            rw [HGX.out, hkj] at c0 c1 c2 c3
            rw [HGY.out] at d0 d1 d2 d3 f0 f1 f2 f3
            have hfz := hr2.frozen
            unfold set4 at f0 f1 f2 f3 hsw
            have HSW : Hid _ := hsw
            clear hsw hr2 HRL HGX HGY HW hkj
            go_wp2_with fail
            go_region
            go_wp2
            go_roundw
            case rel =>
              have hkj := HKJ.out
              have hml := HML.out
              clear c0 c1 c2 c3 d0 d1 d2 d3 f0 f1 f2 f3
              refine ⟨k, M1', y :: M2, by first | rfl | (rw [hwj]), by omega, by omega, HK1, HXY, ?_, ?_⟩
              · with_reducible exact HSW
              · show _ = _
                simp only [List.length_append, List.length_cons, List.length_nil] at hml ⊢; omega
            case measure => have := HKJ.out; simp [intOf]; omega
        · obtain rfl : j = a := by omega
          have HM0 : Hid (M1 = []) := by
            have := HJ.out
            exact List.length_eq_zero_iff.1 (by omega)
          have hirr : ¬ (j : Int) < (j : Int) := by omega
          go_wp2_with fail
          go_quiet (fail)
          go_wp2
          go_roundw
          case rel => exact ⟨i + 1, by first | rfl | (rw [wi]), by omega, by omega, HD.out _ (HR.out.later ⟨rfl, rfl, rfl, Nat.le_refl _, fun _ _ => rfl⟩) (.inl HM0.out)⟩
          case measure => simp [intOf]; omega
    · have hlt' : ¬ (i : Int) < (b : Int) := by omega
      go_wp2
      go_end0
      refine ⟨rfl, ?_⟩
      obtain ⟨M, Y, hM, hSt, hR, hc⟩ := HI.out
      have hY : Y = [] := by
        rcases hc with hc | ⟨hc, _⟩
        · have h1 := hSt.len
          have h2 := HXl.out
          rw [List.length_append] at h1
          exact List.length_eq_zero_iff.1 (by omega)
        · exact hc
      subst hY
      rw [List.append_nil] at hSt
      exact ⟨M, hM, hSt, hR⟩
end Go.Proofs.Ytdaibmafnamfgaa.Mg
