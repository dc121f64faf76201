/-
  The row rotated; the row put in order by insertion.
-/
import Derived.Test.YtdaibmafnamfgaaMergeRow
import Derived.Test.YtdaibmafnamfgaaMergeCompare
namespace Go.Proofs.Ytdaibmafnamfgaa.Mg
open Go.RowKit Cm Mm
set_option linter.unusedVariables false

theorem rot_gt {A U V Z : List En} {u v p m : Nat} (hU : U.length = u) (hV : V.length = v) (hA : A.length = p) (hm : p + u = m) (hlt : v < u) :
    ∃ A' U' V', swaps (A ++ (U ++ (V ++ Z))) p m v = A' ++ (U' ++ (V' ++ Z)) ∧ A'.length + U'.length = m ∧ U'.length = u - v ∧ V'.length = v ∧ A' ++ (V' ++ (U' ++ Z)) = A ++ (V ++ (U ++ Z)) := by
  have h := swaps_all (A := A) (X := U.take v) (M := U.drop v) (Y := V) (Z := Z) (a := p) (b := m) hA (by simp; omega) (by simp; omega)
  have e1 : U.take v ++ (U.drop v ++ (V ++ Z)) = U ++ (V ++ Z) := by rw [← List.append_assoc, List.take_append_drop]
  have e2 : (U.take v).length = v := by simp; omega
  rw [e1, e2] at h
  refine ⟨A ++ V, U.drop v, U.take v, by rw [h]; simp, by simp; omega, by simp; omega, e2, ?_⟩
  simp only [List.append_assoc]
  rw [← List.append_assoc (U.take v), List.take_append_drop]
theorem rot_lt {A U V Z : List En} {u v p m q : Nat} (hU : U.length = u) (hV : V.length = v) (hA : A.length = p) (hm : p + u = m) (hlt : u < v) (hq : q = m + v - u) :
    ∃ U' V' Z', swaps (A ++ (U ++ (V ++ Z))) p q u = A ++ (U' ++ (V' ++ Z')) ∧ U'.length = u ∧ V'.length = v - u ∧ A ++ (V' ++ (U' ++ Z')) = A ++ (V ++ (U ++ Z)) := by
  have h := swaps_all (A := A) (X := U) (M := V.take (v - u)) (Y := V.drop (v - u)) (Z := Z) (a := p) (b := q) hA (by simp; omega) (by simp; omega)
  have e1 : V.take (v - u) ++ (V.drop (v - u) ++ Z) = V ++ Z := by rw [← List.append_assoc, List.take_append_drop]
  rw [e1, hU] at h
  refine ⟨V.drop (v - u), V.take (v - u), U ++ Z, h, by simp; omega, by simp; omega, ?_⟩
  rw [← List.append_assoc (V.take _), List.take_append_drop]
theorem rot_eq {A U V Z : List En} {u p m : Nat} (hU : U.length = u) (hV : V.length = u) (hA : A.length = p) (hm : p + u = m) : swaps (A ++ (U ++ (V ++ Z))) p m u = A ++ (V ++ (U ++ Z)) := by
  have h := swaps_all (A := A) (X := U) (M := []) (Y := V) (Z := Z) (a := p) (b := m) hA (by simp; omega) (by omega)
  rw [hU] at h
  simpa using h
set_option maxRecDepth 100000 in
set_option maxHeartbeats 1000000 in
theorem rotate_any {B g n cap : Nat} {w0 w : World} {A U V Z : List En} (h : RowE B g n cap w0 (A ++ (U ++ (V ++ Z))) w) (a m b : Nat) (ha : A.length = a) (hm : a + U.length = m) (hb : m + V.length = b) (hU : 0 < U.length) (hV : 0 < V.length) (hn : n ≤ 1000000000000) (fv : Value) :
    Calls Try.prog 64 #[.slice (some ⟨g, 0, none⟩) n cap, .int .i64 a, .int .i64 m, .int .i64 b, fv] w fun e w' => e = .returned (.tuple #[]) ∧ RowE B g n cap w0 (A ++ (V ++ (U ++ Z))) w' := by
  have hlen : n = A.length + (U.length + (V.length + Z.length)) := by rw [← h.len]; simp
  have HR : Hid _ := h
  have w1 : IntKind.i64.wrap ((m : Int) - (a : Int)) = (U.length : Int) := wrap_nat (by omega) (by omega)
  have w2 : IntKind.i64.wrap ((b : Int) - (m : Int)) = (V.length : Int) := wrap_nat (by omega) (by omega)
  have hbn : b ≤ n := by omega
  have HL : Hid (A.length + U.length = m) := by show _ = _; omega
  clear h ha hm
  generalize hu : U.length = u at *
  generalize hv : V.length = v at *
  have HT : Hid (A ++ (V ++ (U ++ Z)) = A ++ (V ++ (U ++ Z))) := rfl
  generalize hTe : A ++ (V ++ (U ++ Z)) = T
  have HTe : Hid _ := hTe
  have HU : Hid _ := hu
  have HV : Hid _ := hv
  have hub : u ≤ 1000000000000 := by omega
  have hvb : m + v ≤ n := by omega
  clear hlen hTe hb hu hv
  go_enter Try.func64, Try.ntmps64
  go_wp2
  go_loopw [10, 11] (fun vi vj wr => ∃ (u v : Nat) (A U V Z : List En), vi = .int .i64 u ∧ vj = .int .i64 v ∧ 0 < u ∧ 0 < v ∧ m + v ≤ n ∧ Hid (U.length = u) ∧ Hid (V.length = v) ∧ Hid (A.length + u = m) ∧ Hid (RowE B g n cap w0 (A ++ (U ++ (V ++ Z))) wr) ∧ Hid (A ++ (V ++ (U ++ Z)) = T)) (fun vi vj _ => (intOf vi).toNat + (intOf vj).toNat)
  case atStart => exact ⟨u, v, A, U, V, Z, rfl, rfl, hU, hV, hvb, HU, HV, HL, HR, HTe⟩
  case round =>
    clear HR HL HT HTe HU HV hub hvb w1 w2 hbn hU hV
    obtain ⟨u, v, A, U, V, Z, rfl, rfl, hu0, hv0, hvn, HU, HV, HL, HR, HT⟩ := hrel
    obtain ⟨p, hp⟩ : ∃ p, A.length = p := ⟨_, rfl⟩
    have hpm : p + u = m := by have := HL.out; omega
    have HP : Hid _ := hp
    have wp : IntKind.i64.wrap ((m : Int) - (u : Int)) = (p : Int) := wrap_nat (by omega) (by omega)
    by_cases he : u = v
    · subst he
      have HE := rot_eq (Z := Z) HU.out HV.out hp hpm
      rw [HT.out] at HE
      have HC : Hid _ := swapRange_any HR.out p m u (by omega) (by omega) hn fv
      rw [HE] at HC
      clear HE hp HR HT HU HV HL
      have hb : ((u : Int) == (u : Int)) = true := by simp
      go_wp2_with (go_at_call 77; refine (show Calls _ _ _ _ _ from HC.out).mono ?_; rintro e w2 ⟨rfl, hr2⟩; have HR2 : Hid _ := hr2; clear hr2)
      go_end0
      exact ⟨rfl, HR2.out⟩
    · have hbf : ((u : Int) == (v : Int)) = false := by simp; omega
      by_cases hlt : v < u
      · have hlt' : (v : Int) < (u : Int) := by omega
        obtain ⟨A', U', V', e1, e2, e3, e4, e5⟩ := rot_gt (Z := Z) HU.out HV.out hp hpm hlt
        rw [HT.out] at e5
        have HC : Hid _ := swapRange_any HR.out p m v (by omega) (by omega) hn fv
        rw [e1] at HC
        have E2 : Hid (A'.length + (u - v) = m) := by show _ = _; omega
        have E3 : Hid _ := e3
        have E4 : Hid _ := e4
        have E5 : Hid _ := e5
        clear e1 e2 e3 e4 e5 hp HR HT HU HV HL he
        have ws : IntKind.i64.wrap ((u : Int) - (v : Int)) = ((u - v : Nat) : Int) := wrap_nat (by omega) (by omega)
        go_wp2_with (go_at_call 77; refine (show Calls _ _ _ _ _ from HC.out).mono ?_; rintro e w2 ⟨rfl, hr2⟩; have HR2 : Hid _ := hr2; clear hr2)
        go_roundw
        case rel => exact ⟨u - v, v, A', U', V', Z, rfl, rfl, by omega, hv0, hvn, E3, E4, E2, HR2, E5⟩
        case measure => simp [intOf]; omega
      · have hlt' : ¬ (v : Int) < (u : Int) := by omega
        have HLT : Hid (u < v) := by show _ < _; omega
        obtain ⟨U', V', Z', e1, e3, e4, e5⟩ := rot_lt (Z := Z) (q := m + v - u) HU.out HV.out hp hpm (by omega) rfl
        rw [HT.out] at e5
        have HC : Hid _ := swapRange_any HR.out p (m + v - u) u (by omega) (by omega) hn fv
        rw [e1] at HC
        have E3 : Hid _ := e3
        have E4 : Hid _ := e4
        have E5 : Hid _ := e5
        have E2 : Hid (A.length + u = m) := HL
        clear e1 e3 e4 e5 hp HR HT HU HV HL he
        have ws : IntKind.i64.wrap ((v : Int) - (u : Int)) = ((v - u : Nat) : Int) := wrap_nat (by omega) (by omega)
        have wa : IntKind.i64.wrap ((m : Int) + (v : Int)) = ((m + v : Nat) : Int) := wrap_nat (by omega) (by omega)
        have wb : IntKind.i64.wrap (((m + v : Nat) : Int) - (u : Int)) = ((m + v - u : Nat) : Int) := wrap_nat (by omega) (by omega)
        generalize hmv : m + v = mv at *
        generalize hq : mv - u = q at *
        have HQ : Hid _ := hq
        have HMV : Hid _ := hmv
        clear hq hmv
        go_wp2_with (go_at_call 77; refine (show Calls _ _ _ _ _ from HC.out).mono ?_; rintro e w2 ⟨rfl, hr2⟩; have HR2 : Hid _ := hr2; clear hr2)
        go_roundw
        case rel =>
          have := HMV.out
          have := HLT.out
          exact ⟨u, v - u, A, U', V', Z', rfl, rfl, hu0, by omega, by omega, E3, E4, E2, HR2, E5⟩
        case measure => have := HLT.out; simp [intOf]; omega
end Go.Proofs.Ytdaibmafnamfgaa.Mg
