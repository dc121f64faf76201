/-
  The walk of the statement FrameBack.
-/
import Derived.Test.YtckcoleaoleadaaFrameLives
import Derived.Test.YtckcoleaoleadaaCmSame
namespace Go.Proofs.Ytckcoleaoleadaa.Fr
open Go.RowKit Cm
set_option linter.unusedVariables false

theorem own_cells {w : World} {B n : Nat} {v : Value} {vs : List Value} (h : w.ownsRow B 9 1 v n vs) : ∃ ao cap, v = .slice ao n cap ∧ CellsAt w ao vs := by
  have hl : vs.length = n := by simpa using h.1
  rcases h.2 with ⟨rfl, hn⟩ | ⟨g, cap, cur, rfl, _, hg, _⟩
  · subst hn
    exact ⟨none, 0, rfl, .inl (List.eq_nil_of_length_eq_zero hl)⟩
  · refine ⟨some ⟨g, 0, none⟩, cap, rfl, .inr ⟨g, 0, rfl, lt_of_block hg, fun j hj => ?_⟩⟩
    have := h.cells (g := g) rfl j vs[j] (by simp [hj])
    rw [Go.WideShapes.add_plain] at this
    rw [this]; simp [hj]
def datas (xs : List ByteArray) : List (List UInt8) := xs.map fun s => s.data.toList
theorem strs_datas (xs : List ByteArray) : strs (datas xs) = xs := by
  unfold strs datas
  rw [List.map_map]
  exact (List.map_congr_left fun x _ => str_back x).trans (List.map_id _)
theorem datas_len (xs : List ByteArray) : (datas xs).length = xs.length := by simp [datas]
theorem frames_datas (xs : List ByteArray) : frames (datas xs) = framesB xs := by simp [frames, datas, framesB, List.flatMap_map]
theorem scanned_datas (xs : List ByteArray) (h : ∀ x ∈ xs, x.size ≤ 65536) (r : List UInt8) (hr : first r = none) : Scanned (framesB xs ++ r) (datas xs) r :=
  ⟨by rw [frames_datas], fun p hp => by obtain ⟨x, hx, rfl⟩ := List.mem_map.1 hp; rw [← Lib.size_eq]; exact h x hx, hr⟩
theorem framesB_len (xs : List ByteArray) : (framesB xs).length = 8 * xs.length + total xs := by
  induction xs with
  | nil => simp [framesB, total]
  | cons x xs ih =>
    simp only [framesB, total, List.flatMap_cons, List.length_append, List.map_cons, List.sum_cons, List.length_cons, frame_len] at ih ⊢
    rw [ih, Lib.size_eq]
    omega
theorem total_take (xs : List ByteArray) (k : Nat) : total (xs.take k) ≤ total xs := by
  conv => rhs; rw [← List.take_append_drop k xs]
  simp only [total, List.map_append, List.sum_append]
  omega
theorem framesB_take (xs : List ByteArray) (k : Nat) : (framesB (xs.take k)).length ≤ 8 * xs.length + total xs := by
  rw [framesB_len]
  have h1 := total_take xs k
  have h2 : (xs.take k).length ≤ xs.length := by rw [List.length_take]; omega
  omega
theorem size_total {xs : List ByteArray} {x : ByteArray} (h : x ∈ xs) : x.size ≤ total xs := by
  induction xs with
  | nil => cases h
  | cons y ys ih =>
    simp only [total, List.map_cons, List.sum_cons] at ih ⊢
    rcases List.mem_cons.1 h with rfl | h
    · omega
    · have := ih h; omega
/-- Seal, where the payloads together are no greater than a machine's memory. -/
theorem seal_small (ao : Option Addr) (cap : Nat) (xs : List ByteArray) (w : World) (hc : CellsAt w ao (strVals xs)) (hb : 8 * xs.length + total xs ≤ 70368744177600) :
    Calls Try.prog 12 #[.slice ao xs.length cap] w fun e w' => e = .returned (sealed xs) ∧ Below w.heap.size w w' :=
  seal_any ao cap xs w hc (by omega) (fun x hx => by have := size_total hx; omega) (fun k _ _ => by have := framesB_take xs k; omega)
theorem seal_one (X : ByteArray) (w : World) (hX : X.size ≤ 9223372036854775807) :
    Calls Try.prog 12 #[.slice (some ⟨w.heap.size, 0, none⟩) 1 1] (w.alloc (.cells #[.string X] 9)) fun e w' => e = .returned (sealed [X]) ∧ Below w.heap.size w w' := by
  refine (seal_any (some ⟨w.heap.size, 0, none⟩) 1 [X] _ (cells1' X) (by simp) (by intro x hx; simp at hx; subst hx; exact hX) ?_).mono ?_
  · intro k hk hs
    match k, hk with
    | 0, _ => simp [framesB]
    | 1, _ =>
      have := hs X (by simp)
      rw [framesB_len]
      simp [total]
      omega
  · rintro e w' ⟨rfl, hb⟩
    exact ⟨rfl, ((Below.refl _ _).alloc (Nat.le_refl _) _).trans (hb.mono (by simp))⟩
theorem sealed_ok {xs : List ByteArray} (h : ∀ x ∈ xs, x.size ≤ 65536) : sealed xs = .tuple #[.string (str (framesB xs)), .int .i64 0] := by unfold sealed; rw [if_pos h]
theorem sealed_long {xs : List ByteArray} (h : ¬ ∀ x ∈ xs, x.size ≤ 65536) : sealed xs = .tuple #[.string ⟨#[]⟩, .int .i64 2] := by unfold sealed; rw [if_neg h]
/-- Scan of the payloads' frames, with something behind them that begins with no frame. -/
theorem scan_frames (T : ByteArray) (xs : List ByteArray) (r : List UInt8) (w : World) (h : ∀ x ∈ xs, x.size ≤ 65536) (hr : first r = none) (hT : T.data.toList = framesB xs ++ r) (hb : T.size ≤ 70368744177600) :
    Calls Try.prog 15 #[.string T] w fun e w' => ∃ ao cap, e = .returned (.tuple #[.slice ao xs.length cap, .int .i64 ((framesB xs).length : Nat)]) ∧ CellsAt w' ao (strVals xs) ∧ Below w.heap.size w w' := by
  refine (scan_any T w hb).mono ?_
  rintro e w' ⟨⟨v, n, ps, rfl, hU, hf, hown⟩, hB⟩
  obtain ⟨rfl, hn⟩ := hU.unique hf (by rw [hT]; exact scanned_datas xs h r hr)
  rw [frames_datas] at hn
  subst hn
  rw [strs_datas, datas_len] at hown
  obtain ⟨ao, cap, rfl, hc⟩ := own_cells hown
  exact ⟨ao, cap, rfl, hc, hB⟩

theorem cut_nat (cut d : Int) (hd : 0 < d) (hd2 : d ≤ 9223372036854775807) : ∃ k : Nat, (k : Int) < d ∧ wrap64 ((IntKind.u64.wrap cut).tmod d) = (k : Int) := by
  have h0 : 0 ≤ IntKind.u64.wrap cut := by rw [IntKind.wrap_u64]; omega
  have h1 : 0 ≤ (IntKind.u64.wrap cut).tmod d := Int.tmod_nonneg _ h0
  have h2 : (IntKind.u64.wrap cut).tmod d < d := Int.tmod_lt_of_pos _ hd
  refine ⟨((IntKind.u64.wrap cut).tmod d).toNat, by omega, ?_⟩
  rw [IntWalk.wrap64_in _ ⟨by omega, by omega⟩]
  omega

set_option maxRecDepth 100000 in
set_option maxHeartbeats 2000000 in
theorem back_walk (ao : Option Addr) (cap : Nat) (xs : List ByteArray) (M : ByteArray) (cut : Int) (w : World) (hc : CellsAt w ao (strVals xs)) (hb : 8 * xs.length + total xs ≤ 35184372088800) (hM : M.size ≤ 9223372036854775807) (hc1 : -9223372036854775808 ≤ cut) (hc2 : cut ≤ 9223372036854775807) :
    Calls Try.prog 6 #[.slice ao xs.length cap, .string M, .int .i64 cut] w fun e w' => e = .returned (.bool true) ∧ Below w.heap.size w w' := by
  have hlen : xs.length ≤ 35184372088800 := by omega
  have HBd : Hid (8 * xs.length + total xs ≤ 35184372088800) := hb
  clear hb
  go_enter Try.func6, Try.ntmps6
  go_wp2_with fail
  refine (lives_any _).mono ?_
  rintro e w1 ⟨rfl, hb1⟩
  have hs1 := hb1.size
  go_wp2_with fail
  refine (seal_small ao cap xs _ (hc.below hb1) (by have := HBd.out; omega)).mono ?_
  rintro e w2 ⟨rfl, hb2⟩
  have hB2 : Below w.heap.size w w2 := hb1.trans (hb2.mono hs1)
  have hs2 := hB2.size
  clear hb1 hb2 hs1
  by_cases hsm : ∀ x ∈ xs, x.size ≤ 65536
  · rw [sealed_ok hsm]
    have HSm : Hid _ := hsm
    obtain ⟨S, hS⟩ : ∃ S, S = str (framesB xs) := ⟨_, rfl⟩
    rw [← hS]
    have HS : Hid (S.data.toList = framesB xs) := by rw [hS]; exact hid_rfl
    have HSs : Hid (S.size = 8 * xs.length + total xs) := by rw [hS, str_size, framesB_len]; exact hid_rfl
    have HSn : Hid ((framesB xs).length = S.size) := by rw [hS, str_size]; exact hid_rfl
    clear hS hsm
    go_wp2_with fail
    refine (scan_frames S xs [] _ HSm.out (first_short (by simp)) (by rw [HS.out, List.append_nil]) (by have := HSs.out; have := HBd.out; omega)).mono ?_
    rintro e w3 ⟨ao3, cap3, rfl, hc3, hb3⟩
    rw [HSn.out]
    have hB3 : Below w.heap.size w w3 := hB2.trans (hb3.mono hs2)
    have hs3 := hB3.size
    clear hb3 hB2 hs2
    go_wp2_with fail
    refine (same_any ao3 ao cap3 cap xs _ hc3 (hc.below hB3) (by omega)).mono ?_
    rintro e w4 ⟨rfl, n4, rfl⟩
    clear hc3
    go_wp2_with fail
    refine (seal_one M (w3.drewN n4) hM).mono ?_
    rintro e w5 ⟨rfl, hb5⟩
    have hB5 : Below w.heap.size w w5 := (below_drew hB3).trans (hb5.mono hs3)
    have hs5 := hB5.size
    clear hb5 hB3 hs3
    by_cases hms : M.size ≤ 65536
    · have hso : sealed [M] = .tuple #[.string (str (frame M.data.toList)), .int .i64 0] := by
        rw [sealed_ok (by intro x hx; simp at hx; subst hx; exact hms)]
        simp only [framesB, List.flatMap_cons, List.flatMap_nil, List.append_nil]
      rw [hso]
      clear hso
      obtain ⟨F, hF⟩ : ∃ F, F = str (frame M.data.toList) := ⟨_, rfl⟩
      rw [← hF]
      have HF : Hid (F.data.toList = frame M.data.toList) := by rw [hF]; exact hid_rfl
      have hFs : F.size = 8 + M.size := by rw [hF, str_size, frame_len, ← Lib.size_eq]
      clear hF
      obtain ⟨k, hk, hcut⟩ := cut_nat cut (8 + (M.size : Int)) (by omega) (by omega)
      obtain ⟨C, hC⟩ : ∃ C, C = F.extract 0 k := ⟨_, rfl⟩
      have HC : Hid (C.data.toList = (frame M.data.toList).take k) := by rw [hC, ext_list, HF.out]; exact hid_rfl
      have hCs : C.size ≤ 65544 := by rw [hC]; simp; omega
      have hSb : S.size ≤ 35184372088800 := by have := HSs.out; have := HBd.out; omega
      have hC' := hC.symm
      clear hC
      go_wp2_with fail
      obtain ⟨T, hT⟩ : ∃ T, T = S ++ C := ⟨_, rfl⟩
      have HT : Hid (T.data.toList = framesB xs ++ (frame M.data.toList).take k) := by rw [hT, ByteArray.data_append, Array.toList_append, HS.out, HC.out]; exact hid_rfl
      have HTs : Hid (T.size = S.size + C.size) := by rw [hT, ByteArray.size_append]; exact hid_rfl
      rw [← hT]
      clear hT
      refine (scan_frames T xs ((frame M.data.toList).take k) _ HSm.out (first_cut _ (by rw [← Lib.size_eq]; exact hms) k (by rw [← Lib.size_eq]; omega)) HT.out (by have := HTs.out; omega)).mono ?_
      rintro e w6 ⟨ao6, cap6, rfl, hc6, hb6⟩
      rw [HSn.out]
      have hB6 : Below w.heap.size w w6 := hB5.trans (hb6.mono hs5)
      have hs6 := hB6.size
      clear hb6 hB5 hs5
      go_wp2_with fail
      refine (same_any ao6 ao cap6 cap xs _ hc6 (hc.below hB6) (by omega)).mono ?_
      rintro e w7 ⟨rfl, n7, rfl⟩
      go_wp2
      go_ret
      exact ⟨rfl, below_drew hB6⟩
    · have hsl := sealed_long (xs := [M]) (fun h => hms (h M (by simp)))
      rw [hsl]
      clear hsl hms
      go_wp2
      go_ret
      exact ⟨rfl, hB5⟩
  · have hsl := sealed_long hsm
    rw [hsl]
    clear hsl hsm
    go_wp2
    go_ret
    exact ⟨rfl, hB2⟩

end Go.Proofs.Ytckcoleaoleadaa.Fr
