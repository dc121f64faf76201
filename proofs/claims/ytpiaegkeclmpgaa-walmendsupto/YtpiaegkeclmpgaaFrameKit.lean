/-
  Package frame, as other layers call it: Seal of payloads that are no greater than a machine's memory, Scan of frames with something behind them.
-/
import Derived.Test.YtpiaegkeclmpgaaFrameScan
namespace Go.Proofs.Ytpiaegkeclmpgaa.Fr
open Go.RowKit Cm
set_option linter.unusedVariables false

theorem Upto.unique {l : List UInt8} {ps qs : List (List UInt8)} {n : Nat} {r : List UInt8} (h : Upto l ps n) (hf : first (l.drop n) = none) (k : Scanned l qs r) : ps = qs ∧ n = (frames qs).length := by
  obtain ⟨rfl, _⟩ := (h.stop hf).unique k
  exact ⟨rfl, h.at_⟩
theorem own_cells {w : World} {B n : Nat} {v : Value} {vs : List Value} (h : w.ownsRow B 9 1 v n vs) : ∃ ao cap, v = .slice ao n cap ∧ CellsAt w ao vs := by
  have hl : vs.length = n := by simpa using h.1
  rcases h.2 with ⟨rfl, hn⟩ | ⟨g, cap, cur, rfl, _, hg, _⟩
  · subst hn
    exact ⟨none, 0, rfl, .inl (List.eq_nil_of_length_eq_zero hl)⟩
  · refine ⟨some ⟨g, 0, none⟩, cap, rfl, .inr ⟨g, 0, rfl, lt_of_block hg, fun j hj => ?_⟩⟩
    have := h.cells (g := g) rfl j vs[j] (by simp [hj])
    rw [Go.WideShapes.add_plain] at this
    rw [this]; simp [hj]
def datas (xs : List ByteArray) : List (List UInt8) := xs.map fun s => s.data.toList
theorem strs_datas (xs : List ByteArray) : strs (datas xs) = xs := by
  unfold strs datas
  rw [List.map_map]
  exact (List.map_congr_left fun x _ => str_back x).trans (List.map_id _)
theorem datas_len (xs : List ByteArray) : (datas xs).length = xs.length := by simp [datas]
theorem frames_datas (xs : List ByteArray) : frames (datas xs) = framesB xs := by simp [frames, datas, framesB, List.flatMap_map]
theorem scanned_datas (xs : List ByteArray) (h : ∀ x ∈ xs, x.size ≤ 65536) (r : List UInt8) (hr : first r = none) : Scanned (framesB xs ++ r) (datas xs) r :=
  ⟨by rw [frames_datas], fun p hp => by obtain ⟨x, hx, rfl⟩ := List.mem_map.1 hp; rw [← Lib.size_eq]; exact h x hx, hr⟩
theorem framesB_len (xs : List ByteArray) : (framesB xs).length = 8 * xs.length + total xs := by
  induction xs with
  | nil => simp [framesB, total]
  | cons x xs ih =>
    simp only [framesB, total, List.flatMap_cons, List.length_append, List.map_cons, List.sum_cons, List.length_cons, frame_len] at ih ⊢
    rw [ih, Lib.size_eq]
    omega
theorem total_take (xs : List ByteArray) (k : Nat) : total (xs.take k) ≤ total xs := by
  conv => rhs; rw [← List.take_append_drop k xs]
  simp only [total, List.map_append, List.sum_append]
  omega
theorem framesB_take (xs : List ByteArray) (k : Nat) : (framesB (xs.take k)).length ≤ 8 * xs.length + total xs := by
  rw [framesB_len]
  have h1 := total_take xs k
  have h2 : (xs.take k).length ≤ xs.length := by rw [List.length_take]; omega
  omega
theorem size_total {xs : List ByteArray} {x : ByteArray} (h : x ∈ xs) : x.size ≤ total xs := by
  induction xs with
  | nil => cases h
  | cons y ys ih =>
    simp only [total, List.map_cons, List.sum_cons] at ih ⊢
    rcases List.mem_cons.1 h with rfl | h
    · omega
    · have := ih h; omega
/-- Seal, where the payloads together are no greater than a machine's memory. -/
theorem seal_small (ao : Option Addr) (cap : Nat) (xs : List ByteArray) (w : World) (hc : CellsAt w ao (strVals xs)) (hb : 8 * xs.length + total xs ≤ 70368744177600) :
    Calls Try.prog 24 #[.slice ao xs.length cap] w fun e w' => e = .returned (sealed xs) ∧ Below w.heap.size w w' :=
  seal_any ao cap xs w hc (by omega) (fun x hx => by have := size_total hx; omega) (fun k _ _ => by have := framesB_take xs k; omega)
theorem seal_one (X : ByteArray) (w : World) (hX : X.size ≤ 9223372036854775807) :
    Calls Try.prog 24 #[.slice (some ⟨w.heap.size, 0, none⟩) 1 1] (w.alloc (.cells #[.string X] 9)) fun e w' => e = .returned (sealed [X]) ∧ Below w.heap.size w w' := by
  refine (seal_any (some ⟨w.heap.size, 0, none⟩) 1 [X] _ (cells1' X) (by simp) (by intro x hx; simp at hx; subst hx; exact hX) ?_).mono ?_
  · intro k hk hs
    match k, hk with
    | 0, _ => simp [framesB]
    | 1, _ =>
      have := hs X (by simp)
      rw [framesB_len]
      simp [total]
      omega
  · rintro e w' ⟨rfl, hb⟩
    exact ⟨rfl, ((Below.refl _ _).alloc (Nat.le_refl _) _).trans (hb.mono (by simp))⟩
theorem sealed_ok {xs : List ByteArray} (h : ∀ x ∈ xs, x.size ≤ 65536) : sealed xs = .tuple #[.string (str (framesB xs)), .int .i64 0] := by unfold sealed; rw [if_pos h]
theorem sealed_long {xs : List ByteArray} (h : ¬ ∀ x ∈ xs, x.size ≤ 65536) : sealed xs = .tuple #[.string ⟨#[]⟩, .int .i64 2] := by unfold sealed; rw [if_neg h]
/-- Scan of the payloads' frames, with something behind them that begins with no frame. -/
theorem scan_frames (T : ByteArray) (xs : List ByteArray) (r : List UInt8) (w : World) (h : ∀ x ∈ xs, x.size ≤ 65536) (hr : first r = none) (hT : T.data.toList = framesB xs ++ r) (hb : T.size ≤ 70368744177600) :
    Calls Try.prog 21 #[.string T] w fun e w' => ∃ ao cap, e = .returned (.tuple #[.slice ao xs.length cap, .int .i64 ((framesB xs).length : Nat)]) ∧ CellsAt w' ao (strVals xs) ∧ Below w.heap.size w w' := by
  refine (scan_any T w hb).mono ?_
  rintro e w' ⟨⟨v, n, ps, rfl, hU, hf, hown⟩, hB⟩
  obtain ⟨rfl, hn⟩ := hU.unique hf (by rw [hT]; exact scanned_datas xs h r hr)
  rw [frames_datas] at hn
  subst hn
  rw [strs_datas, datas_len] at hown
  obtain ⟨ao, cap, rfl, hc⟩ := own_cells hown
  exact ⟨ao, cap, rfl, hc, hB⟩
/-- .. and the answer's row is new. -/
theorem scan_own (T : ByteArray) (xs : List ByteArray) (r : List UInt8) (w : World) (h : ∀ x ∈ xs, x.size ≤ 65536) (hr : first r = none) (hT : T.data.toList = framesB xs ++ r) (hb : T.size ≤ 70368744177600) :
    Calls Try.prog 21 #[.string T] w fun e w' => ∃ ao cap, e = .returned (.tuple #[.slice ao xs.length cap, .int .i64 ((framesB xs).length : Nat)]) ∧ w'.ownsRow w.heap.size 9 1 (.slice ao xs.length cap) xs.length (strVals xs) ∧ Below w.heap.size w w' := by
  refine (scan_any T w hb).mono ?_
  rintro e w' ⟨⟨v, n, ps, rfl, hU, hf, hown⟩, hB⟩
  obtain ⟨rfl, hn⟩ := hU.unique hf (by rw [hT]; exact scanned_datas xs h r hr)
  rw [frames_datas] at hn
  subst hn
  rw [strs_datas, datas_len] at hown
  obtain ⟨ao, cap, rfl, hc⟩ := own_cells hown
  exact ⟨ao, cap, rfl, hown, hB⟩
/-- Frames that were cut off: some first ones, and something that begins with no frame. -/
theorem framesB_cons (x : ByteArray) (xs : List ByteArray) : framesB (x :: xs) = frame x.data.toList ++ framesB xs := rfl
theorem framesB_append (xs ys : List ByteArray) : framesB (xs ++ ys) = framesB xs ++ framesB ys := by simp [framesB]
theorem framesB_cut (xs : List ByteArray) (h : ∀ x ∈ xs, x.size ≤ 65536) (j : Nat) : ∃ i r, i ≤ xs.length ∧ (framesB xs).take j = framesB (xs.take i) ++ r ∧ first r = none := by
  induction xs generalizing j with
  | nil => exact ⟨0, [], Nat.le_refl _, by simp [framesB], first_short (by decide)⟩
  | cons x xs ih =>
    have hx : x.data.toList.length ≤ 65536 := by rw [← Lib.size_eq]; exact h x (by simp)
    by_cases hj : j < (frame x.data.toList).length
    · refine ⟨0, (frame x.data.toList).take j, Nat.zero_le _, ?_, first_cut _ hx j (by rw [frame_len] at hj; exact hj)⟩
      rw [framesB_cons, List.take_append_of_le_length (by omega)]
      simp [framesB]
    · obtain ⟨i, r, hi, he, hr⟩ := ih (fun y hy => h y (List.mem_cons_of_mem _ hy)) (j - (frame x.data.toList).length)
      refine ⟨i + 1, r, by simpa using hi, ?_, hr⟩
      rw [framesB_cons, List.take_append, List.take_of_length_le (by omega), he, List.take_succ_cons, framesB_cons, List.append_assoc]

end Go.Proofs.Ytpiaegkeclmpgaa.Fr
