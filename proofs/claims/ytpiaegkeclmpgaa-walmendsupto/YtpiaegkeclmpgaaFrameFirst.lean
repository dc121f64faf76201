/-
  Package frame: what stands at a text's beginning (opened) and at a place (First).
-/
import Derived.Test.YtpiaegkeclmpgaaFrameWord
import Derived.Test.YtpiaegkeclmpgaaCmClone
namespace Go.Proofs.Ytpiaegkeclmpgaa.Fr
open Go.RowKit Cm
set_option linter.unusedVariables false

theorem ext_list (s : ByteArray) (a b : Nat) : (s.extract a b).data.toList = (s.data.toList.drop a).take (b - a) := by rw [Lib.extract_data]
theorem below_drew {B : Nat} {w w' : World} {n : Nat} (h : Below B w w') : Below B w (w'.drewN n) := ⟨h.os, h.tape, h.output, h.size, h.block⟩

/-- What opened answers of a text: whether a whole frame stands at its beginning, and its payload if so. -/
def Opened (s : ByteArray) (e : Ending) : Prop :=
  ∃ x b, e = .returned (.tuple #[.string x, .bool b]) ∧ b = (first s.data.toList).isSome ∧ ∀ n, first s.data.toList = some n → x.data.toList = (s.data.toList.drop 8).take n
theorem opened_not {s x : ByteArray} (h : first s.data.toList = none) : Opened s (.returned (.tuple #[.string x, .bool false])) :=
  ⟨_, false, rfl, by rw [h]; rfl, fun n hn => by rw [h] at hn; cases hn⟩
theorem opened_is {s x : ByteArray} {n a b : Nat} (h : first s.data.toList = if a = b then some n else none) (hx : x.data.toList = (s.data.toList.drop 8).take n) : Opened s (.returned (.tuple #[.string x, .bool ((a : Int) == (b : Int))])) := by
  refine ⟨_, _, rfl, ?_, fun m hm => ?_⟩
  · rw [h]
    by_cases e : a = b
    · subst e; simp
    · rw [if_neg e]; simp; omega
  · rw [h] at hm
    split at hm
    · simp only [Option.some.injEq] at hm
      rw [← hm]; exact hx
    · cases hm
theorem cells2 {w : World} {k : Nat} (X Z : ByteArray) : CellsAt ((w.drewN k).alloc (.cells #[.string X, .string Z] 9)) (some ⟨w.heap.size, 0, none⟩) (strVals [X, Z]) := by
  refine .inr ⟨w.heap.size, 0, rfl, by simp, fun j hj => ?_⟩
  have := cell_of_row _ _ (0 + j) _ _ _ (heap_alloc_new (w.drewN k) (.cells #[.string X, .string Z] 9))
  refine this.trans ?_
  simp [strVals]

set_option maxHeartbeats 1000000 in
theorem opened_any (s : ByteArray) (hs : s.size ≤ 140737488355328) (w : World) :
    Calls Try.prog 42 #[.string s] w fun e w' => Opened s e ∧ Below w.heap.size w w' := by
  by_cases h8 : s.size < 8
  · have HF : Hid (first s.data.toList = none) := first_short (by rw [← Lib.size_eq]; exact h8)
    go_enter Try.func42, Try.ntmps42
    go_wp2
    go_ret2
    exact ⟨opened_not HF.out, Below.refl _ _⟩
  · have h8' : 8 ≤ s.size := by omega
    have hl8 : 8 ≤ s.data.toList.length := by rw [← Lib.size_eq]; exact h8'
    obtain ⟨X, hX⟩ : ∃ X, X = s.extract 0 4 := ⟨_, rfl⟩
    obtain ⟨Y, hY⟩ : ∃ Y, Y = s.extract 4 8 := ⟨_, rfl⟩
    obtain ⟨R, hR⟩ : ∃ R, R = s.extract 8 s.size := ⟨_, rfl⟩
    have hXs : X.size = 4 := by rw [hX]; simp; omega
    have hYs : Y.size = 4 := by rw [hY]; simp; omega
    have hRs : R.size = s.size - 8 := by rw [hR]; simp
    have HX : Hid (X.data.toList = s.data.toList.take 4) := by rw [hX, ext_list]; exact hid_rfl
    have HY : Hid (Y.data.toList = (s.data.toList.drop 4).take 4) := by rw [hY, ext_list]; exact hid_rfl
    have HR : Hid (R.data.toList = s.data.toList.drop 8) := by rw [hR, ext_list, List.take_of_length_le (by simp)]; exact hid_rfl
    have hX' := hX.symm
    have hY' := hY.symm
    have hR' := hR.symm
    clear hX hY hR
    go_enter Try.func42, Try.ntmps42
    go_wp2
    go_quiet (fail)
    go_wp2_with fail
    refine (word_any X hXs _).mono ?_
    rintro e w1 ⟨rfl, n1, rfl⟩
    have hwl := word_lt X.data.toList
    have HW : Hid (word X.data.toList = word (s.data.toList.take 4)) := by rw [HX.out]; exact hid_rfl
    obtain ⟨n, hn⟩ : ∃ n, n = word X.data.toList := ⟨_, rfl⟩
    rw [← hn] at hwl HW ⊢
    clear hn
    by_cases hbig : 65536 < n
    · have HF : Hid (first s.data.toList = none) := by
        show first _ = none
        unfold first; rw [if_neg (by omega), ← HW.out, if_pos (.inl hbig)]
      go_wp2
      go_ret2
      exact ⟨opened_not HF.out, below_drew (Below.refl _ _)⟩
    · by_cases hlong : R.size < n
      · have HF : Hid (first s.data.toList = none) := by
          show first _ = none
          unfold first; rw [if_neg (by omega), ← HW.out, if_pos (.inr (by rw [← Lib.size_eq]; omega))]
        go_wp2
        go_ret2
        exact ⟨opened_not HF.out, below_drew (Below.refl _ _)⟩
      · obtain ⟨Z, hZ⟩ : ∃ Z, Z = R.extract 0 n := ⟨_, rfl⟩
        have hZs : Z.size = n := by rw [hZ]; simp; omega
        have HZ : Hid (Z.data.toList = (s.data.toList.drop 8).take n) := by rw [hZ, ext_list, HR.out]; exact hid_rfl
        have hZ' := hZ.symm
        clear hZ
        have HF : Hid (first s.data.toList = if word Y.data.toList = sum (cat [X, Z]) then some n else none) := by
          show first _ = _
          unfold first; rw [if_neg (by omega), ← HW.out, if_neg (by rw [← Lib.size_eq]; omega), ← HY.out, ← HX.out, ← HZ.out]
          simp only [cat, List.flatMap_cons, List.flatMap_nil, List.append_nil]
        go_wp2_with fail
        refine (word_any Y hYs _).mono ?_
        rintro e w2 ⟨rfl, n2, rfl⟩
        go_wp2_with fail
        refine (sum_any (some ⟨w.heap.size, 0, none⟩) 2 [X, Z] _ (cells2 X Z) (by simp) ?c2).mono ?_
        case c2 => intro x hx; simp at hx; rcases hx with rfl | rfl <;> omega
        rintro e w3 ⟨rfl, rfl⟩
        go_wp2
        go_ret2
        exact ⟨opened_is HF.out HZ.out, (below_drew (Below.refl _ _)).alloc (Nat.le_refl _) _⟩

theorem opened_none (s : ByteArray) (hs : s.size ≤ 140737488355328) (w : World) (h : first s.data.toList = none) :
    Calls Try.prog 42 #[.string s] w fun e w' => ∃ x, e = .returned (.tuple #[.string x, .bool false]) ∧ Below w.heap.size w w' := by
  refine (opened_any s hs w).mono ?_
  rintro e w' ⟨⟨x, b, rfl, hb, _⟩, hB⟩
  rw [h] at hb
  exact ⟨x, by rw [hb]; rfl, hB⟩
theorem opened_some (s : ByteArray) (hs : s.size ≤ 140737488355328) (w : World) (p r : List UInt8) (hp : p.length ≤ 65536) (h : s.data.toList = frame p ++ r) :
    Calls Try.prog 42 #[.string s] w fun e w' => e = .returned (.tuple #[.string (str p), .bool true]) ∧ Below w.heap.size w w' := by
  refine (opened_any s hs w).mono ?_
  rintro e w' ⟨⟨x, b, rfl, hb, hx⟩, hB⟩
  have hf := first_frame p r hp
  rw [← h] at hf
  rw [hf] at hb
  have h1 := hx _ hf
  have h2 : s.data.toList.drop 8 = p ++ r := by
    rw [h, frame, show 8 = 4 + 4 from rfl, ← List.drop_drop, List.append_assoc, List.drop_left' (four_len _), List.append_assoc, List.drop_left' (four_len _)]
  rw [h2, List.take_left' rfl] at h1
  have h3 : x = str p := by rw [← str_back x, h1]; rfl
  exact ⟨by rw [hb, h3]; rfl, hB⟩

set_option maxHeartbeats 1000000 in
theorem first_none (T : ByteArray) (k : Int) (w : World) (hT : T.size ≤ 140737488355328) (hk1 : -9223372036854775808 ≤ k) (hk2 : k ≤ 9223372036854775807) (h : 0 ≤ k → k ≤ T.size → first (T.data.toList.drop k.toNat) = none) :
    Calls Try.prog 31 #[.string T, .int .i64 k] w fun e w' => e = .returned (.tuple #[.string ⟨#[]⟩, .int .i64 0, .int .i64 1]) ∧ Below w.heap.size w w' := by
  by_cases hn : k < 0
  · clear h
    go_enter Try.func31, Try.ntmps31
    go_wp2
    go_ret3
    exact ⟨rfl, Below.refl _ _⟩
  · by_cases hb : (T.size : Int) < k
    · clear h
      go_enter Try.func31, Try.ntmps31
      go_wp2
      go_ret3
      exact ⟨rfl, Below.refl _ _⟩
    · obtain ⟨n, rfl⟩ := Int.eq_ofNat_of_zero_le (show 0 ≤ k by omega)
      have hnT : n ≤ T.size := by omega
      have hf := h (by omega) (by omega)
      rw [Int.toNat_natCast] at hf
      obtain ⟨X, hX⟩ : ∃ X, X = T.extract n T.size := ⟨_, rfl⟩
      have hXs : X.size ≤ 140737488355328 := by rw [hX]; simp; omega
      have HF : Hid (first X.data.toList = none) := by rw [hX, ext_list, List.take_of_length_le (by simp)]; exact hf
      have hX' := hX.symm
      clear hX h hf
      go_enter Try.func31, Try.ntmps31
      go_wp2_with fail
      refine (opened_none X hXs _ HF.out).mono ?_
      rintro e w1 ⟨x, rfl, hb1⟩
      go_wp2
      go_ret3
      exact ⟨rfl, hb1⟩

set_option maxHeartbeats 1000000 in
theorem first_at (T : ByteArray) (n : Nat) (w : World) (hT : T.size ≤ 140737488355328) (p r : List UInt8) (hp : p.length ≤ 65536) (h : T.data.toList.drop n = frame p ++ r) :
    Calls Try.prog 31 #[.string T, .int .i64 n] w fun e w' => e = .returned (.tuple #[.string (str p), .int .i64 ((n : Int) + 8 + (p.length : Int)), .int .i64 0]) ∧ Below w.heap.size w w' := by
  have hl := congrArg List.length h
  rw [List.length_drop, List.length_append, frame_len, ← Lib.size_eq] at hl
  have hnT : n ≤ T.size := by omega
  obtain ⟨X, hX⟩ : ∃ X, X = T.extract n T.size := ⟨_, rfl⟩
  have hXs : X.size ≤ 140737488355328 := by rw [hX]; simp; omega
  have HF : Hid (X.data.toList = frame p ++ r) := by rw [hX, ext_list, List.take_of_length_le (by simp)]; exact h
  have hX' := hX.symm
  have hPs : (str p).size = p.length := by rw [Lib.size_eq]; rfl
  clear hX h
  go_enter Try.func31, Try.ntmps31
  go_wp2_with fail
  refine (opened_some X hXs _ p r hp HF.out).mono ?_
  rintro e w1 ⟨rfl, hb1⟩
  go_wp2_with fail
  refine (clone_any (str p) _ (by omega)).mono ?_
  rintro e w2 ⟨rfl, hb2⟩
  have hsz := hb1.size
  go_wp2
  go_ret3
  exact ⟨rfl, hb1.trans (hb2.mono hsz)⟩

end Go.Proofs.Ytpiaegkeclmpgaa.Fr
