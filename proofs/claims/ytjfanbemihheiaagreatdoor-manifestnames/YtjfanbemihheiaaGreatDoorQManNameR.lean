/-
  The reference: a name; a name read.
-/
import Derived.Test.YtjfanbemihheiaaGreatDoorQManParse2
import Derived.Test.YtjfanbemihheiaaGreatDoorQManHeap
namespace Go.Proofs.YtjfanbemihheiaaGreatDoor.Ma
open Go.RowKit
set_option linter.unusedVariables false

/-- A letter and a number's digits. -/
def nm (c : UInt8) (n : Int) : ByteArray := ⟨(c :: Lib.itoa n).toArray⟩
theorem nm_is (c : UInt8) (n : Int) : (⟨#[c]⟩ : ByteArray) ++ digits n = nm c n := by
  apply ByteArray.ext
  simp [digits, nm]
theorem nm_t (n : Int) : nameStr (Utf8.encode 116) n = nm 116 n := by rw [← nm_is]; rfl
theorem nm_w (n : Int) : nameStr (Utf8.encode 119) n = nm 119 n := by rw [← nm_is]; rfl
theorem nm_m (n : Int) : nameStr (Utf8.encode 109) n = nm 109 n := by rw [← nm_is]; rfl
theorem nm_list (c : UInt8) (n : Int) : (nm c n).toList = c :: Lib.itoa n := by rw [ByteArray.toList_eq]; simp [nm]
theorem nm_size (c : UInt8) (n : Int) (h : OkI n) : (nm c n).size ≤ 22 := by
  have := Lib.itoa_length_le n h.1 h.2
  show (c :: Lib.itoa n).toArray.size ≤ 22
  rw [List.size_toArray, List.length_cons]; omega
theorem letter_at (c : UInt8) (g : Nat) (Y : World) (h : Y.heap[g]? = some (.cells #[.int .u8 c.toNat] 5 (0, 0))) : (convert 65 9 (.slice (some ⟨g, 0, none⟩) 1 1)).run Tryz.prog Y = .ok (.string ⟨#[c]⟩) Y := by
  refine run_convert_bytes_back Y 65 9 5 ⟨g, 0, none⟩ 1 [c] Tryz.underlying65 Tryz.underlying5 Tryz.underlying9 fun j hj => ?_
  obtain rfl : j = 0 := by simpa using hj
  rw [Go.WideShapes.add_plain, Nat.zero_add, Joins.cell_of_block h]; rfl
set_option maxRecDepth 100000 in
theorem nameR_any (c : UInt8) (n : Int) (hn : OkI n) (w : World) (hp : Pow w) : Calls Tryz.prog 19 #[.int .u8 c.toNat, .int .i64 n] w fun e w' => e = .returned (.string (nm c n)) ∧ Below w.heap.size w w' := by
  have HI : Hid (∀ X, Below w.heap.size w X → Calls Tryz.prog 50 #[.int .i64 n] X fun e w'' => e = .returned (.string (digits n)) ∧ Below X.heap.size X w'') := fun X hX => itoa_any n hn X (hp.below hX)
  have hs := digits_size n hn
  have h1 : (⟨#[c]⟩ : ByteArray).size = 1 := rfl
  have hsz : ¬ (9223372036854775807 < (⟨#[c]⟩ : ByteArray).size + (digits n).size) := by omega
  have HN : Hid ((⟨#[c]⟩ : ByteArray) ++ digits n = nm c n) := nm_is c n
  have hbd : Below w.heap.size w w.drew := ⟨rfl, rfl, rfl, Nat.le_refl _, fun _ _ => rfl⟩
  have hb0 : Below w.heap.size w (w.alloc (.cells #[.int .u8 c.toNat] 5)) := (Below.refl _ _).alloc (Nat.le_refl _) _
  have HB1 : Hid (Below w.heap.size w w.drew) := hbd
  have HB2 : Hid (Below w.heap.size w (w.alloc (.cells #[.int .u8 c.toNat] 5)).drew) := ⟨hb0.os, hb0.tape, hb0.output, hb0.size, hb0.block⟩
  have hcv : (convert 65 9 (.slice (some ⟨w.heap.size, 0, none⟩) 1 1)).run Tryz.prog (w.alloc (.cells #[.int .u8 c.toNat] 5)).drew = .ok (.string ⟨#[c]⟩) (w.alloc (.cells #[.int .u8 c.toNat] 5)).drew := letter_at c _ _ (heap_alloc_new w _)
  have HCv : Hid (∀ Y, Below (w.alloc (.cells #[.int .u8 c.toNat] 5)).drew.heap.size (w.alloc (.cells #[.int .u8 c.toNat] 5)).drew Y → (convert 65 9 (.slice (some ⟨w.heap.size, 0, none⟩) 1 1)).run Tryz.prog Y = .ok (.string ⟨#[c]⟩) Y) := fun Y hY => letter_at c _ _ ((hY.block _ (by simp)).trans (heap_alloc_new w _))
  clear hbd hb0
  go_enter Tryz.func19, Tryz.ntmps19
  go_wp2_with fail
  go_region_with (go_at_call 50; first
    | (refine (show Calls _ _ _ _ _ from HI.out _ HB1.out).mono ?_; rintro e w1 ⟨rfl, hb1⟩; have hc1 := letter_at c _ _ (heap_alloc_new w1 (.cells #[.int .u8 c.toNat] 5)))
    | (refine (show Calls _ _ _ _ _ from HI.out _ HB2.out).mono ?_; rintro e w1 ⟨rfl, hb1⟩; have hc1 := HCv.out _ hb1))
  all_goals
    go_wp2
    go_ret
    first
      | exact ⟨by rw [HN.out]; rfl, HB1.out.trans ((hb1.mono HB1.out.size).alloc (Nat.le_trans HB1.out.size hb1.size) _)⟩
      | exact ⟨by rw [HN.out]; rfl, HB2.out.trans (hb1.mono HB2.out.size)⟩
theorem parsedE (c : UInt8) (r : List UInt8) : parsed (c :: r) = if isL (c.toNat : Int) = true then (match Lib.atoiAll r with | .ok v => if 1 ≤ v ∧ Lib.itoa v = r then some (c, v) else none | _ => none) else none := rfl
theorem atoi_nil (v : Int) : Lib.atoiAll [] ≠ .ok v := by
  intro h
  cases h
theorem nm_cmp (c : UInt8) (r : List UInt8) (n : Int) : ((nm c n).toList == c :: r) = decide (Lib.itoa n = r) := by
  rw [nm_list, Bool.eq_iff_iff, beq_iff_eq, decide_eq_true_iff]
  simp
/-- What the document's Parse makes of the number that Atoi answers beside its error. -/
def numR (r : List UInt8) : Int := match Lib.atoiAll r with | .ok v => v | .range => Lib.atoiSat r | _ => 0
theorem numR_ok (r : List UInt8) : OkI (numR r) := by
  unfold numR
  cases h : Lib.atoiAll r
  · exact Lib.atoiAll_bounds h
  · exact OkI.zero
  · exact Lib.atoiSat_bounds r
theorem parsed_num (c : UInt8) (r : List UInt8) (hl : isL (c.toNat : Int) = true) : parsed (c :: r) = if 1 ≤ numR r ∧ Lib.itoa (numR r) = r then some (c, numR r) else none := by
  rw [parsedE, if_pos hl]
  have hk := numR_ok r
  unfold numR at *
  cases h : Lib.atoiAll r
  · rfl
  · simp
  · simp only
    rw [h] at hk
    simp only at hk
    rw [if_neg]
    rintro ⟨h1, h2⟩
    have := atoi_itoa (Lib.atoiSat r) (by omega) hk.2
    rw [h2, h] at this
    cases this
set_option maxRecDepth 100000 in
theorem parseR_empty (w : World) : Calls Tryz.prog 23 #[.string ⟨#[]⟩] w fun e w' => e = .returned (parseV (parsed [])) ∧ w' = w := by
  go_enter Tryz.func23, Tryz.ntmps23
  go_wp2
  refine bodyPost_ret (v := .tuple #[.int .u8 0, .int .i64 0, .bool false]) (by simp [results, Tryz.results23, go_sem]) rfl ?_
  exact ⟨rfl, rfl⟩
set_option maxRecDepth 100000 in
theorem parseR_one (c : UInt8) (w : World) : Calls Tryz.prog 23 #[.string ⟨[c].toArray⟩] w fun e w' => e = .returned (parseV (parsed [c])) ∧ w' = w := by
  have hp : parsed [c] = none := parsed_err c [] atoi_nil
  rw [hp]
  go_enter Tryz.func23, Tryz.ntmps23
  go_wp2
  refine bodyPost_ret (v := .tuple #[.int .u8 0, .int .i64 0, .bool false]) (by simp [results, Tryz.results23, go_sem]) rfl ?_
  exact ⟨rfl, rfl⟩
theorem atoi_num (r : List UInt8) (hs : r.length ≤ 281474976710656) (w : World) (he : Errs w) : Calls Tryz.prog 52 #[.string ⟨r.toArray⟩] w fun e w' => ∃ ev, e = .returned (.tuple #[.int .i64 (numR r), ev]) ∧ Below w.heap.size w w' := by
  have hz : (⟨r.toArray⟩ : ByteArray).size ≤ 281474976710656 := by show r.toArray.size ≤ _; rw [List.size_toArray]; exact hs
  cases h : Lib.atoiAll r
  · refine (Any.strconv_Atoi_ok Tryz.atoiC ⟨r.toArray⟩ (by omega) _ h w).mono ?_
    rintro e w' ⟨rfl, hw⟩
    exact ⟨_, by unfold numR; rw [h], below_bytes hw⟩
  · obtain ⟨t, p, hv⟩ := he.syn
    refine (Any.strconv_Atoi_syntax_var Tryz.atoiC ⟨r.toArray⟩ hz h t p w hv).mono ?_
    rintro e w' ⟨N, rfl, _, _, hb⟩
    exact ⟨_, by unfold numR; rw [h], hb⟩
  · obtain ⟨t, p, hv⟩ := he.rng
    refine (Any.strconv_Atoi_range_var Tryz.atoiC ⟨r.toArray⟩ hz h t p w hv).mono ?_
    rintro e w' ⟨N, rfl, _, _, hb⟩
    exact ⟨_, by unfold numR; rw [h], hb⟩
end Go.Proofs.YtjfanbemihheiaaGreatDoor.Ma
