/-
  Package manifest: a name read.
-/
import Derived.Test.YtjfanbemihheiaaGreatDoorQManParse
import Derived.Shelf.Strconv.AtoiAll
import Derived.Shelf.Strconv.ErrVarAll
import Derived.BigQuiet
namespace Go.Proofs.YtjfanbemihheiaaGreatDoor.Ma
open Go.RowKit
set_option linter.unusedVariables false

/-- The letter and the number of a name. -/
def parsed (s : List UInt8) : Option (UInt8 × Int) := match s with
  | [] => none
  | c :: r => if isL (c.toNat : Int) = true then (match Lib.atoiAll r with | .ok v => if 1 ≤ v ∧ Lib.itoa v = r then some (c, v) else none | _ => none) else none
def parseV : Option (UInt8 × Int) → Value
  | some (c, v) => .tuple #[.int .u8 c.toNat, .int .i64 v, .bool true]
  | none => .tuple #[.int .u8 0, .int .i64 0, .bool false]
theorem parse_empty (w : World) : Calls Tryz.prog 22 #[.string ⟨#[]⟩] w fun e w' => e = .returned (parseV (parsed [])) ∧ w' = w := by
  go_enter Tryz.func22, Tryz.ntmps22
  go_wp2
  refine bodyPost_ret (v := .tuple #[.int .u8 0, .int .i64 0, .bool false]) (by simp [results, Tryz.results22, go_sem]) rfl ?_
  exact ⟨rfl, rfl⟩
theorem parse_letter (c : UInt8) (r : List UInt8) (hl : isL (c.toNat : Int) = false) (w : World) : Calls Tryz.prog 22 #[.string ⟨(c :: r).toArray⟩] w fun e w' => e = .returned (parseV (parsed (c :: r))) ∧ w' = w := by
  have hp : parsed (c :: r) = none := by show (if isL (c.toNat : Int) = true then _ else none) = none; rw [hl]; rfl
  rw [hp]
  have HI : Hid _ := isLetter_any (c.toNat : Int) w
  rw [hl] at HI
  go_enter Tryz.func22, Tryz.ntmps22
  go_wp2_with (go_at_call 51; refine (show Calls _ _ _ _ _ from HI.out).mono ?_; rintro e w1 ⟨rfl, rfl⟩)
  refine bodyPost_ret (v := .tuple #[.int .u8 0, .int .i64 0, .bool false]) (by simp [results, Tryz.results22, go_sem]) rfl ?_
  exact ⟨rfl, rfl⟩
theorem tail_is (c : UInt8) (r : List UInt8) : (ByteArray.mk (c :: r).toArray).extract 1 (r.length + 1) = ⟨r.toArray⟩ := by
  apply ByteArray.ext
  rw [ByteArray.data_extract]
  simp
/-- The two errors' variables hold errors. -/
structure Errs (w : World) : Prop where
  syn : ∃ tp p, w.var? Tryz.prog "strconv.ErrSyntax" = some #[.iface tp p]
  rng : ∃ tp p, w.var? Tryz.prog "strconv.ErrRange" = some #[.iface tp p]
theorem Errs.below {w w' : World} (h : Errs w) (hb : Below w.heap.size w w') : Errs w' := by
  obtain ⟨⟨t, p, h1⟩, ⟨u, q, h2⟩⟩ := h
  exact ⟨⟨t, p, var_below h1 hb⟩, ⟨u, q, var_below h2 hb⟩⟩
theorem atoi_err (r : List UInt8) (hs : r.length ≤ 281474976710656) (hno : ∀ v, Lib.atoiAll r ≠ .ok v) (w : World) (he : Errs w) : Calls Tryz.prog 52 #[.string ⟨r.toArray⟩] w fun e w' => ∃ k t q, e = .returned (.tuple #[.int .i64 k, .iface t q]) ∧ Below w.heap.size w w' := by
  have hz : (⟨r.toArray⟩ : ByteArray).size ≤ 281474976710656 := by show r.toArray.size ≤ _; rw [List.size_toArray]; exact hs
  obtain ⟨⟨t, q, h1⟩, ⟨u, z, h2⟩⟩ := he
  cases h : Lib.atoiAll r
  · exact absurd h (hno _)
  · refine (Any.strconv_Atoi_syntax_var Tryz.atoiC ⟨r.toArray⟩ hz h t q w h1).mono ?_
    rintro e w' ⟨N, rfl, _, _, hb⟩
    exact ⟨_, _, _, rfl, hb⟩
  · refine (Any.strconv_Atoi_range_var Tryz.atoiC ⟨r.toArray⟩ hz h u z w h2).mono ?_
    rintro e w' ⟨N, rfl, _, _, hb⟩
    exact ⟨_, _, _, rfl, hb⟩
theorem parsed_err (c : UInt8) (r : List UInt8) (hno : ∀ v, Lib.atoiAll r ≠ .ok v) : parsed (c :: r) = none := by
  show (if isL (c.toNat : Int) = true then (match Lib.atoiAll r with | .ok v => if 1 ≤ v ∧ Lib.itoa v = r then some (c, v) else none | _ => none) else none) = none
  cases h : Lib.atoiAll r
  · exact absurd h (hno _)
  · split <;> rfl
  · split <;> rfl
theorem parse_err (c : UInt8) (r : List UInt8) (hl : isL (c.toNat : Int) = true) (hno : ∀ v, Lib.atoiAll r ≠ .ok v) (hs : r.length ≤ 281474976710656) (w : World) (he : Errs w) : Calls Tryz.prog 22 #[.string ⟨(c :: r).toArray⟩] w fun e w' => e = .returned (parseV (parsed (c :: r))) ∧ Below w.heap.size w w' := by
  rw [parsed_err c r hno]
  have HI : Hid _ := isLetter_any (c.toNat : Int) w
  rw [hl] at HI
  have HA : Hid (∀ w', Below w.heap.size w w' → Calls Tryz.prog 52 #[.string ⟨r.toArray⟩] w' fun e w2 => ∃ k t q, e = .returned (.tuple #[.int .i64 k, .iface t q]) ∧ Below w'.heap.size w' w2) := fun w' hb => atoi_err r hs hno w' (he.below hb)
  have h1 : (1 : Int) ≤ ((r.length : Nat) : Int) + 1 := by omega
  clear hno he
  go_enter Tryz.func22, Tryz.ntmps22
  go_wp2_with (go_at_call 51; refine (show Calls _ _ _ _ _ from HI.out).mono ?_; rintro e w1 ⟨rfl, rfl⟩)
  go_quiet (fail)
  rw [tail_is]
  have hd1 : Below w1.heap.size w1 (w1.drewN nq) := ⟨rfl, rfl, rfl, Nat.le_refl _, fun _ _ => rfl⟩
  have HA1 : Hid _ := HA.out _ hd1
  clear HA HI
  go_wp2_with (go_at_call 52; refine (show Calls _ _ _ _ _ from HA1.out).mono ?_; rintro e w2 ⟨k, t, q, rfl, hb2⟩)
  refine bodyPost_ret (v := .tuple #[.int .u8 0, .int .i64 0, .bool false]) (by simp [results, Tryz.results22, go_sem]) rfl ?_
  exact ⟨rfl, hd1.trans (hb2.mono hd1.size)⟩
theorem below_bytes {X w2 : World} {e : TypeId} (h : w2 = X ∨ ∃ t, w2 = Lib.bytesWorld X e t) : Below X.heap.size X w2 := by
  rcases h with rfl | ⟨t, rfl⟩
  · exact Below.refl _ _
  · exact Lib.bytesWorld_below _ _ _
theorem parse_ok (c : UInt8) (r : List UInt8) (v : Int) (hl : isL (c.toNat : Int) = true) (hr : Lib.atoiAll r = .ok v) (hs : r.length ≤ 281474976710656) (w : World) (hpw : Pow w) : Calls Tryz.prog 22 #[.string ⟨(c :: r).toArray⟩] w fun e w' => e = .returned (parseV (parsed (c :: r))) ∧ Below w.heap.size w w' := by
  have hp : parsed (c :: r) = if 1 ≤ v ∧ Lib.itoa v = r then some (c, v) else none := by show (if isL (c.toNat : Int) = true then (match Lib.atoiAll r with | .ok v => if 1 ≤ v ∧ Lib.itoa v = r then some (c, v) else none | _ => none) else none) = _; rw [hl, hr]; rfl
  rw [hp]
  have hv := Lib.atoiAll_bounds hr
  have HI : Hid _ := isLetter_any (c.toNat : Int) w
  rw [hl] at HI
  have HA : Hid _ := fun w' => Any.strconv_Atoi_ok Tryz.atoiC ⟨r.toArray⟩ (by show r.toArray.size ≤ _; rw [List.size_toArray]; omega) v hr w'
  have HT : Hid (∀ w', Below w.heap.size w w' → Calls Tryz.prog 50 #[.int .i64 v] w' fun e w'' => e = .returned (.string (digits v)) ∧ Below w'.heap.size w' w'') := fun w' hb => itoa_any v hv w' (hpw.below hb)
  have h1 : (1 : Int) ≤ ((r.length : Nat) : Int) + 1 := by omega
  clear hp hr
  go_enter Tryz.func22, Tryz.ntmps22
  go_wp2_with (go_at_call 51; refine (show Calls _ _ _ _ _ from HI.out).mono ?_; rintro e w1 ⟨rfl, rfl⟩)
  go_quiet (fail)
  rw [tail_is]
  have hd1 : Below w1.heap.size w1 (w1.drewN nq) := ⟨rfl, rfl, rfl, Nat.le_refl _, fun _ _ => rfl⟩
  have HA1 : Hid _ := HA.out (w1.drewN nq)
  clear HA HI
  have HD1 : Hid (Below w1.heap.size w1 (w1.drewN nq)) := hd1
  clear hd1
  generalize w1.drewN nq = X at *
  go_wp2_with fail
  refine (show Calls _ _ _ _ _ from HA1.out).mono ?_
  rintro e w2 ⟨rfl, hw2⟩
  have hb2 : Below X.heap.size X w2 := below_bytes hw2
  have hbw : Below w1.heap.size w1 w2 := HD1.out.trans (hb2.mono HD1.out.size)
  have HT2 : Hid _ := HT.out w2 hbw
  have HBw : Hid (Below w1.heap.size w1 w2) := hbw
  clear HT HA1 hw2 hb2 hbw HD1
  by_cases hv1 : v < 1
  · have hn : ¬ (1 ≤ v ∧ Lib.itoa v = r) := fun h => by omega
    have hd : decide (v < 1) = true := decide_eq_true hv1
    go_wp2
    refine bodyPost_ret (v := .tuple #[.int .u8 0, .int .i64 0, .bool false]) (by simp [results, Tryz.results22, go_sem]) rfl ?_
    exact ⟨rfl, HBw.out⟩
  · have hd : decide (v < 1) = false := decide_eq_false hv1
    by_cases he : Lib.itoa v = r
    · have hy : 1 ≤ v ∧ Lib.itoa v = r := ⟨by omega, he⟩
      have hdg : digits v = ⟨r.toArray⟩ := by unfold digits; rw [he]
      rw [hdg] at HT2
      go_wp2_with (go_at_call 50; refine (show Calls _ _ _ _ _ from HT2.out).mono ?_; rintro e w3 ⟨rfl, hb3⟩)
      refine bodyPost_ret (v := .tuple #[.int .u8 c.toNat, .int .i64 v, .bool true]) (by simp [results, Tryz.results22, go_sem]; rfl) rfl ?_
      exact ⟨rfl, HBw.out.trans (hb3.mono HBw.out.size)⟩
    · have hn : ¬ (1 ≤ v ∧ Lib.itoa v = r) := fun h => he h.2
      have hne : digits v ≠ ⟨r.toArray⟩ := by
        intro h
        apply he
        have := congrArg (fun b : ByteArray => b.data.toList) h
        simpa [digits] using this
      have hbr : ((digits v).toList == r) = false := by
        rw [beq_eq_false_iff_ne]
        intro h
        rw [ByteArray.toList_eq] at h
        exact he (by simpa [digits] using h)
      clear hne
      go_wp2_with (go_at_call 50; refine (show Calls _ _ _ _ _ from HT2.out).mono ?_; rintro e w3 ⟨rfl, hb3⟩)
      refine bodyPost_ret (v := .tuple #[.int .u8 0, .int .i64 0, .bool false]) (by simp [results, Tryz.results22, go_sem]) rfl ?_
      exact ⟨rfl, HBw.out.trans (hb3.mono HBw.out.size)⟩
end Go.Proofs.YtjfanbemihheiaaGreatDoor.Ma
