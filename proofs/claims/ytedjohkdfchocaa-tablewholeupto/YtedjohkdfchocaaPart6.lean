/-
  The texts FrameSum, FrameWord, FrameFirst, FrameSeal, FrameScan, FrameKit, BloomMath, joined.
-/
import Derived.Test.YtedjohkdfchocaaPart5
import Derived.Lib.SmallJoins
import Derived.WalkKit

/-
  Package frame: what the sum of parts, a word's four bytes and the word of four bytes come to.
-/
namespace Go.Proofs.Ytedjohkdfchocaa.Fr
open Go.RowKit Cm
set_option linter.unusedVariables false

theorem and1 (n : Nat) (h : n < 4294967296) : bits .and .u32 (n : Int) 1 = ((n % 2 : Nat) : Int) := by
  have := u32_and_nat n 1 (by omega) (by omega)
  rw [show ((1 : Nat) : Int) = 1 from rfl] at this
  rw [this, Nat.and_one_is_mod]
theorem xorPoly (n : Nat) (h : n < 4294967296) : bits .xor .u32 (n : Int) 3988292384 = ((n ^^^ poly : Nat) : Int) := by
  have := u32_xor_nat n poly (by omega) (by decide)
  exact this

def stepN : Nat → Nat → Nat
  | 0, r => r
  | k + 1, r => step (stepN k r)
theorem stepN_lt {r : Nat} (h : r < 4294967296) (k : Nat) : stepN k r < 4294967296 := by
  induction k with
  | zero => exact h
  | succ k ih => exact step_lt ih

set_option maxHeartbeats 1000000 in
theorem shifted_any (r : Nat) (h : r < 4294967296) (w : World) :
    Calls Try.prog 88 #[.int .u32 r] w fun e w' => e = .returned (.int .u32 (shift r : Nat)) ∧ w' = w := by
  go_enter Try.func88, Try.ntmps88
  go_wp2
  go_loop [0, 4] (fun rv i => ∃ k m : Nat, k ≤ 8 ∧ i = .int .i64 k ∧ rv = .int .u32 m ∧ m < 4294967296 ∧ Hid (m = stepN k r)) (fun _ i => 8 - (intOf i).toNat)
  case atStart => exact ⟨0, r, by omega, rfl, rfl, h, hid_rfl⟩
  case round =>
    obtain ⟨k, m, hk, rfl, rfl, hm, HM⟩ := hrel
    by_cases hlt : k < 8
    · have ha := and1 m hm
      have hx : bits .xor .u32 ((m : Int) / 2) 3988292384 = ((m / 2 ^^^ poly : Nat) : Int) := by rw [show (m : Int) / 2 = ((m / 2 : Nat) : Int) by omega]; exact xorPoly _ (by omega)
      have HN : Hid (step m = stepN (k + 1) r) := by rw [HM.out]; exact hid_rfl
      rcases Nat.mod_two_eq_zero_or_one m with h2 | h2
      · have HS : Hid (m / 2 = step m) := by unfold step; rw [if_neg (by omega)]; exact hid_rfl
        rw [h2] at ha
        go_wp2
        go_round
        case rel => exact ⟨k + 1, m / 2, by omega, by go_num, by go_num, by omega, by rw [HS.out]; exact HN⟩
        case measure => simp [intOf]; omega
      · have HS : Hid (m / 2 ^^^ poly = step m) := by unfold step; rw [if_pos h2]; exact hid_rfl
        rw [h2] at ha
        have hl : m / 2 ^^^ poly < 4294967296 := xor_lt32 (by omega) (by decide)
        go_wp2
        go_round
        case rel => exact ⟨k + 1, m / 2 ^^^ poly, by omega, by go_num, by go_num, hl, by rw [HS.out]; exact HN⟩
        case measure => simp [intOf]; omega
    · have hk' : k = 8 := by omega
      subst hk'
      have hm' : m = shift r := HM.out
      subst hm'
      go_wp2
      go_ret
      exact ⟨rfl, rfl⟩

def cat (xs : List ByteArray) : List UInt8 := xs.flatMap fun s => s.data.toList
theorem cat_snoc (xs : List ByteArray) (k : Nat) (h : k < xs.length) : cat (xs.take (k + 1)) = cat (xs.take k) ++ (xs.getD k ByteArray.empty).data.toList := by
  rw [List.take_succ_eq_append_getElem h, getD_lt _ _ _ h]; simp only [cat, List.flatMap_append, List.flatMap_cons, List.flatMap_nil, List.append_nil]
theorem not32 {n : Nat} (h : n < 4294967296) : bits .xor .u32 IntKind.u32.max (n : Int) = ((4294967295 - n : Nat) : Int) := by
  show IntKind.u32.wrap ((BitVec.ofInt 32 IntKind.u32.max ^^^ BitVec.ofInt 32 (n : Int)).toNat : Int) = _
  have h3 : BitVec.ofInt 32 IntKind.u32.max = BitVec.allOnes 32 := by decide
  rw [h3, BitVec.allOnes_xor, BitVec.toNat_not, BitVec.toNat_ofInt]
  simp [IntKind.wrap, IntKind.bits, IntKind.signed]
  omega

theorem run_bytes (r : Nat) (s : ByteArray) (k : Nat) (h : k < s.size) : shift (run r (s.data.toList.take k) ^^^ s[k].toNat) = run r (s.data.toList.take (k + 1)) := by
  rw [List.take_succ_eq_append_getElem (by simpa using h), run_snoc]
  rfl
theorem xor_byte (m : Nat) (hm : m < 4294967296) (c : UInt8) : bits .xor .u32 (m : Int) ((c.toNat : Int) % 4294967296) = ((m ^^^ c.toNat : Nat) : Int) := by
  have h := c.toNat_lt
  rw [show (c.toNat : Int) % 4294967296 = (c.toNat : Int) by omega]
  exact u32_xor_nat m c.toNat hm (by omega)

set_option maxHeartbeats 500000 in
theorem sum_any (ao : Option Addr) (cap : Nat) (xs : List ByteArray) (w : World) (hc : CellsAt w ao (strVals xs)) (hlen : xs.length ≤ 9223372036854775807) (hs : ∀ x ∈ xs, x.size ≤ 9223372036854775807) :
    Calls Try.prog 65 #[.slice ao xs.length cap] w fun e w' => e = .returned (.int .u32 (sum (cat xs) : Nat)) ∧ w' = w := by
  go_enter Try.func65, Try.ntmps65
  go_wp2
  go_loop [3, 9] (fun rv i => ∃ k m : Nat, k ≤ xs.length ∧ i = .int .i64 k ∧ rv = .int .u32 m ∧ m < 4294967296 ∧ Hid (m = run 4294967295 (cat (xs.take k)))) (fun _ i => xs.length - (intOf i).toNat)
  case atStart => exact ⟨0, 4294967295, by omega, rfl, rfl, by omega, hid_rfl⟩
  case round =>
    obtain ⟨k, m, hk, rfl, rfl, hm, HM⟩ := hrel
    by_cases hlt : k < xs.length
    · rcases hc with h0 | ⟨b, off, rfl, hbl, hcells⟩
      · have : xs.length = 0 := by have := congrArg List.length h0; simpa [strVals] using this
        omega
      have hck := hcells k (by simpa [strVals] using hlt)
      have hx : (strVals xs)[k]? = some (.string (xs.getD k ByteArray.empty)) := by simp [strVals, hlt]
      have hsz : (xs.getD k ByteArray.empty).size ≤ 9223372036854775807 := hs _ (by rw [getD_lt _ _ _ hlt]; exact List.getElem_mem hlt)
      rw [hx] at hck
      have HN : Hid _ := cat_snoc xs k hlt
      generalize xs.getD k ByteArray.empty = s at *
      have HR : Hid (run 4294967295 (cat (xs.take (k + 1))) = run m s.data.toList) := by rw [HN.out, run_append, ← HM.out]; exact hid_rfl
      clear hcells hs hx HN HM
      go_wp2
      go_loop [3, 15] (fun rv i => ∃ j m1 : Nat, j ≤ s.size ∧ i = .int .i64 j ∧ rv = .int .u32 m1 ∧ m1 < 4294967296 ∧ Hid (m1 = run m (s.data.toList.take j))) (fun _ i => s.size - (intOf i).toNat)
      case atStart => exact ⟨0, m, by omega, rfl, rfl, hm, hid_rfl⟩
      case round =>
        obtain ⟨j, m1, hj, rfl, rfl, hm1, HM1⟩ := hrel
        by_cases hjl : j < s.size
        · have HF := run_bytes m s j hjl
          have hxb := xor_byte m1 hm1 s[j]
          have hxl := xor_byte_lt hm1 s[j]
          rw [← HM1.out] at HF
          have HF0 : Hid _ := HF
          clear HF
          generalize hcj : s[j] = c at *
          go_wp2_with fail
          refine (shifted_any (m1 ^^^ c.toNat) hxl _).mono ?_
          rintro e w1 ⟨rfl, rfl⟩
          go_wp2
          go_round
          case rel => exact ⟨j + 1, shift (m1 ^^^ c.toNat), by omega, by go_num, rfl, shift_lt hxl, HF0⟩
          case measure => simp [intOf]; omega
        · have hj' : j = s.size := by omega
          subst hj'
          have HM2 : Hid (m1 = run 4294967295 (cat (xs.take (k + 1)))) := by
            rw [HR.out, HM1.out, List.take_of_length_le (by simp)]; exact hid_rfl
          go_wp2
          go_round
          case rel => exact ⟨k + 1, m1, by omega, by go_num, rfl, hm1, HM2⟩
          case measure => simp [intOf]; omega
    · have hk' : k = xs.length := by omega
      subst hk'
      rw [List.take_length] at HM
      have hn := not32 hm
      have HQ : Hid (4294967295 - m = sum (cat xs)) := by rw [HM.out]; exact hid_rfl
      go_wp2
      go_ret
      rw [← HQ.out]
      exact ⟨rfl, rfl⟩

end Go.Proofs.Ytedjohkdfchocaa.Fr

/-
  Package frame: a word's four bytes, and the word of four bytes.
-/
namespace Go.Proofs.Ytedjohkdfchocaa.Fr
open Go.RowKit Cm
set_option linter.unusedVariables false

def str (l : List UInt8) : ByteArray := ⟨l.toArray⟩

theorem byte_of (m : Nat) : (m : Int) % 256 = ((UInt8.ofNat m).toNat : Int) := by rw [u8_nat]; omega
theorem conv4 (n : Nat) (h : n < 4294967296) (w : World) :
    (convert 67 9 (.slice (some ⟨w.heap.size, 0, none⟩) 4 4)).run Try.prog (w.alloc (.cells #[.int .u8 ((n : Int) / 16777216), .int .u8 ((n : Int) / 65536 % 256), .int .u8 ((n : Int) / 256 % 256), .int .u8 ((n : Int) % 256)] 5)) =
      .ok (.string (str (four n))) (w.alloc (.cells #[.int .u8 ((n : Int) / 16777216), .int .u8 ((n : Int) / 65536 % 256), .int .u8 ((n : Int) / 256 % 256), .int .u8 ((n : Int) % 256)] 5)) := by
  have e0 : (n : Int) / 16777216 = ((UInt8.ofNat (n / 16777216)).toNat : Int) := by rw [← byte_of]; omega
  have e1 : (n : Int) / 65536 % 256 = ((UInt8.ofNat (n / 65536)).toNat : Int) := by rw [← byte_of]; omega
  have e2 : (n : Int) / 256 % 256 = ((UInt8.ofNat (n / 256)).toNat : Int) := by rw [← byte_of]; omega
  rw [e0, e1, e2, byte_of]
  refine run_convert_bytes_back _ 67 9 5 ⟨w.heap.size, 0, none⟩ 4 (four n) Try.underlying67 Try.underlying5 Try.underlying9 fun j hj => ?_
  rw [Go.WideShapes.add_plain, cell_of_row _ _ _ _ _ _ (heap_alloc_new w _)]
  have hj4 : j < 4 := hj
  match j, hj4 with
  | 0, _ => rfl
  | 1, _ => rfl
  | 2, _ => rfl
  | 3, _ => rfl

set_option maxHeartbeats 500000 in
theorem wordText_any (n : Nat) (h : n < 4294967296) (w : World) :
    Calls Try.prog 64 #[.int .u32 n] w fun e w' => e = .returned (.string (str (four n))) ∧ Below w.heap.size w w' := by
  have hcv := conv4 n h w
  go_enter Try.func64, Try.ntmps64
  go_wp2
  go_ret
  exact ⟨rfl, (Below.refl _ _).alloc (Nat.le_refl _) _⟩

theorem or_add (i x y : Nat) (hy : y < 2 ^ i) (hx : 2 ^ i * x + y < 4294967296) : bits .or .u32 ((2 ^ i * x : Nat) : Int) (y : Int) = ((2 ^ i * x + y : Nat) : Int) := by
  rw [u32_or_nat _ _ (by omega) (by omega), Nat.two_pow_add_eq_or_of_lt hy x]
theorem or_word (a b c d : UInt8) : bits .or .u32 (bits .or .u32 (bits .or .u32 ((a.toNat : Int) % 4294967296 * 16777216 % 4294967296) ((b.toNat : Int) % 4294967296 * 65536 % 4294967296)) ((c.toNat : Int) % 4294967296 * 256 % 4294967296)) ((d.toNat : Int) % 4294967296) =
    ((a.toNat * 16777216 + b.toNat * 65536 + c.toNat * 256 + d.toNat : Nat) : Int) := by
  have ha := a.toNat_lt
  have hb := b.toNat_lt
  have hc := c.toNat_lt
  have hd := d.toNat_lt
  generalize a.toNat = a at *
  generalize b.toNat = b at *
  generalize c.toNat = c at *
  generalize d.toNat = d at *
  rw [show (a : Int) % 4294967296 * 16777216 % 4294967296 = ((2 ^ 24 * a : Nat) : Int) by omega, show (b : Int) % 4294967296 * 65536 % 4294967296 = ((b * 65536 : Nat) : Int) by omega, or_add 24 a (b * 65536) (by omega) (by omega),
    show 2 ^ 24 * a + b * 65536 = 2 ^ 16 * (256 * a + b) by omega, show (c : Int) % 4294967296 * 256 % 4294967296 = ((c * 256 : Nat) : Int) by omega, or_add 16 _ (c * 256) (by omega) (by omega),
    show 2 ^ 16 * (256 * a + b) + c * 256 = 2 ^ 8 * (256 * (256 * a + b) + c) by omega, show (d : Int) % 4294967296 = (d : Int) by omega, or_add 8 _ d (by omega) (by omega)]
  congr 1
  omega
theorem ret_int {k : IntKind} {a b : Int} (h : a = b) : Ending.returned (.int k a) = .returned (.int k b) := by rw [h]
theorem getD_byte (s : ByteArray) (k : Nat) (h : k < s.size) : s.data.toList.getD k 0 = s[k] := by
  rw [getD_lt _ _ _ (by simpa using h)]; rfl
theorem word_bytes (s : ByteArray) (hs : s.size = 4) : word s.data.toList = s[0].toNat * 16777216 + s[1].toNat * 65536 + s[2].toNat * 256 + s[3].toNat := by
  unfold word
  rw [getD_byte s 0 (by omega), getD_byte s 1 (by omega), getD_byte s 2 (by omega), getD_byte s 3 (by omega)]

set_option maxHeartbeats 500000 in
theorem word_any (s : ByteArray) (hs : s.size = 4) (w : World) :
    Calls Try.prog 102 #[.string s] w fun e w' => e = .returned (.int .u32 (word s.data.toList : Nat)) ∧ ∃ n, w' = w.drewN n := by
  have HW : Hid _ := word_bytes s hs
  go_enter Try.func102, Try.ntmps102
  go_wp2
  go_quiet (fail)
  go_wp2
  go_ret
  rw [HW.out]
  exact ⟨ret_int (or_word _ _ _ _), _, rfl⟩

end Go.Proofs.Ytedjohkdfchocaa.Fr

/-
  Package frame: what stands at a text's beginning (opened) and at a place (First).
-/
namespace Go.Proofs.Ytedjohkdfchocaa.Fr
open Go.RowKit Cm
set_option linter.unusedVariables false

theorem ext_list (s : ByteArray) (a b : Nat) : (s.extract a b).data.toList = (s.data.toList.drop a).take (b - a) := by rw [Lib.extract_data]
theorem below_drew {B : Nat} {w w' : World} {n : Nat} (h : Below B w w') : Below B w (w'.drewN n) := ⟨h.os, h.tape, h.output, h.size, h.block⟩

/-- What opened answers of a text: whether a whole frame stands at its beginning, and its payload if so. -/
def Opened (s : ByteArray) (e : Ending) : Prop :=
  ∃ x b, e = .returned (.tuple #[.string x, .bool b]) ∧ b = (first s.data.toList).isSome ∧ ∀ n, first s.data.toList = some n → x.data.toList = (s.data.toList.drop 8).take n
theorem opened_not {s x : ByteArray} (h : first s.data.toList = none) : Opened s (.returned (.tuple #[.string x, .bool false])) :=
  ⟨_, false, rfl, by rw [h]; rfl, fun n hn => by rw [h] at hn; cases hn⟩
theorem opened_is {s x : ByteArray} {n a b : Nat} (h : first s.data.toList = if a = b then some n else none) (hx : x.data.toList = (s.data.toList.drop 8).take n) : Opened s (.returned (.tuple #[.string x, .bool ((a : Int) == (b : Int))])) := by
  refine ⟨_, _, rfl, ?_, fun m hm => ?_⟩
  · rw [h]
    by_cases e : a = b
    · subst e; simp
    · rw [if_neg e]; simp; omega
  · rw [h] at hm
    split at hm
    · simp only [Option.some.injEq] at hm
      rw [← hm]; exact hx
    · cases hm
theorem cells2 {w : World} {k : Nat} (X Z : ByteArray) : CellsAt ((w.drewN k).alloc (.cells #[.string X, .string Z] 9)) (some ⟨w.heap.size, 0, none⟩) (strVals [X, Z]) := by
  refine .inr ⟨w.heap.size, 0, rfl, by simp, fun j hj => ?_⟩
  have := cell_of_row _ _ (0 + j) _ _ _ (heap_alloc_new (w.drewN k) (.cells #[.string X, .string Z] 9))
  refine this.trans ?_
  simp [strVals]

set_option maxHeartbeats 1000000 in
theorem opened_any (s : ByteArray) (hs : s.size ≤ 140737488355328) (w : World) :
    Calls Try.prog 90 #[.string s] w fun e w' => Opened s e ∧ Below w.heap.size w w' := by
  by_cases h8 : s.size < 8
  · have HF : Hid (first s.data.toList = none) := first_short (by rw [← Lib.size_eq]; exact h8)
    go_enter Try.func90, Try.ntmps90
    go_wp2
    go_ret2
    exact ⟨opened_not HF.out, Below.refl _ _⟩
  · have h8' : 8 ≤ s.size := by omega
    have hl8 : 8 ≤ s.data.toList.length := by rw [← Lib.size_eq]; exact h8'
    obtain ⟨X, hX⟩ : ∃ X, X = s.extract 0 4 := ⟨_, rfl⟩
    obtain ⟨Y, hY⟩ : ∃ Y, Y = s.extract 4 8 := ⟨_, rfl⟩
    obtain ⟨R, hR⟩ : ∃ R, R = s.extract 8 s.size := ⟨_, rfl⟩
    have hXs : X.size = 4 := by rw [hX]; simp; omega
    have hYs : Y.size = 4 := by rw [hY]; simp; omega
    have hRs : R.size = s.size - 8 := by rw [hR]; simp
    have HX : Hid (X.data.toList = s.data.toList.take 4) := by rw [hX, ext_list]; exact hid_rfl
    have HY : Hid (Y.data.toList = (s.data.toList.drop 4).take 4) := by rw [hY, ext_list]; exact hid_rfl
    have HR : Hid (R.data.toList = s.data.toList.drop 8) := by rw [hR, ext_list, List.take_of_length_le (by simp)]; exact hid_rfl
    have hX' := hX.symm
    have hY' := hY.symm
    have hR' := hR.symm
    clear hX hY hR
    go_enter Try.func90, Try.ntmps90
    go_wp2
    go_quiet (fail)
    go_wp2_with fail
    refine (word_any X hXs _).mono ?_
    rintro e w1 ⟨rfl, n1, rfl⟩
    have hwl := word_lt X.data.toList
    have HW : Hid (word X.data.toList = word (s.data.toList.take 4)) := by rw [HX.out]; exact hid_rfl
    obtain ⟨n, hn⟩ : ∃ n, n = word X.data.toList := ⟨_, rfl⟩
    rw [← hn] at hwl HW ⊢
    clear hn
    by_cases hbig : 65536 < n
    · have HF : Hid (first s.data.toList = none) := by
        show first _ = none
        unfold first; rw [if_neg (by omega), ← HW.out, if_pos (.inl hbig)]
      go_wp2
      go_ret2
      exact ⟨opened_not HF.out, below_drew (Below.refl _ _)⟩
    · by_cases hlong : R.size < n
      · have HF : Hid (first s.data.toList = none) := by
          show first _ = none
          unfold first; rw [if_neg (by omega), ← HW.out, if_pos (.inr (by rw [← Lib.size_eq]; omega))]
        go_wp2
        go_ret2
        exact ⟨opened_not HF.out, below_drew (Below.refl _ _)⟩
      · obtain ⟨Z, hZ⟩ : ∃ Z, Z = R.extract 0 n := ⟨_, rfl⟩
        have hZs : Z.size = n := by rw [hZ]; simp; omega
        have HZ : Hid (Z.data.toList = (s.data.toList.drop 8).take n) := by rw [hZ, ext_list, HR.out]; exact hid_rfl
        have hZ' := hZ.symm
        clear hZ
        have HF : Hid (first s.data.toList = if word Y.data.toList = sum (cat [X, Z]) then some n else none) := by
          show first _ = _
          unfold first; rw [if_neg (by omega), ← HW.out, if_neg (by rw [← Lib.size_eq]; omega), ← HY.out, ← HX.out, ← HZ.out]
          simp only [cat, List.flatMap_cons, List.flatMap_nil, List.append_nil]
        go_wp2_with fail
        refine (word_any Y hYs _).mono ?_
        rintro e w2 ⟨rfl, n2, rfl⟩
        go_wp2_with fail
        refine (sum_any (some ⟨w.heap.size, 0, none⟩) 2 [X, Z] _ (cells2 X Z) (by simp) ?c2).mono ?_
        case c2 => intro x hx; simp at hx; rcases hx with rfl | rfl <;> omega
        rintro e w3 ⟨rfl, rfl⟩
        go_wp2
        go_ret2
        exact ⟨opened_is HF.out HZ.out, (below_drew (Below.refl _ _)).alloc (Nat.le_refl _) _⟩

theorem opened_none (s : ByteArray) (hs : s.size ≤ 140737488355328) (w : World) (h : first s.data.toList = none) :
    Calls Try.prog 90 #[.string s] w fun e w' => ∃ x, e = .returned (.tuple #[.string x, .bool false]) ∧ Below w.heap.size w w' := by
  refine (opened_any s hs w).mono ?_
  rintro e w' ⟨⟨x, b, rfl, hb, _⟩, hB⟩
  rw [h] at hb
  exact ⟨x, by rw [hb]; rfl, hB⟩
theorem opened_some (s : ByteArray) (hs : s.size ≤ 140737488355328) (w : World) (p r : List UInt8) (hp : p.length ≤ 65536) (h : s.data.toList = frame p ++ r) :
    Calls Try.prog 90 #[.string s] w fun e w' => e = .returned (.tuple #[.string (str p), .bool true]) ∧ Below w.heap.size w w' := by
  refine (opened_any s hs w).mono ?_
  rintro e w' ⟨⟨x, b, rfl, hb, hx⟩, hB⟩
  have hf := first_frame p r hp
  rw [← h] at hf
  rw [hf] at hb
  have h1 := hx _ hf
  have h2 : s.data.toList.drop 8 = p ++ r := by
    rw [h, frame, show 8 = 4 + 4 from rfl, ← List.drop_drop, List.append_assoc, List.drop_left' (four_len _), List.append_assoc, List.drop_left' (four_len _)]
  rw [h2, List.take_left' rfl] at h1
  have h3 : x = str p := by rw [← str_back x, h1]; rfl
  exact ⟨by rw [hb, h3]; rfl, hB⟩

set_option maxHeartbeats 1000000 in
theorem first_none (T : ByteArray) (k : Int) (w : World) (hT : T.size ≤ 140737488355328) (hk1 : -9223372036854775808 ≤ k) (hk2 : k ≤ 9223372036854775807) (h : 0 ≤ k → k ≤ T.size → first (T.data.toList.drop k.toNat) = none) :
    Calls Try.prog 69 #[.string T, .int .i64 k] w fun e w' => e = .returned (.tuple #[.string ⟨#[]⟩, .int .i64 0, .int .i64 1]) ∧ Below w.heap.size w w' := by
  by_cases hn : k < 0
  · clear h
    go_enter Try.func69, Try.ntmps69
    go_wp2
    go_ret3
    exact ⟨rfl, Below.refl _ _⟩
  · by_cases hb : (T.size : Int) < k
    · clear h
      go_enter Try.func69, Try.ntmps69
      go_wp2
      go_ret3
      exact ⟨rfl, Below.refl _ _⟩
    · obtain ⟨n, rfl⟩ := Int.eq_ofNat_of_zero_le (show 0 ≤ k by omega)
      have hnT : n ≤ T.size := by omega
      have hf := h (by omega) (by omega)
      rw [Int.toNat_natCast] at hf
      obtain ⟨X, hX⟩ : ∃ X, X = T.extract n T.size := ⟨_, rfl⟩
      have hXs : X.size ≤ 140737488355328 := by rw [hX]; simp; omega
      have HF : Hid (first X.data.toList = none) := by rw [hX, ext_list, List.take_of_length_le (by simp)]; exact hf
      have hX' := hX.symm
      clear hX h hf
      go_enter Try.func69, Try.ntmps69
      go_wp2_with fail
      refine (opened_none X hXs _ HF.out).mono ?_
      rintro e w1 ⟨x, rfl, hb1⟩
      go_wp2
      go_ret3
      exact ⟨rfl, hb1⟩

set_option maxHeartbeats 1000000 in
theorem first_at (T : ByteArray) (n : Nat) (w : World) (hT : T.size ≤ 140737488355328) (p r : List UInt8) (hp : p.length ≤ 65536) (h : T.data.toList.drop n = frame p ++ r) :
    Calls Try.prog 69 #[.string T, .int .i64 n] w fun e w' => e = .returned (.tuple #[.string (str p), .int .i64 ((n : Int) + 8 + (p.length : Int)), .int .i64 0]) ∧ Below w.heap.size w w' := by
  have hl := congrArg List.length h
  rw [List.length_drop, List.length_append, frame_len, ← Lib.size_eq] at hl
  have hnT : n ≤ T.size := by omega
  obtain ⟨X, hX⟩ : ∃ X, X = T.extract n T.size := ⟨_, rfl⟩
  have hXs : X.size ≤ 140737488355328 := by rw [hX]; simp; omega
  have HF : Hid (X.data.toList = frame p ++ r) := by rw [hX, ext_list, List.take_of_length_le (by simp)]; exact h
  have hX' := hX.symm
  have hPs : (str p).size = p.length := by rw [Lib.size_eq]; rfl
  clear hX h
  go_enter Try.func69, Try.ntmps69
  go_wp2_with fail
  refine (opened_some X hXs _ p r hp HF.out).mono ?_
  rintro e w1 ⟨rfl, hb1⟩
  go_wp2_with fail
  refine (clone_any (str p) _ (by omega)).mono ?_
  rintro e w2 ⟨rfl, hb2⟩
  have hsz := hb1.size
  go_wp2
  go_ret3
  exact ⟨rfl, hb1.trans (hb2.mono hsz)⟩

end Go.Proofs.Ytedjohkdfchocaa.Fr

/-
  Package frame: what Seal answers of any payloads.
-/
namespace Go.Proofs.Ytedjohkdfchocaa.Fr
open Go.RowKit Cm
set_option linter.unusedVariables false

def framesB (xs : List ByteArray) : List UInt8 := xs.flatMap fun s => frame s.data.toList
theorem framesB_snoc (xs : List ByteArray) (k : Nat) (h : k < xs.length) : framesB (xs.take (k + 1)) = framesB (xs.take k) ++ frame (xs.getD k ByteArray.empty).data.toList := by
  rw [List.take_succ_eq_append_getElem h, getD_lt _ _ _ h]; simp only [framesB, List.flatMap_append, List.flatMap_cons, List.flatMap_nil, List.append_nil]
/-- What Seal answers. -/
def sealed (xs : List ByteArray) : Value := if (∀ x ∈ xs, x.size ≤ 65536) then .tuple #[.string (str (framesB xs)), .int .i64 0] else .tuple #[.string ⟨#[]⟩, .int .i64 2]
theorem str_size (l : List UInt8) : (str l).size = l.length := by rw [Lib.size_eq]; rfl
theorem str_data (l : List UInt8) : (str l).data.toList = l := rfl
theorem cells2' {w : World} (X Z : ByteArray) : CellsAt (w.alloc (.cells #[.string X, .string Z] 9)) (some ⟨w.heap.size, 0, none⟩) (strVals [X, Z]) := by
  refine .inr ⟨w.heap.size, 0, rfl, by simp, fun j hj => ?_⟩
  have := cell_of_row _ _ (0 + j) _ _ _ (heap_alloc_new w (.cells #[.string X, .string Z] 9))
  refine this.trans ?_
  simp [strVals]

set_option maxRecDepth 100000 in
set_option maxHeartbeats 2000000 in
theorem seal_any (ao : Option Addr) (cap : Nat) (xs : List ByteArray) (w : World) (hc : CellsAt w ao (strVals xs)) (hlen : xs.length ≤ 140737488351232) (hs : ∀ x ∈ xs, x.size ≤ 9223372036854775807)
    (htot : ∀ k, k ≤ xs.length → (∀ x ∈ xs.take k, x.size ≤ 65536) → (framesB (xs.take k)).length ≤ 140737488355328) :
    Calls Try.prog 35 #[.slice ao xs.length cap] w fun e w' => e = .returned (sealed xs) ∧ Below w.heap.size w w' := by
  obtain ⟨i0, hi0, hz0, hz1, hz2⟩ := info_parts info8
  go_enter Try.func35, Try.ntmps35
  go_wp2
  go_loopw [4, 10] (fun v i wr => ∃ k : Nat, k ≤ xs.length ∧ i = .int .i64 k ∧ Hid (∀ x ∈ xs.take k, x.size ≤ 65536) ∧ Hid (wr.ownsRow w.heap.size 5 1 v (framesB (xs.take k)).length ((framesB (xs.take k)).map B8)) ∧ Hid (Below w.heap.size w wr)) (fun _ i _ => xs.length - (intOf i).toNat)
  case atStart => exact ⟨0, by omega, rfl, fun x hx => by simp at hx, World.ownsRow_nil _ _ _ _, Below.refl _ _⟩
  case round =>
    obtain ⟨k, hk, rfl, HS, HO, HB⟩ := hrel
    have hsr := HB.out.size
    by_cases hlt : k < xs.length
    · rcases hc.below HB.out with h0 | ⟨b, off, rfl, hbl, hcells⟩
      · have : xs.length = 0 := by have := congrArg List.length h0; simpa [strVals] using this
        omega
      have hck := hcells k (by simpa [strVals] using hlt)
      have hx : (strVals xs)[k]? = some (.string (xs.getD k ByteArray.empty)) := by simp [strVals, hlt]
      have hmem : xs.getD k ByteArray.empty ∈ xs := by rw [getD_lt _ _ _ hlt]; exact List.getElem_mem hlt
      have hsz := hs _ hmem
      have HN : Hid _ := framesB_snoc xs k hlt
      have HT : Hid (xs.take (k + 1) = xs.take k ++ [xs.getD k ByteArray.empty]) := by rw [getD_lt _ _ _ hlt]; exact List.take_succ_eq_append_getElem hlt
      have HL := htot (k + 1) hlt
      rw [hx] at hck
      generalize xs.getD k ByteArray.empty = s at *
      by_cases hbig : 65536 < s.size
      · have HA : Hid (sealed xs = .tuple #[.string ⟨#[]⟩, .int .i64 2]) := by
          show sealed xs = _
          unfold sealed; rw [if_neg (fun h => by have := h s hmem; omega)]
        clear hcells hs hx HN HL htot hmem HT
        go_wp2
        go_ret2
        rw [HA.out]
        exact ⟨rfl, HB.out⟩
      · have HS1 : Hid (∀ x ∈ xs.take (k + 1), x.size ≤ 65536) := by
          intro x hx
          rw [HT.out] at hx
          rcases List.mem_append.1 hx with h | h
          · exact HS.out x h
          · simp at h; rw [h]; omega
        have HL1 : Hid _ := HL HS1.out
        rw [HN.out, List.length_append, frame_len, ← Lib.size_eq] at HL1
        generalize framesB (xs.take k) = bs at *
        clear hcells hs hx HL htot hmem HT
        go_wp2_with fail
        refine (wordText_any s.size (by omega) _).mono ?_
        rintro e w1 ⟨rfl, hb1⟩
        have hown1 := own_keep_below HO.out hb1
        have hs1 := hb1.size
        obtain ⟨F, hF⟩ : ∃ F, F = str (four s.size) := ⟨_, rfl⟩
        rw [← hF]
        have HFs : Hid (F.size = 4) := by rw [hF, str_size]; exact hid_rfl
        have HFd : Hid (F.data.toList = four s.data.toList.length) := by rw [hF, ← Lib.size_eq]; exact hid_rfl
        clear hF
        go_wp2_with (at_builtin; refine wpList_append_str_at _ rfl _ _ 67 9 rfl w.heap.size 5 i0 Try.underlying67 Try.underlying9 hi0 hz0 hz1 hz2 u4 bs.length (bs.map B8) rfl hown1 F rfl ?c1 ?c3 ?c2 ?_)
        case c1 => have := HL1.out; have := HFs.out; unfold maxLen; omega
        case c2 => omega
        case c3 => have := HL1.out; have := HFs.out; omega
        intro v2 w2 hown2 hgrow2 hat2
        have HB2 : Hid (Below w.heap.size w w2) := own_text_below HB.out (Nat.le_refl _) hb1 HO.out hgrow2
        have hown2 := own_bytes HFd.out hown2
        have hs2 := HB2.out.size
        have hgs2 := hgrow2.size
        clear hown1 hgrow2 hat2 hb1 HO HB
        have hlb2 : Hid ((bs ++ four s.data.toList.length).length = bs.length + 4) := by rw [List.length_append, four_len]; exact hid_rfl
        go_wp2_with fail
        refine (sum_any (some ⟨w2.heap.size, 0, none⟩) 2 [F, s] _ (cells2' F s) (by simp) ?c4).mono ?_
        case c4 => have := HFs.out; intro x hx; simp at hx; rcases hx with rfl | rfl <;> omega
        rintro e w3 ⟨rfl, rfl⟩
        have HSu : Hid (cat [F, s] = four s.data.toList.length ++ s.data.toList) := by
          show cat [F, s] = _
          simp only [cat, List.flatMap_cons, List.flatMap_nil, List.append_nil, HFd.out]
        have hsl := sum_lt (cat [F, s])
        rw [HSu.out] at hsl ⊢
        generalize hq : sum (four s.data.toList.length ++ s.data.toList) = q at *
        have HQ : Hid _ := hq
        clear hq
        obtain ⟨bs2, hbs2⟩ : ∃ bs2, bs2 = bs ++ four s.data.toList.length := ⟨_, rfl⟩
        rw [← hbs2] at hown2 hlb2
        have HBS : Hid _ := hbs2
        clear hbs2
        go_wp2_with fail
        refine (wordText_any q hsl _).mono ?_
        rintro e w3 ⟨rfl, hb3⟩
        have hb3' : Below w2.heap.size w2 w3 := ((Below.refl _ _).alloc (Nat.le_refl _) _).trans (hb3.mono (by simp))
        have hown3 := own_keep_below hown2 hb3'
        have hs3 := hb3'.size
        obtain ⟨G, hG⟩ : ∃ G, G = str (four q) := ⟨_, rfl⟩
        rw [← hG]
        have HGs : Hid (G.size = 4) := by rw [hG, str_size]; exact hid_rfl
        have HGd : Hid (G.data.toList = four q) := by rw [hG]; exact hid_rfl
        clear hG hb3
        go_wp2_with (at_builtin; refine wpList_append_str_at _ rfl _ _ 67 9 rfl w.heap.size 5 i0 Try.underlying67 Try.underlying9 hi0 hz0 hz1 hz2 v2 bs2.length (bs2.map B8) rfl hown3 G rfl ?d1 ?d3 ?d2 ?_)
        case d1 => have := HL1.out; have := hlb2.out; have := HGs.out; unfold maxLen; omega
        case d2 => omega
        case d3 => have := HL1.out; have := hlb2.out; have := HGs.out; omega
        intro v4 w4 hown4 hgrow4 hat4
        have HB4 : Hid (Below w.heap.size w w4) := own_text_below HB2.out (Nat.le_refl _) hb3' hown2 hgrow4
        have hown4 := own_bytes HGd.out hown4
        have hs4 := HB4.out.size
        clear hown3 hgrow4 hat4 hb3' hown2
        have hlb4 : Hid ((bs2 ++ four q).length = bs2.length + 4) := by rw [List.length_append, four_len]; exact hid_rfl
        obtain ⟨bs4, hbs4⟩ : ∃ bs4, bs4 = bs2 ++ four q := ⟨_, rfl⟩
        rw [← hbs4] at hown4 hlb4
        have HBS4 : Hid _ := hbs4
        clear hbs4
        go_wp2_with (at_builtin; refine wpList_append_str_at _ rfl _ _ 67 9 rfl w.heap.size 5 i0 Try.underlying67 Try.underlying9 hi0 hz0 hz1 hz2 v4 bs4.length (bs4.map B8) rfl hown4 s rfl ?e1 ?e3 ?e2 ?_)
        case e1 => have := HL1.out; have := hlb2.out; have := hlb4.out; unfold maxLen; omega
        case e2 => omega
        case e3 => have := HL1.out; have := hlb2.out; have := hlb4.out; omega
        intro v5 w5 hown5 hgrow5 hat5
        have HB5 : Hid (Below w.heap.size w w5) := own_text_below HB4.out (Nat.le_refl _) (Below.refl _ _) hown4 hgrow5
        have HO5 : Hid (w5.ownsRow w.heap.size 5 1 v5 (framesB (xs.take (k + 1))).length ((framesB (xs.take (k + 1))).map B8)) := by
          show World.ownsRow _ _ _ _ _ _ _
          have h := own_bytes rfl hown5
          rw [HBS4.out, HBS.out] at h
          rw [HN.out, frame, HQ.out]
          simpa only [List.append_assoc] using h
        clear hown5 hgrow5 hat5 hown4
        go_wp2
        go_roundw
        case rel => exact ⟨k + 1, by omega, by go_num, HS1, HO5, HB5⟩
        case measure => simp [intOf]; omega
    · have hk' : k = xs.length := by omega
      subst hk'
      rw [List.take_length] at HO HS
      have hstr := own_string HO.out
      have HA : Hid (sealed xs = .tuple #[.string (str (framesB xs)), .int .i64 0]) := by
        show sealed xs = _
        unfold sealed; rw [if_pos HS.out]
      go_wp2
      go_ret2
      rw [HA.out]
      exact ⟨rfl, HB.out⟩

end Go.Proofs.Ytedjohkdfchocaa.Fr

/-
  Package frame: what Scan answers of any text.
-/
namespace Go.Proofs.Ytedjohkdfchocaa.Fr
open Go.RowKit Cm
set_option linter.unusedVariables false

theorem cells1' {w : World} (X : ByteArray) : CellsAt (w.alloc (.cells #[.string X] 9)) (some ⟨w.heap.size, 0, none⟩) (strVals [X]) := by
  refine .inr ⟨w.heap.size, 0, rfl, by simp, fun j hj => ?_⟩
  have := cell_of_row _ _ (0 + j) _ _ _ (heap_alloc_new w (.cells #[.string X] 9))
  refine this.trans ?_
  simp [strVals]
theorem frames_snoc (ps : List (List UInt8)) (p : List UInt8) : frames (ps ++ [p]) = frames ps ++ frame p := by simp only [frames, List.flatMap_append, List.flatMap_cons, List.flatMap_nil, List.append_nil]
theorem frames_len (ps : List (List UInt8)) : 8 * ps.length ≤ (frames ps).length := by
  induction ps with
  | nil => simp [frames]
  | cons p ps ih => simp only [frames, List.flatMap_cons, List.length_append, frame_len, List.length_cons] at ih ⊢; omega

/-- How far a scan has come. -/
structure Upto (l : List UInt8) (ps : List (List UInt8)) (n : Nat) : Prop where
  whole : l = frames ps ++ l.drop n
  at_ : n = (frames ps).length
  small : ∀ p ∈ ps, p.length ≤ 65536
theorem Upto.step {l : List UInt8} {ps : List (List UInt8)} {n : Nat} {p r : List UInt8} (h : Upto l ps n) (hp : p.length ≤ 65536) (hr : l.drop n = frame p ++ r) : Upto l (ps ++ [p]) (n + 8 + p.length) := by
  have h1 : l.drop (n + 8 + p.length) = r := by
    rw [show n + 8 + p.length = n + (frame p).length by rw [frame_len]; omega, ← List.drop_drop, hr, List.drop_left]
  refine ⟨?_, ?_, ?_⟩
  · rw [h1, frames_snoc, List.append_assoc, ← hr]; exact h.whole
  · rw [frames_snoc, List.length_append, frame_len, ← h.at_]; omega
  · intro q hq
    rcases List.mem_append.1 hq with k | k
    · exact h.small q k
    · simp at k; rw [k]; exact hp
theorem Upto.le {l : List UInt8} {ps : List (List UInt8)} {n : Nat} (h : Upto l ps n) : n ≤ l.length := by
  have := congrArg List.length h.whole
  rw [List.length_append, List.length_drop, ← h.at_] at this
  omega
theorem Upto.many {l : List UInt8} {ps : List (List UInt8)} {n : Nat} (h : Upto l ps n) : 8 * ps.length ≤ n := by rw [h.at_]; exact frames_len ps
theorem Upto.stop {l : List UInt8} {ps : List (List UInt8)} {n : Nat} (h : Upto l ps n) (hf : first (l.drop n) = none) : Scanned l ps (l.drop n) := ⟨h.whole, h.small, hf⟩

def strs (ps : List (List UInt8)) : List ByteArray := ps.map str
/-- What Scan answers of a text: a new row with the payloads, and where they end. -/
def ScanAns (B : Nat) (l : List UInt8) (e : Ending) (w : World) : Prop :=
  ∃ v n ps, e = .returned (.tuple #[v, .int .i64 ((n : Nat) : Int)]) ∧ Upto l ps n ∧ first (l.drop n) = none ∧ w.ownsRow B 9 1 v ps.length (strVals (strs ps))

set_option maxRecDepth 100000 in
set_option maxHeartbeats 2000000 in
theorem scan_any (T : ByteArray) (w : World) (hT : T.size ≤ 70368744177600) :
    Calls Try.prog 40 #[.string T] w fun e w' => ScanAns w.heap.size T.data.toList e w' ∧ Below w.heap.size w w' := by
  obtain ⟨i0, hi0, hz0, hz1, hz2⟩ := info_parts infoStr
  have HLen : Hid (T.data.toList.length = T.size) := by rw [← Lib.size_eq]; exact hid_rfl
  go_enter Try.func40, Try.ntmps40
  go_wp2
  go_loopw [4, 5] (fun v i wr => ∃ (n : Nat) (ps : List (List UInt8)), n ≤ T.size ∧ i = .int .i64 n ∧ Hid (Upto T.data.toList ps n) ∧ Hid (wr.ownsRow w.heap.size 9 1 v ps.length (strVals (strs ps))) ∧ Hid (Below w.heap.size w wr)) (fun _ i _ => T.size - (intOf i).toNat)
  case atStart => exact ⟨0, [], by omega, rfl, ⟨by simp [frames], by simp [frames], by simp⟩, World.ownsRow_nil _ _ _ _, Below.refl _ _⟩
  case round =>
    obtain ⟨n, ps, hn, rfl, HU, HO, HB⟩ := hrel
    have hsr := HB.out.size
    cases hf : Fr.first (T.data.toList.drop n) with
    | none =>
      have HF : Hid _ := hf
      clear hf
      go_wp2_with fail
      refine (first_none T n _ (by omega) (by omega) (by omega) (fun _ _ => by rw [Int.toNat_natCast]; exact HF.out)).mono ?_
      rintro e w1 ⟨rfl, hb1⟩
      have hown1 := own_keep HO.out (fun k hk => hb1.block k (HO.out.lt k hk).2)
      have HO1 : Hid (w1.ownsRow w.heap.size 9 1 u4 ps.length (strVals (strs ps))) := hown1
      have HB1 : Hid (Below w.heap.size w w1) := HB.out.trans (hb1.mono hsr)
      clear hown1 hb1
      go_wp2
      go_ret2
      exact ⟨⟨_, n, ps, rfl, HU.out, HF.out, HO1.out⟩, HB1.out⟩
    | some m =>
      obtain ⟨p, r, rfl, hp, hr⟩ := first_some hf
      have hln : n + 8 + p.length ≤ T.size := by
        have h1 := congrArg List.length hr
        rw [List.length_drop, List.length_append, frame_len, HLen.out] at h1
        omega
      have HU1 : Hid (Upto T.data.toList (ps ++ [p]) (n + 8 + p.length)) := HU.out.step hp hr
      have hmany := HU.out.many
      have HR : Hid _ := hr
      clear hf hr
      go_wp2_with fail
      refine (first_at T n _ (by omega) p r hp HR.out).mono ?_
      rintro e w1 ⟨rfl, hb1⟩
      have hown1 := own_keep HO.out (fun k hk => hb1.block k (HO.out.lt k hk).2)
      have HB1 : Hid (Below w.heap.size w w1) := HB.out.trans (hb1.mono hsr)
      have hs1 := HB1.out.size
      clear hb1
      obtain ⟨X, hX⟩ : ∃ X, X = str p := ⟨_, rfl⟩
      rw [← hX]
      have HX : Hid (X = str p) := hX
      clear hX
      go_wp2_with (at_builtin; refine wpList_append_any _ rfl _ _ 24 rfl w.heap.size 9 i0 (.string ⟨#[]⟩) 16 Try.underlying24 hi0 hz0 hz1 hz2 rfl u4 ps.length (strVals (strs ps)) rfl (hown1.alloc _) (some ⟨w1.heap.size, 0, none⟩) 1 1 (strVals [X]) rfl (by simp) rfl (cells1' X) ?c0 ?c1 ?c2 ?c3 ?_)
      case c0 => intro u hu; simp [strVals] at hu; subst hu; rfl
      case c1 => unfold maxLen; omega
      case c2 => omega
      case c3 => simp; omega
      intro v2 w2 hown2 hgrow2 hat2
      have HB2 : Hid (Below w.heap.size w w2) := by
        have h1 : Below w.heap.size w (w1.alloc (.cells #[.string X] 9)) := HB1.out.alloc hs1 _
        exact h1.grown hgrow2 (by simp; omega) (fun k hk => (hown1.lt k hk).1)
      have HO2 : Hid (w2.ownsRow w.heap.size 9 1 v2 (ps ++ [p]).length (strVals (strs (ps ++ [p])))) := by
        show World.ownsRow _ _ _ _ _ _ _
        rw [List.length_append, strs, List.map_append, strVals, List.map_append]
        rw [HX.out] at hown2
        exact hown2
      clear hown1 hown2 hgrow2 hat2
      go_wp2
      go_roundw
      case rel => exact ⟨n + 8 + p.length, ps ++ [p], by omega, by go_num, HU1, HO2, HB2⟩
      case measure => simp [intOf]; omega

end Go.Proofs.Ytedjohkdfchocaa.Fr

/-
  Package frame, as other layers call it: Seal of payloads that are no greater than a machine's memory, Scan of frames with something behind them.
-/
namespace Go.Proofs.Ytedjohkdfchocaa.Fr
open Go.RowKit Cm
set_option linter.unusedVariables false

theorem Upto.unique {l : List UInt8} {ps qs : List (List UInt8)} {n : Nat} {r : List UInt8} (h : Upto l ps n) (hf : first (l.drop n) = none) (k : Scanned l qs r) : ps = qs ∧ n = (frames qs).length := by
  obtain ⟨rfl, _⟩ := (h.stop hf).unique k
  exact ⟨rfl, h.at_⟩
theorem own_cells {w : World} {B n : Nat} {v : Value} {vs : List Value} (h : w.ownsRow B 9 1 v n vs) : ∃ ao cap, v = .slice ao n cap ∧ CellsAt w ao vs := by
  have hl : vs.length = n := by simpa using h.1
  rcases h.2 with ⟨rfl, hn⟩ | ⟨g, cap, cur, rfl, _, hg, _⟩
  · subst hn
    exact ⟨none, 0, rfl, .inl (List.eq_nil_of_length_eq_zero hl)⟩
  · refine ⟨some ⟨g, 0, none⟩, cap, rfl, .inr ⟨g, 0, rfl, lt_of_block hg, fun j hj => ?_⟩⟩
    have := h.cells (g := g) rfl j vs[j] (by simp [hj])
    rw [Go.WideShapes.add_plain] at this
    rw [this]; simp [hj]
def datas (xs : List ByteArray) : List (List UInt8) := xs.map fun s => s.data.toList
theorem strs_datas (xs : List ByteArray) : strs (datas xs) = xs := by
  unfold strs datas
  rw [List.map_map]
  exact (List.map_congr_left fun x _ => str_back x).trans (List.map_id _)
theorem datas_len (xs : List ByteArray) : (datas xs).length = xs.length := by simp [datas]
theorem frames_datas (xs : List ByteArray) : frames (datas xs) = framesB xs := by simp [frames, datas, framesB, List.flatMap_map]
theorem scanned_datas (xs : List ByteArray) (h : ∀ x ∈ xs, x.size ≤ 65536) (r : List UInt8) (hr : first r = none) : Scanned (framesB xs ++ r) (datas xs) r :=
  ⟨by rw [frames_datas], fun p hp => by obtain ⟨x, hx, rfl⟩ := List.mem_map.1 hp; rw [← Lib.size_eq]; exact h x hx, hr⟩
theorem framesB_len (xs : List ByteArray) : (framesB xs).length = 8 * xs.length + total xs := by
  induction xs with
  | nil => simp [framesB, total]
  | cons x xs ih =>
    simp only [framesB, total, List.flatMap_cons, List.length_append, List.map_cons, List.sum_cons, List.length_cons, frame_len] at ih ⊢
    rw [ih, Lib.size_eq]
    omega
theorem total_take (xs : List ByteArray) (k : Nat) : total (xs.take k) ≤ total xs := by
  conv => rhs; rw [← List.take_append_drop k xs]
  simp only [total, List.map_append, List.sum_append]
  omega
theorem framesB_take (xs : List ByteArray) (k : Nat) : (framesB (xs.take k)).length ≤ 8 * xs.length + total xs := by
  rw [framesB_len]
  have h1 := total_take xs k
  have h2 : (xs.take k).length ≤ xs.length := by rw [List.length_take]; omega
  omega
theorem size_total {xs : List ByteArray} {x : ByteArray} (h : x ∈ xs) : x.size ≤ total xs := by
  induction xs with
  | nil => cases h
  | cons y ys ih =>
    simp only [total, List.map_cons, List.sum_cons] at ih ⊢
    rcases List.mem_cons.1 h with rfl | h
    · omega
    · have := ih h; omega
/-- Seal, where the payloads together are no greater than a machine's memory. -/
theorem seal_small (ao : Option Addr) (cap : Nat) (xs : List ByteArray) (w : World) (hc : CellsAt w ao (strVals xs)) (hb : 8 * xs.length + total xs ≤ 70368744177600) :
    Calls Try.prog 35 #[.slice ao xs.length cap] w fun e w' => e = .returned (sealed xs) ∧ Below w.heap.size w w' :=
  seal_any ao cap xs w hc (by omega) (fun x hx => by have := size_total hx; omega) (fun k _ _ => by have := framesB_take xs k; omega)
theorem seal_one (X : ByteArray) (w : World) (hX : X.size ≤ 9223372036854775807) :
    Calls Try.prog 35 #[.slice (some ⟨w.heap.size, 0, none⟩) 1 1] (w.alloc (.cells #[.string X] 9)) fun e w' => e = .returned (sealed [X]) ∧ Below w.heap.size w w' := by
  refine (seal_any (some ⟨w.heap.size, 0, none⟩) 1 [X] _ (cells1' X) (by simp) (by intro x hx; simp at hx; subst hx; exact hX) ?_).mono ?_
  · intro k hk hs
    match k, hk with
    | 0, _ => simp [framesB]
    | 1, _ =>
      have := hs X (by simp)
      rw [framesB_len]
      simp [total]
      omega
  · rintro e w' ⟨rfl, hb⟩
    exact ⟨rfl, ((Below.refl _ _).alloc (Nat.le_refl _) _).trans (hb.mono (by simp))⟩
theorem sealed_ok {xs : List ByteArray} (h : ∀ x ∈ xs, x.size ≤ 65536) : sealed xs = .tuple #[.string (str (framesB xs)), .int .i64 0] := by unfold sealed; rw [if_pos h]
theorem sealed_long {xs : List ByteArray} (h : ¬ ∀ x ∈ xs, x.size ≤ 65536) : sealed xs = .tuple #[.string ⟨#[]⟩, .int .i64 2] := by unfold sealed; rw [if_neg h]
/-- Scan of the payloads' frames, with something behind them that begins with no frame. -/
theorem scan_frames (T : ByteArray) (xs : List ByteArray) (r : List UInt8) (w : World) (h : ∀ x ∈ xs, x.size ≤ 65536) (hr : first r = none) (hT : T.data.toList = framesB xs ++ r) (hb : T.size ≤ 70368744177600) :
    Calls Try.prog 40 #[.string T] w fun e w' => ∃ ao cap, e = .returned (.tuple #[.slice ao xs.length cap, .int .i64 ((framesB xs).length : Nat)]) ∧ CellsAt w' ao (strVals xs) ∧ Below w.heap.size w w' := by
  refine (scan_any T w hb).mono ?_
  rintro e w' ⟨⟨v, n, ps, rfl, hU, hf, hown⟩, hB⟩
  obtain ⟨rfl, hn⟩ := hU.unique hf (by rw [hT]; exact scanned_datas xs h r hr)
  rw [frames_datas] at hn
  subst hn
  rw [strs_datas, datas_len] at hown
  obtain ⟨ao, cap, rfl, hc⟩ := own_cells hown
  exact ⟨ao, cap, rfl, hc, hB⟩
/-- .. and the answer's row is new. -/
theorem scan_own (T : ByteArray) (xs : List ByteArray) (r : List UInt8) (w : World) (h : ∀ x ∈ xs, x.size ≤ 65536) (hr : first r = none) (hT : T.data.toList = framesB xs ++ r) (hb : T.size ≤ 70368744177600) :
    Calls Try.prog 40 #[.string T] w fun e w' => ∃ ao cap, e = .returned (.tuple #[.slice ao xs.length cap, .int .i64 ((framesB xs).length : Nat)]) ∧ w'.ownsRow w.heap.size 9 1 (.slice ao xs.length cap) xs.length (strVals xs) ∧ Below w.heap.size w w' := by
  refine (scan_any T w hb).mono ?_
  rintro e w' ⟨⟨v, n, ps, rfl, hU, hf, hown⟩, hB⟩
  obtain ⟨rfl, hn⟩ := hU.unique hf (by rw [hT]; exact scanned_datas xs h r hr)
  rw [frames_datas] at hn
  subst hn
  rw [strs_datas, datas_len] at hown
  obtain ⟨ao, cap, rfl, hc⟩ := own_cells hown
  exact ⟨ao, cap, rfl, hown, hB⟩
/-- Frames that were cut off: some first ones, and something that begins with no frame. -/
theorem framesB_cons (x : ByteArray) (xs : List ByteArray) : framesB (x :: xs) = frame x.data.toList ++ framesB xs := rfl
theorem framesB_append (xs ys : List ByteArray) : framesB (xs ++ ys) = framesB xs ++ framesB ys := by simp [framesB]
theorem framesB_cut (xs : List ByteArray) (h : ∀ x ∈ xs, x.size ≤ 65536) (j : Nat) : ∃ i r, i ≤ xs.length ∧ (framesB xs).take j = framesB (xs.take i) ++ r ∧ first r = none := by
  induction xs generalizing j with
  | nil => exact ⟨0, [], Nat.le_refl _, by simp [framesB], first_short (by decide)⟩
  | cons x xs ih =>
    have hx : x.data.toList.length ≤ 65536 := by rw [← Lib.size_eq]; exact h x (by simp)
    by_cases hj : j < (frame x.data.toList).length
    · refine ⟨0, (frame x.data.toList).take j, Nat.zero_le _, ?_, first_cut _ hx j (by rw [frame_len] at hj; exact hj)⟩
      rw [framesB_cons, List.take_append_of_le_length (by omega)]
      simp [framesB]
    · obtain ⟨i, r, hi, he, hr⟩ := ih (fun y hy => h y (List.mem_cons_of_mem _ hy)) (j - (frame x.data.toList).length)
      refine ⟨i + 1, r, by simpa using hi, ?_, hr⟩
      rw [framesB_cons, List.take_append, List.take_of_length_le (by omega), he, List.take_succ_cons, framesB_cons, List.append_assoc]

end Go.Proofs.Ytedjohkdfchocaa.Fr

/-
  The filter as plain mathematics: the hash of a key's bytes, the probes, a list of bytes told by its bits; a filter is told by its length and its set bits, so there is only one for given keys, in whatever order.
-/
namespace Go.Proofs.Ytedjohkdfchocaa.Bl

def feed (h : Nat) (c : UInt8) : Nat := ((h ^^^ c.toNat) * 1099511628211) % 18446744073709551616
def run (h : Nat) (l : List UInt8) : Nat := l.foldl feed h
def hash (s : ByteArray) : Nat := run 14695981039346656037 s.data.toList
theorem feed_lt (h : Nat) (c : UInt8) : feed h c < 18446744073709551616 := Nat.mod_lt _ (by decide)
theorem run_lt {h : Nat} (hh : h < 18446744073709551616) (l : List UInt8) : run h l < 18446744073709551616 := by
  induction l generalizing h with
  | nil => exact hh
  | cons c l ih => exact ih (feed_lt h c)
theorem hash_lt (s : ByteArray) : hash s < 18446744073709551616 := run_lt (by decide) _
theorem run_snoc (h : Nat) (l : List UInt8) (c : UInt8) : run h (l ++ [c]) = feed (run h l) c := by
  unfold run
  rw [List.foldl_append, List.foldl_cons, List.foldl_nil]
theorem run_bytes (h : Nat) (s : ByteArray) (k : Nat) (hk : k < s.size) : feed (run h (s.data.toList.take k)) s[k] = run h (s.data.toList.take (k + 1)) := by
  rw [List.take_succ_eq_append_getElem (by simpa using hk), run_snoc]
  rfl

def odd (b : Nat) : Nat := if b % 2 = 0 then b + 1 else b
theorem odd_lt {b : Nat} (h : b < 4294967296) : odd b < 4294967296 := by unfold odd; split <;> omega
theorem or_one (b : Nat) : b ||| 1 = odd b := by
  apply Nat.eq_of_testBit_eq
  intro i
  unfold odd
  rw [Nat.testBit_or]
  cases i with
  | zero =>
    simp only [Nat.testBit_zero]
    split <;> simp <;> omega
  | succ i =>
    rw [Nat.testBit_succ, Nat.testBit_succ, Nat.testBit_succ]
    have h1 : 1 / 2 = 0 := rfl
    rw [h1, Nat.zero_testBit, Bool.or_false]
    split
    · rw [show (b + 1) / 2 = b / 2 by omega]
    · rfl
/-- The probe number i in m bits of a key with that hash. -/
def probe (h i m : Nat) : Nat := (h % 4294967296 + i * odd (h / 4294967296)) % m
theorem probe_lt (h i : Nat) {m : Nat} (hm : 0 < m) : probe h i m < m := Nat.mod_lt _ hm

/-- The bit number p of a list of bytes. -/
def bitAt (f : List UInt8) (p : Nat) : Bool := (f.getD (p / 8) 0).toNat.testBit (p % 8)
theorem byte_ext {a b : UInt8} (h : ∀ j, j < 8 → a.toNat.testBit j = b.toNat.testBit j) : a = b := by
  apply UInt8.toNat_inj.1
  apply Nat.eq_of_testBit_eq
  intro i
  rcases Nat.lt_or_ge i 8 with hi | hi
  · exact h i hi
  · have e : 2 ^ 8 ≤ 2 ^ i := Nat.pow_le_pow_right (by decide) hi
    have ha := a.toNat_lt
    have hb := b.toNat_lt
    rw [Nat.testBit_lt_two_pow (by omega), Nat.testBit_lt_two_pow (by omega)]
theorem bits_ext {f g : List UInt8} (hl : f.length = g.length) (h : ∀ q, q < 8 * f.length → bitAt f q = bitAt g q) : f = g := by
  apply List.ext_getElem hl
  intro i h1 h2
  apply byte_ext
  intro j hj
  have := h (8 * i + j) (by omega)
  unfold bitAt at this
  rw [show (8 * i + j) / 8 = i by omega, show (8 * i + j) % 8 = j by omega] at this
  simpa [h1, h2] using this

/-- One bit more. -/
def setBit (f : List UInt8) (p : Nat) : List UInt8 := f.set (p / 8) (UInt8.ofNat ((f.getD (p / 8) 0).toNat ||| 2 ^ (p % 8)))
theorem setBit_length (f : List UInt8) (p : Nat) : (setBit f p).length = f.length := by simp [setBit]
theorem or_pow_lt (x : UInt8) (j : Nat) (hj : j < 8) : x.toNat ||| 2 ^ j < 256 := by
  have h1 : x.toNat < 2 ^ 8 := x.toNat_lt
  have h2 : 2 ^ j < 2 ^ 8 := Nat.pow_lt_pow_right (by decide) hj
  exact Nat.or_lt_two_pow h1 h2
theorem setBit_at {f : List UInt8} {p : Nat} (hp : p < 8 * f.length) (q : Nat) : bitAt (setBit f p) q = (decide (q = p) || bitAt f q) := by
  have hp8 : p / 8 < f.length := by omega
  unfold bitAt setBit
  by_cases h : q / 8 = p / 8
  · rw [h]
    have e : (f.set (p / 8) (UInt8.ofNat ((f.getD (p / 8) 0).toNat ||| 2 ^ (p % 8)))).getD (p / 8) 0 = UInt8.ofNat ((f.getD (p / 8) 0).toNat ||| 2 ^ (p % 8)) := by
      simp [hp8]
    rw [e]
    have hlt := or_pow_lt (f.getD (p / 8) 0) (p % 8) (by omega)
    rw [UInt8.toNat_ofNat_of_lt' hlt, Nat.testBit_or, Nat.testBit_two_pow, Bool.or_comm]
    congr 1
    by_cases e2 : q = p
    · subst e2; simp
    · rw [decide_eq_false e2, decide_eq_false (by omega)]
  · have e : (f.set (p / 8) (UInt8.ofNat ((f.getD (p / 8) 0).toNat ||| 2 ^ (p % 8)))).getD (q / 8) 0 = f.getD (q / 8) 0 := by
      simp only [List.getD_eq_getElem?_getD]
      rw [List.getElem?_set_ne (by omega)]
    rw [e, decide_eq_false (by rintro rfl; exact h rfl), Bool.false_or]

def len (n : Nat) : Nat := (10 * n + 7) / 8
/-- q is a probe of one of the keys. -/
def Hits (xs : List ByteArray) (m q : Nat) : Prop := ∃ x ∈ xs, ∃ i, i < 4 ∧ q = probe (hash x) i m
/-- f is the filter of the keys. -/
def IsFilter (xs : List ByteArray) (f : List UInt8) : Prop := f.length = len xs.length ∧ ∀ q, q < 8 * f.length → (bitAt f q = true ↔ Hits xs (8 * f.length) q)
theorem IsFilter.unique {xs ys : List ByteArray} {f g : List UInt8} (hf : IsFilter xs f) (hg : IsFilter ys g) (hl : xs.length = ys.length) (hm : ∀ x, x ∈ xs ↔ x ∈ ys) : f = g := by
  have hlen : f.length = g.length := by rw [hf.1, hg.1, hl]
  refine bits_ext hlen fun q hq => ?_
  apply Bool.eq_iff_iff.2
  rw [hf.2 q hq, hg.2 q (by omega), hlen]
  unfold Hits
  simp only [hm]
/-- What the filter says of a key. -/
def may (f : List UInt8) (x : ByteArray) : Bool := decide (f ≠ []) && (bitAt f (probe (hash x) 0 (8 * f.length)) && (bitAt f (probe (hash x) 1 (8 * f.length)) && (bitAt f (probe (hash x) 2 (8 * f.length)) && bitAt f (probe (hash x) 3 (8 * f.length)))))
theorem may_iff {f : List UInt8} {x : ByteArray} : may f x = true ↔ f ≠ [] ∧ ∀ i, i < 4 → bitAt f (probe (hash x) i (8 * f.length)) = true := by
  unfold may
  simp only [Bool.and_eq_true, decide_eq_true_eq]
  constructor
  · rintro ⟨h, h0, h1, h2, h3⟩
    refine ⟨h, fun i hi => ?_⟩
    match i, hi with
    | 0, _ => exact h0
    | 1, _ => exact h1
    | 2, _ => exact h2
    | 3, _ => exact h3
  · rintro ⟨h, k⟩
    exact ⟨h, k 0 (by omega), k 1 (by omega), k 2 (by omega), k 3 (by omega)⟩
theorem IsFilter.keeps {xs : List ByteArray} {f : List UInt8} (hf : IsFilter xs f) {x : ByteArray} (hx : x ∈ xs) : may f x = true := by
  have hn : 0 < xs.length := List.length_pos_of_mem hx
  have hl : 0 < f.length := by rw [hf.1]; unfold len; omega
  refine may_iff.2 ⟨by intro h; rw [h] at hl; simp at hl, fun i hi => ?_⟩
  exact (hf.2 _ (probe_lt _ _ (by omega))).2 ⟨x, hx, i, hi, rfl⟩
theorem IsFilter.nil_iff {xs : List ByteArray} {f : List UInt8} (hf : IsFilter xs f) : f = [] ↔ xs.length = 0 := by
  have h := hf.1
  unfold len at h
  rw [← List.length_eq_zero_iff]
  omega

/-! ### How a filter is filled, probe by probe -/
/-- So far: the keys of the list, and the first j probes of one more. -/
def Part (xs : List ByteArray) (m : Nat) (x : ByteArray) (j : Nat) (f : List UInt8) : Prop := 8 * f.length = m ∧ ∀ q, q < m → (bitAt f q = true ↔ Hits xs m q ∨ ∃ i, i < j ∧ q = probe (hash x) i m)
theorem Part.step {xs : List ByteArray} {m : Nat} {x : ByteArray} {j : Nat} {f : List UInt8} (h : Part xs m x j f) (hm : 0 < m) : Part xs m x (j + 1) (setBit f (probe (hash x) j m)) := by
  have hp := probe_lt (hash x) j hm
  refine ⟨by rw [setBit_length]; exact h.1, fun q hq => ?_⟩
  rw [setBit_at (by rw [h.1]; exact hp), Bool.or_eq_true, decide_eq_true_eq, h.2 q hq]
  constructor
  · rintro (e | e | ⟨i, hi, e⟩)
    · exact .inr ⟨j, by omega, e⟩
    · exact .inl e
    · exact .inr ⟨i, by omega, e⟩
  · rintro (e | ⟨i, hi, e⟩)
    · exact .inr (.inl e)
    · by_cases e2 : i = j
      · subst e2; exact .inl e
      · exact .inr (.inr ⟨i, by omega, e⟩)
theorem Part.turn {xs : List ByteArray} {m : Nat} {x y : ByteArray} {f : List UInt8} (h : Part xs m x 4 f) : Part (xs ++ [x]) m y 0 f := by
  refine ⟨h.1, fun q hq => ?_⟩
  rw [h.2 q hq]
  unfold Hits
  constructor
  · rintro (⟨a, ha, r⟩ | r)
    · exact .inl ⟨a, by simp [ha], r⟩
    · exact .inl ⟨x, by simp, r⟩
  · rintro (⟨a, ha, r⟩ | ⟨i, hi, _⟩)
    · rcases List.mem_append.1 ha with ha | ha
      · exact .inl ⟨a, ha, r⟩
      · rw [List.mem_singleton.1 ha] at r; exact .inr r
    · omega
theorem bitAt_zeros (n q : Nat) : bitAt (List.replicate n 0) q = false := by
  unfold bitAt
  have : (List.replicate n (0 : UInt8)).getD (q / 8) 0 = 0 := by
    simp only [List.getD_eq_getElem?_getD, List.getElem?_replicate]
    split <;> rfl
  rw [this]
  simp
theorem Part.start (n : Nat) (x : ByteArray) : Part [] (8 * n) x 0 (List.replicate n 0) := by
  refine ⟨by simp, fun q _ => ?_⟩
  rw [bitAt_zeros]
  constructor
  · intro h; cases h
  · rintro (⟨a, ha, _⟩ | ⟨i, hi, _⟩)
    · cases ha
    · omega
theorem Part.done {xs : List ByteArray} {x : ByteArray} {f : List UInt8} (h : Part xs (8 * len xs.length) x 0 f) : IsFilter xs f := by
  have hl : f.length = len xs.length := by have := h.1; omega
  refine ⟨hl, fun q hq => ?_⟩
  rw [hl] at hq ⊢
  rw [h.2 q hq]
  constructor
  · rintro (e | ⟨i, hi, _⟩)
    · exact e
    · omega
  · exact .inl

/-! ### More bits -/
def joinAt (f g : List UInt8) (i : Nat) : UInt8 := if i < g.length then UInt8.ofNat ((f.getD i 0).toNat ||| (g.getD i 0).toNat) else f.getD i 0
def joined (f g : List UInt8) (k : Nat) : List UInt8 := (List.range k).map (joinAt f g)
theorem joined_grows (f g : List UInt8) {q : Nat} (hq : q < 8 * f.length) (h : bitAt f q = true) : bitAt (joined f g f.length) q = true := by
  unfold bitAt joined at *
  have e : ((List.range f.length).map (joinAt f g)).getD (q / 8) 0 = joinAt f g (q / 8) := by
    have : q / 8 < f.length := by omega
    simp [this]
  rw [e]
  unfold joinAt
  split
  · have h1 : (f.getD (q / 8) 0).toNat < 2 ^ 8 := UInt8.toNat_lt _
    have h2 : (g.getD (q / 8) 0).toNat < 2 ^ 8 := UInt8.toNat_lt _
    rw [UInt8.toNat_ofNat_of_lt' (Nat.or_lt_two_pow h1 h2), Nat.testBit_or, h, Bool.true_or]
  · exact h
theorem joined_length (f g : List UInt8) (k : Nat) : (joined f g k).length = k := by simp [joined]
theorem joined_succ (f g : List UInt8) (k : Nat) : joined f g (k + 1) = joined f g k ++ [joinAt f g k] := by simp [joined, List.range_succ]
theorem may_grows {f g : List UInt8} {x : ByteArray} (h : may f x = true) : may (joined f g f.length) x = true := by
  obtain ⟨h0, h1⟩ := may_iff.1 h
  have hl : 0 < f.length := List.length_pos_iff.2 h0
  refine may_iff.2 ⟨by intro e; have := joined_length f g f.length; rw [e] at this; simp at this; omega, fun i hi => ?_⟩
  rw [joined_length]
  exact joined_grows f g (probe_lt _ _ (by omega)) (h1 i hi)

end Go.Proofs.Ytedjohkdfchocaa.Bl
