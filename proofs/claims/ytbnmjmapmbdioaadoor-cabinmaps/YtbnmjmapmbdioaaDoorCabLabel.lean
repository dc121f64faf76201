/-
  Package cabin: labels: a number in decimal digits and a letter.
-/
import Derived.Test.YtbnmjmapmbdioaaDoorRows
import Derived.Test.YtbnmjmapmbdioaaDoorCabPlace
import Derived.Test.YtbnmjmapmbdioaaDoorManDigits
import Derived.Test.YtbnmjmapmbdioaaDoorCabShelf
import Derived.Shelf.Strconv.Itoa3
import Derived.Shelf.Strconv.AtoiAll
import Derived.Shelf.Strconv.ErrVarAll
import Derived.Lib.AppendIntMem
import Derived.Lib.ItoaLen
import Derived.BigQuiet
namespace Go.Proofs.YtbnmjmapmbdioaaDoor.Cb
open Go.RowKit Cm Go.Shelf
open Ma (OkI atoi_itoa itoa_inj dec_digit)
attribute [local go_sem ↓] Go.wp_at_zero Go.wp_at_succ
set_option linter.unusedVariables false

/-- The third variable that the rows list: the table of powers of ten. -/
def powName : String := (Rows.cabinMapsUptoRow.laid.map fun x => x.1).getD 2 ""
/-- The table is laid. -/
def Pow (w : World) : Prop := Lib.TabIs Tryd.prog w powName .u64 Lib.pow10Tab
theorem var_below {P : Program} {w w' : World} {n : String} {cs : Array Value} (h : w.var? P n = some cs) (hb : Below w.heap.size w w') : w'.var? P n = some cs := by
  unfold World.var? at *
  cases hg : P.globalNamed n with
  | none => rw [hg] at h; cases h
  | some g =>
    rw [hg] at h
    simp only [Option.bind_some] at h ⊢
    cases ho : w.heap[g]? with
    | none => rw [ho] at h; cases h
    | some o =>
      rw [(hb.block g (lt_of_block ho)).trans ho]
      rw [ho] at h
      exact h
theorem Pow.below {w w' : World} (h : Pow w) (hb : Below w.heap.size w w') : Pow w' := var_below h hb
def digits (n : Int) : ByteArray := ⟨(Lib.itoa n).toArray⟩
theorem digits_size (n : Int) (hn : OkI n) : (digits n).size ≤ 21 := by
  have := Lib.itoa_length_le n hn.1 hn.2
  show (Lib.itoa n).toArray.size ≤ 21
  rw [List.size_toArray]; exact this
theorem itoa_any (n : Int) (hn : OkI n) (w : World) (hp : Pow w) : Calls Tryd.prog 32 #[.int .i64 n] w fun e w' => e = .returned (.string (digits n)) ∧ Below w.heap.size w w' := by
  have hf : Calls Tryd.prog 41 #[.int .i64 n, .int .i64 10] w fun e w' => e = .returned (.string (digits n)) ∧ Below w.heap.size w w' := by
    refine (Any.internal_strconv_FormatInt_10 Tryd.formatM n hn.1 hn.2 w hp).mono ?_
    rintro e w' ⟨rfl, k, os, rfl⟩
    exact ⟨rfl, Lib.below_grow _ w (Nat.le_refl _) k os⟩
  have HF : Hid _ := hf
  clear hf
  go_enter Tryd.func32, Tryd.ntmps32
  go_wp2_with (first | (go_at_call 41; refine (show Calls _ _ _ _ _ from HF.out).mono ?_; rintro e w1 ⟨rfl, hb1⟩) | go_in)
  go_ret
  exact ⟨rfl, hb1⟩
/-- The seat's label. -/
def letS (x : Int) : ByteArray := ⟨#[UInt8.ofNat x.toNat]⟩
def lbl (a : Int × Int) : ByteArray := if 1 ≤ a.1 ∧ a.1 ≤ 99 ∧ isL a.2 = true then digits a.1 ++ letS a.2 else ⟨#[45]⟩
theorem enc_letter (x : Int) (h : isL x = true) : Utf8.encode x = letS x := by
  rw [isL_iff] at h
  obtain ⟨n, rfl⟩ : ∃ n : Nat, x = (n : Int) := ⟨x.toNat, by omega⟩
  have hn : n - 65 < 26 := by omega
  have : ∀ k : Fin 26, Utf8.encode ((k.val + 65 : Nat) : Int) = letS ((k.val + 65 : Nat) : Int) := by decide +kernel
  have := this ⟨n - 65, hn⟩
  simp only at this
  rwa [show n - 65 + 65 = n by omega] at this
set_option maxRecDepth 100000 in
set_option maxHeartbeats 1000000 in
theorem label_any (a : Int × Int) (w : World) (hp : Pow w) : Calls Tryd.prog 21 #[sev a] w fun e w' => e = .returned (.string (lbl a)) ∧ Below w.heap.size w w' := by
  obtain ⟨n, x⟩ := a
  unfold sev
  simp only
  have HL : Hid (∀ W, Calls Tryd.prog 31 #[.int .u8 x] W fun e w' => e = .returned (.bool (isL x)) ∧ w' = W) := fun W => isLetter_any x W
  by_cases h1 : n < 1
  · have h1' : decide (n < 1) = true := decide_eq_true h1
    have HE : Hid (lbl (n, x) = ⟨#[45]⟩) := if_neg (fun h => by have := h.1; simp only at this; omega)
    go_enter Tryd.func21, Tryd.ntmps21
    go_wp2
    go_ret
    exact ⟨by rw [HE.out]; rfl, (Below.refl _ _).alloc (Nat.le_refl _) _⟩
  have h1' : decide (n < 1) = false := decide_eq_false h1
  by_cases h2 : 99 < n
  · have h2' : decide (99 < n) = true := decide_eq_true h2
    have HE : Hid (lbl (n, x) = ⟨#[45]⟩) := if_neg (fun h => by have := h.2.1; simp only at this; omega)
    go_enter Tryd.func21, Tryd.ntmps21
    go_wp2
    go_ret
    exact ⟨by rw [HE.out]; rfl, (Below.refl _ _).alloc (Nat.le_refl _) _⟩
  have h2' : decide (99 < n) = false := decide_eq_false h2
  cases hx : isL x with
  | false =>
    have HE : Hid (lbl (n, x) = ⟨#[45]⟩) := if_neg (fun h => by have := h.2.2; simp only at this; rw [hx] at this; cases this)
    rw [hx] at HL
    go_enter Tryd.func21, Tryd.ntmps21
    go_wp2_with (go_at_call 31; refine (show Calls _ _ _ _ _ from HL.out _).mono ?_; rintro e w1 ⟨rfl, rfl⟩)
    go_ret
    exact ⟨by rw [HE.out]; rfl, (Below.refl _ _).alloc (Nat.le_refl _) _⟩
  | true =>
    have HE : Hid (lbl (n, x) = digits n ++ letS x) := if_pos ⟨by simp only; omega, by simp only; omega, hx⟩
    have HU : Hid (Utf8.encode x = letS x) := enc_letter x hx
    rw [hx] at HL
    have hx65 := (isL_iff x).1 hx
    obtain ⟨X, hX⟩ : ∃ X, X = w.alloc (seObj n x) := ⟨_, rfl⟩
    have hbX : Below w.heap.size w X := by rw [hX]; exact (Below.refl _ _).alloc (Nat.le_refl _) _
    have hg : X.heap[w.heap.size]? = some (seObj n x) := by rw [hX]; exact heap_alloc_new w _
    obtain ⟨c0, c1⟩ := seo_cells hg
    have hdX : Below w.heap.size w X.drew := hbX.drew
    have HI : Hid _ := itoa_any n ⟨by omega, by omega⟩ X.drew (hp.below hdX)
    have HBY : Hid (∀ Y, Below X.drew.heap.size X.drew Y → Below w.heap.size w Y ∧ Y.cell? ⟨w.heap.size, 0, none⟩ = some (.int .i64 n) ∧ Y.cell? ⟨w.heap.size, 1, none⟩ = some (.int .u8 x)) := fun Y hY => by
      obtain ⟨p, q⟩ := seo_cells ((hY.block _ (by show w.heap.size < X.heap.size; exact lt_of_block hg)).trans hg)
      exact ⟨hdX.trans (hY.mono hdX.size), p, q⟩
    have hds := digits_size n ⟨by omega, by omega⟩
    have hls : (letS x).size = 1 := rfl
    have hadd : ¬ (9223372036854775807 < (digits n).size + (letS x).size) := by omega
    unfold seObj at hX
    have HX : Hid _ := hX
    have hlt0 := lt_of_block hg
    have hU := HU.out
    have hw32 : IntKind.i32.wrap x = x := by simp [IntKind.wrap, IntKind.bits, IntKind.signed]; omega
    clear hX hg hbX hdX hx hls
    go_enter Tryd.func21, Tryd.ntmps21
    go_wp2_with (go_at_call 31; refine (show Calls _ _ _ _ _ from HL.out _).mono ?_; rintro e w1 ⟨rfl, rfl⟩)
    rw [← HX.out]
    clear HX
    go_region_held3 (fun w' => w'.cell? ⟨w.heap.size, 0, none⟩ = some (.int .i64 n) ∧ w'.cell? ⟨w.heap.size, 1, none⟩ = some (.int .u8 x)) (first | go_keep | trivial)
      ((first
        | (go_at_call 32; refine (show Calls _ _ _ _ _ from HI.out).mono ?_; rintro e w5 ⟨rfl, hb5⟩; obtain ⟨hw5, d0, d1⟩ := HBY.out w5 hb5)
        | fail))
    go_wp2
    go_ret
    exact ⟨by rw [HE.out]; rfl, hw5⟩
theorem letter_at (c : Nat) (hc : c < 256) (g : Nat) (Y : World) (h : Y.heap[g]? = some (.cells #[.int .u8 (c : Int)] 5 (0, 0))) : (convert 65 9 (.slice (some ⟨g, 0, none⟩) 1 1)).run Tryd.prog Y = .ok (.string (letS c)) Y := by
  have e : (letS (c : Int)) = ⟨[UInt8.ofNat c].toArray⟩ := rfl
  rw [e]
  refine run_convert_bytes_back Y 65 9 5 ⟨g, 0, none⟩ 1 [UInt8.ofNat c] Tryd.underlying65 Tryd.underlying5 Tryd.underlying9 fun j hj => ?_
  obtain rfl : j = 0 := by simpa using hj
  rw [Go.WideShapes.add_plain, Nat.zero_add, Joins.cell_of_block h]
  simp only [List.getElem_cons_zero, UInt8.toNat_ofNat', Nat.mod_eq_of_lt hc]
  rfl
set_option maxRecDepth 100000 in
set_option maxHeartbeats 1000000 in
theorem labelR_any (a : Int × Int) (w : World) (hp : Pow w) : Calls Tryd.prog 22 #[sev a] w fun e w' => e = .returned (.string (lbl a)) ∧ Below w.heap.size w w' := by
  obtain ⟨n, x⟩ := a
  unfold sev
  simp only
  by_cases h1 : n < 1
  · have h1' : decide (n < 1) = true := decide_eq_true h1
    have HE : Hid (lbl (n, x) = ⟨#[45]⟩) := if_neg (fun h => by have := h.1; simp only at this; omega)
    go_enter Tryd.func22, Tryd.ntmps22
    go_wp2
    go_ret
    exact ⟨by rw [HE.out]; rfl, (Below.refl _ _).alloc (Nat.le_refl _) _⟩
  have h1' : decide (n < 1) = false := decide_eq_false h1
  by_cases h2 : 99 < n
  · have h2' : decide (99 < n) = true := decide_eq_true h2
    have HE : Hid (lbl (n, x) = ⟨#[45]⟩) := if_neg (fun h => by have := h.2.1; simp only at this; omega)
    go_enter Tryd.func22, Tryd.ntmps22
    go_wp2
    go_ret
    exact ⟨by rw [HE.out]; rfl, (Below.refl _ _).alloc (Nat.le_refl _) _⟩
  have h2' : decide (99 < n) = false := decide_eq_false h2
  by_cases h3 : x < 65
  · have h3' : decide (x < 65) = true := decide_eq_true h3
    have HE : Hid (lbl (n, x) = ⟨#[45]⟩) := if_neg (fun h => by have := (isL_iff _).1 h.2.2; simp only at this; omega)
    go_enter Tryd.func22, Tryd.ntmps22
    go_wp2
    go_ret
    exact ⟨by rw [HE.out]; rfl, (Below.refl _ _).alloc (Nat.le_refl _) _⟩
  have h3' : decide (x < 65) = false := decide_eq_false h3
  by_cases h4 : 90 < x
  · have h4' : decide (90 < x) = true := decide_eq_true h4
    have HE : Hid (lbl (n, x) = ⟨#[45]⟩) := if_neg (fun h => by have := (isL_iff _).1 h.2.2; simp only at this; omega)
    go_enter Tryd.func22, Tryd.ntmps22
    go_wp2
    go_ret
    exact ⟨by rw [HE.out]; rfl, (Below.refl _ _).alloc (Nat.le_refl _) _⟩
  have h4' : decide (90 < x) = false := decide_eq_false h4
  have HE : Hid (lbl (n, x) = digits n ++ letS x) := if_pos ⟨by simp only; omega, by simp only; omega, by simp only; rw [isL_iff]; omega⟩
  obtain ⟨c, rfl⟩ : ∃ c : Nat, x = (c : Int) := ⟨x.toNat, by omega⟩
  obtain ⟨X, hX⟩ : ∃ X, X = w.alloc (seObj n c) := ⟨_, rfl⟩
  have hbX : Below w.heap.size w X := by rw [hX]; exact (Below.refl _ _).alloc (Nat.le_refl _) _
  have hg : X.heap[w.heap.size]? = some (seObj n c) := by rw [hX]; exact heap_alloc_new w _
  obtain ⟨c0, c1⟩ := seo_cells hg
  have hlt0 := lt_of_block hg
  have HBY : Hid (∀ Y, Below X.heap.size X Y → Below w.heap.size w Y ∧ Y.cell? ⟨w.heap.size, 0, none⟩ = some (.int .i64 n) ∧ Y.cell? ⟨w.heap.size, 1, none⟩ = some (.int .u8 (c : Int))) := fun Y hY => by
    obtain ⟨p, q⟩ := seo_cells ((hY.block _ hlt0).trans hg)
    exact ⟨hbX.trans (hY.mono hbX.size), p, q⟩
  have HIT : Hid (∀ Y, Below X.heap.size X Y → Calls Tryd.prog 32 #[.int .i64 n] Y fun e w'' => e = .returned (.string (digits n)) ∧ Below Y.heap.size Y w'') := fun Y hY => itoa_any n ⟨by omega, by omega⟩ Y (hp.below (HBY.out Y hY).1)
  have hds := digits_size n ⟨by omega, by omega⟩
  have hls : (letS (c : Int)).size = 1 := rfl
  have hadd : ¬ (9223372036854775807 < (digits n).size + (letS (c : Int)).size) := by omega
  have HB1 : Hid (Below X.heap.size X X.drew) := (Below.refl _ _).drew
  have HB2 : Hid (Below X.heap.size X (X.alloc (.cells #[.int .u8 (c : Int)] 5)).drew) := ((Below.refl _ _).alloc (Nat.le_refl _) _).drew
  have HT : Hid (∀ Y Z, Below X.heap.size X Y → Below Y.heap.size Y Z → Below X.heap.size X Z) := fun Y Z h1 h2 => h1.trans (h2.mono h1.size)
  have hcv : (convert 65 9 (.slice (some ⟨X.heap.size, 0, none⟩) 1 1)).run Tryd.prog (X.alloc (.cells #[.int .u8 (c : Int)] 5)).drew = .ok (.string (letS c)) (X.alloc (.cells #[.int .u8 (c : Int)] 5)).drew := letter_at c (by omega) _ _ (heap_alloc_new X _)
  have HCv : Hid (∀ Y, Below (X.alloc (.cells #[.int .u8 (c : Int)] 5)).drew.heap.size (X.alloc (.cells #[.int .u8 (c : Int)] 5)).drew Y → (convert 65 9 (.slice (some ⟨X.heap.size, 0, none⟩) 1 1)).run Tryd.prog Y = .ok (.string (letS c)) Y) := fun Y hY => letter_at c (by omega) _ _ ((hY.block _ (by show X.heap.size < (X.alloc _).heap.size; simp)).trans (heap_alloc_new X _))
  have HCn : Hid (∀ Y : World, (convert 65 9 (.slice (some ⟨Y.heap.size, 0, none⟩) 1 1)).run Tryd.prog (Y.alloc (.cells #[.int .u8 (c : Int)] 5)) = .ok (.string (letS c)) (Y.alloc (.cells #[.int .u8 (c : Int)] 5))) := fun Y => letter_at c (by omega) _ _ (heap_alloc_new Y _)
  unfold seObj at hX
  have HX : Hid _ := hX
  clear hX hg hbX hls
  go_enter Tryd.func22, Tryd.ntmps22
  go_wp2_with fail
  rw [← HX.out]
  clear HX
  go_region_with (go_at_call 32; first
    | (refine (show Calls _ _ _ _ _ from HIT.out X.drew HB1.out).mono ?_; rintro e w5 ⟨rfl, hb5⟩; have hw5 := HT.out _ _ HB1.out hb5; obtain ⟨_, d0, d1⟩ := HBY.out w5 hw5; have hc1 := HCn.out w5)
    | (refine (show Calls _ _ _ _ _ from HIT.out _ HB2.out).mono ?_; rintro e w5 ⟨rfl, hb5⟩; have hw5 := HT.out _ _ HB2.out hb5; obtain ⟨_, d0, d1⟩ := HBY.out w5 hw5; have hc1 := HCv.out w5 hb5))
  all_goals
    go_wp2
    go_ret
    first
      | exact ⟨by rw [HE.out]; rfl, (HBY.out _ hw5).1⟩
      | exact ⟨by rw [HE.out]; rfl, (HBY.out _ (hw5.alloc hw5.size _)).1⟩
end Go.Proofs.YtbnmjmapmbdioaaDoor.Cb
