/-
  The walk of the statement VfsMoves.
-/
import Derived.Test.YthiagcialidfjaaVfsLives
import Derived.Laws.Concat
namespace Go.Proofs.Ythiagcialidfjaa.Vf
open Go.RowKit Cm
set_option linter.unusedVariables false

def fA (s l : ByteArray) : File := ⟨s.data.toList ++ l.data.toList, s.data.toList.length⟩
/-- The files behind the renaming. -/
def M6 (s l o : ByteArray) (y : Name) : Option File := if y = [98] then some (fA s l) else if y = [99] then some ⟨o.data.toList, 0⟩ else none
theorem M6_eq (s l o : ByteArray) : setF (setF (setF (setF (setF (setF (setF (fun _ => none) [97] (some ⟨[] ++ s.data.toList, 0⟩)) [97] (some (File.sync ⟨[] ++ s.data.toList, 0⟩))) [97] (some (fA s l))) [98] (some ⟨[] ++ o.data.toList, 0⟩)) [99] (some ⟨[] ++ o.data.toList, 0⟩)) [97] none) [98] (some (fA s l)) = M6 s l o := by
  funext y
  unfold setF M6
  by_cases h1 : y = [98]
  · simp [h1]
  · by_cases h2 : y = [97]
    · subst h2; simp
    · simp [h1, h2]
theorem names6 (s l o : ByteArray) : Names (M6 s l o) [[98], [99]] := ⟨by simp; decide, by decide, fun x => by
  unfold M6
  by_cases h1 : x = [98]
  · simp [h1]
  · by_cases h2 : x = [99] <;> simp [h1, h2]⟩
theorem names7 (s l o : ByteArray) : Names (setF (M6 s l o) [98] none) [[99]] := ⟨by simp, by decide, fun x => by
  unfold setF M6
  by_cases h1 : x = [98]
  · simp [h1]
  · by_cases h2 : x = [99] <;> simp [h1, h2]⟩
theorem crash6 (s l o : ByteArray) : crashed (M6 s l o) [] (⟨#[98]⟩ : ByteArray).data.toList [[98], [99]] = some ⟨s.data.toList, s.data.toList.length⟩ := by
  have h1 : M6 s l o [98] = some (fA s l) := by unfold M6; rw [if_pos rfl]
  show crashed (M6 s l o) [] [98] [[98], [99]] = _
  unfold crashed
  rw [if_pos (by simp), h1]
  show some (File.left (fA s l) 0) = _
  have hn : (fA s l).synced + (min (max (0 : Int) 0) (((fA s l).bytes.length : Int) - (fA s l).synced)).toNat = s.data.toList.length := by
    show s.data.toList.length + (min (max (0 : Int) 0) (((s.data.toList ++ l.data.toList).length : Int) - s.data.toList.length)).toNat = _
    rw [List.length_append]; omega
  unfold File.left
  simp only [hn]
  show some (⟨(s.data.toList ++ l.data.toList).take _, _⟩ : File) = _
  rw [List.take_left]
theorem ne_self (a : ByteArray) : (a.toList == a.toList) = true := by simp
theorem back (x : ByteArray) : (⟨x.data.toList.toArray⟩ : ByteArray) = x := str_back x
theorem back2 (x y : ByteArray) : (⟨(x.data.toList ++ y.data.toList).toArray⟩ : ByteArray) = x ++ y := by
  have := str_back (x ++ y)
  rw [ByteArray.data_append, Array.toList_append] at this
  exact this

set_option maxRecDepth 100000 in
set_option maxHeartbeats 2000000 in
theorem moves_walk (s l o : ByteArray) (w : World) (hb : s.size + l.size + o.size ≤ 4398046511104) :
    Calls Try.prog 6 #[.string s, .string l, .string o] w fun e w' => e = .returned (.bool true) ∧ Below w.heap.size w w' := by
  have hs : s.data.toList.length = s.size := by rw [← Lib.size_eq]
  have ho : o.data.toList.length = o.size := by rw [← Lib.size_eq]
  have hl : l.data.toList.length = l.size := by rw [← Lib.size_eq]
  have HBd : Hid (s.size + l.size + o.size ≤ 4398046511104) := hb
  have HLn : Hid (s.data.toList.length = s.size ∧ o.data.toList.length = o.size ∧ l.data.toList.length = l.size) := ⟨hs, ho, hl⟩
  clear hs ho hl hb
  go_enter Try.func6, Try.ntmps6
  go_wp2_with fail
  refine (lives_any w).mono ?_
  rintro e w0 ⟨rfl, hb0⟩
  have hs0 := hb0.size
  go_wp2_with fail
  refine (newCalm w0).mono ?_
  rintro e w1 ⟨rfl, HC, hb1⟩
  have HC1 : Hid _ := HC
  have hB1 : Below w.heap.size w w1 := hb0.trans (hb1.mono hs0)
  have hs1 := hb1.size
  clear hb0 hb1 HC
  go_wp2_with fail
  refine (Calm.append HC1.out hs1 ⟨#[97]⟩ s (by decide) (by decide) (by decide) (by have := HBd.out; show 0 + _ ≤ _; omega)).mono ?_
  rintro e w2 ⟨rfl, HC, hb2⟩
  have HC2 : Hid _ := HC
  have hB2 : Below w.heap.size w w2 := hB1.trans (hb2.mono hs0)
  have hs2 := Nat.le_trans hs1 hb2.size
  clear hB1 hb2 HC HC1
  go_wp2_with fail
  refine (Calm.sync HC2.out hs2 ⟨#[97]⟩ ⟨[] ++ s.data.toList, 0⟩ rfl (by decide) (by decide) (by decide)).mono ?_
  rintro e w3 ⟨rfl, HC, hb3⟩
  have HC3 : Hid _ := HC
  have hB3 : Below w.heap.size w w3 := hB2.trans (hb3.mono hs0)
  have hs3 := Nat.le_trans hs2 hb3.size
  clear hB2 hb3 HC HC2
  go_wp2_with fail
  refine (Calm.append HC3.out hs3 ⟨#[97]⟩ l (by decide) (by decide) (by decide) (by have := HBd.out; have := HLn.out.1; show ([] ++ s.data.toList).length + _ ≤ _; simp only [List.nil_append]; omega)).mono ?_
  rintro e w4 ⟨rfl, HC, hb4⟩
  have HC4 : Hid _ := HC
  have hB4 : Below w.heap.size w w4 := hB3.trans (hb4.mono hs0)
  have hs4 := Nat.le_trans hs3 hb4.size
  clear hB3 hb4 HC HC3
  go_wp2_with fail
  refine (Calm.append HC4.out hs4 ⟨#[98]⟩ o (by decide) (by decide) (by decide) (by have := HBd.out; show 0 + _ ≤ _; omega)).mono ?_
  rintro e w5 ⟨rfl, HC, hb5⟩
  have HC5 : Hid _ := HC
  have hB5 : Below w.heap.size w w5 := hB4.trans (hb5.mono hs0)
  have hs5 := Nat.le_trans hs4 hb5.size
  clear hB4 hb5 HC HC4
  go_wp2_with fail
  refine (Calm.append HC5.out hs5 ⟨#[99]⟩ o (by decide) (by decide) (by decide) (by have := HBd.out; show 0 + _ ≤ _; omega)).mono ?_
  rintro e w6 ⟨rfl, HC, hb6⟩
  have HC6 : Hid _ := HC
  have hB6 : Below w.heap.size w w6 := hB5.trans (hb6.mono hs0)
  have hs6 := Nat.le_trans hs5 hb6.size
  clear hB5 hb6 HC HC5
  go_wp2_with fail
  refine (Calm.rename HC6.out hs6 ⟨#[97]⟩ ⟨#[98]⟩ (fA s l) rfl (by decide) (by decide) (by decide) (by decide)).mono ?_
  rintro e w7 ⟨rfl, HC, hb7⟩
  have HC7 : Hid (Calm w7 w0.heap.size (w0.heap.size + 1) (M6 s l o) 6 6) := by rw [← M6_eq]; exact HC
  have hB7 : Below w.heap.size w w7 := hB6.trans (hb7.mono hs0)
  have hs7 := Nat.le_trans hs6 hb7.size
  clear hB6 hb7 HC HC6
  go_wp2_with fail
  refine (Calm.read_some HC7.out ⟨#[98]⟩ (s ++ l) (fA s l) (by unfold M6; rw [if_pos rfl]) (by rw [ByteArray.data_append, Array.toList_append]; rfl) (by decide)).mono ?_
  rintro e w8 ⟨rfl, hb8⟩
  have HC8 : Hid _ := Calm.below HC7.out hb8
  have hB8 : Below w.heap.size w w8 := hB7.trans (hb8.mono hB7.size)
  have hs8 := Nat.le_trans hs7 hb8.size
  clear hB7 hb8 HC7
  go_wp2_with fail
  refine (Calm.read_some HC8.out ⟨#[99]⟩ o ⟨o.data.toList, 0⟩ (by unfold M6; rw [if_neg (by decide), if_pos rfl]) rfl (by decide)).mono ?_
  rintro e w9 ⟨rfl, hb9⟩
  have HC9 : Hid _ := Calm.below HC8.out hb9
  have hB9 : Below w.heap.size w w9 := hB8.trans (hb9.mono hB8.size)
  have hs9 := Nat.le_trans hs8 hb9.size
  clear hB8 hb9 HC8
  go_wp2_with fail
  refine (Calm.read_none HC9.out ⟨#[97]⟩ (by unfold M6; rw [if_neg (by decide), if_neg (by decide)]) (by decide)).mono ?_
  rintro e w10 ⟨rfl, hb10⟩
  have HC10 : Hid _ := Calm.below HC9.out hb10
  have hB10 : Below w.heap.size w w10 := hB9.trans (hb10.mono hB9.size)
  have hs10 := Nat.le_trans hs9 hb10.size
  clear hB9 hb10 HC9
  go_wp2_with fail
  refine (show Calls _ _ _ _ _ from (Calm.crash HC10.out none 0 [] (.inl rfl) (by decide) (by decide) (fun x f hf => ?_))).mono ?_
  · have h1 := HBd.out
    have h2 := HLn.out
    unfold M6 at hf
    split at hf
    · cases hf; show (s.data.toList ++ l.data.toList).length ≤ _; rw [List.length_append]; omega
    · split at hf <;> cases hf
      show o.data.toList.length ≤ _; omega
  rintro e w11 ⟨b', ks, rfl, hN, HC, hb11⟩
  obtain rfl : ks = [[98], [99]] := hN.unique (names6 s l o)
  have HC11 : Hid _ := Calm.below HC10.out hb11
  have HCk : Hid _ := HC
  have hB11 : Below w.heap.size w w11 := hB10.trans (hb11.mono hB10.size)
  have hs11 := Nat.le_trans hs10 hb11.size
  clear hB10 hb11 HC10 HC hN
  have hadd := fun w : World => run_string_add_sum (P := Try.prog) w s l (by have := HBd.out; omega)
  go_wp2_with fail
  refine (Calm.read_some HCk.out ⟨#[98]⟩ s ⟨s.data.toList, s.data.toList.length⟩ (crash6 s l o) rfl (by decide)).mono ?_
  rintro e w12 ⟨rfl, hb12⟩
  have HC12 : Hid _ := Calm.below HC11.out hb12
  have hB12 : Below w.heap.size w w12 := hB11.trans (hb12.mono hB11.size)
  have hs12 := Nat.le_trans hs11 hb12.size
  clear hB11 hb12 HC11 HCk hadd
  go_wp2_with fail
  refine (Calm.delete HC12.out hs12 ⟨#[98]⟩ (fA s l) (by unfold M6; rw [if_pos rfl]) (by decide) (by decide) (by decide)).mono ?_
  rintro e w13 ⟨rfl, HC, hb13⟩
  have HC13 : Hid _ := HC
  have hB13 : Below w.heap.size w w13 := hB12.trans (hb13.mono hs0)
  clear hB12 hb13 HC12 HC
  go_wp2_with fail
  refine (Calm.list HC13.out (by decide)).mono ?_
  rintro e w14 ⟨g, cap, ks, rfl, hN, hown, hb14⟩
  obtain rfl : ks = [[99]] := hN.unique (names7 s l o)
  have hB14 : Below w.heap.size w w14 := hB13.trans (hb14.mono hB13.size)
  have hg : w14.cell? ⟨g, 0, none⟩ = some (.string ⟨#[99]⟩) := by
    have := hown.cells (g := g) rfl 0 (encStr [99]) rfl
    rw [Go.WideShapes.add_plain] at this
    exact this
  clear hB13 hb14 HC13 hN hown
  go_wp2_with fail
  go_ret
  exact ⟨rfl, hB14⟩
end Go.Proofs.Ythiagcialidfjaa.Vf
