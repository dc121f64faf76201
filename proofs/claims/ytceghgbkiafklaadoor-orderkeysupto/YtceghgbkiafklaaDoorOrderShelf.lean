/-
  The library's ReplaceAll, Cut and Compare as layer 3 calls them, by their contracts of the shelf.
-/
import Derived.Test.YtceghgbkiafklaaDoorCmShelf
import Derived.Test.YtceghgbkiafklaaDoorOrderMath
import Derived.Shelf.Strings.SplitShaped
import Derived.Shelf.Strings.Shaped
import Derived.Shelf.Small.Strs
import Derived.WalkKit
namespace Go.Proofs
theorem Tryd.extra155 : Builder.Extra Tryd.prog Tryd.laysM155_ren := {
  sizeBuilder := by kernel_rfl
  liesBuilder := by kernel_rfl
  t5 := Tryd.laysM155.t5
  a5 := Tryd.laysM155.a5
  z5 := Tryd.laysM155.z5
  v5 := Tryd.laysM155.v5
  infoByte := by kernel_rfl
  cellsByte := by kernel_rfl
  sizeByte := by kernel_rfl
  neB5 := by decide }
end Go.Proofs
namespace Go.Proofs.YtceghgbkiafklaaDoor.Od
open Go.RowKit
open Go.Lib (index count countFrom replaceK compareBytes)
set_option linter.unusedVariables false

theorem esc_plain {p : List UInt8} (h : (0 : UInt8) ∉ p) : esc p = p := by
  induction p with
  | nil => rfl
  | cons x p ih =>
    simp only [List.mem_cons, not_or] at h
    simp only [esc]
    rw [if_neg (fun e => h.1 e.symm), ih h.2]
theorem zero_form (l : List UInt8) : (0 : UInt8) ∉ l ∨ ∃ p r, l = p ++ 0 :: r ∧ (0 : UInt8) ∉ p := by
  induction l with
  | nil => left; simp
  | cons x l ih =>
    by_cases hx : x = 0
    · exact .inr ⟨[], l, by simp [hx], by simp⟩
    · have hx' : ¬ (0 : UInt8) = x := fun e => hx e.symm
      rcases ih with h | ⟨p, r, rfl, h⟩
      · left; simp [h, hx']
      · exact .inr ⟨x :: p, r, rfl, by simp [h, hx']⟩
theorem index_none {l : List UInt8} (h : (0 : UInt8) ∉ l) : index l [0] = -1 := by
  induction l with
  | nil => rfl
  | cons x l ih =>
    simp only [List.mem_cons, not_or] at h
    have : ¬ ([0].isPrefixOf (x :: l) = true) := by simpa [List.isPrefixOf] using h.1
    rw [index, if_neg this, ih h.2]
    rfl
theorem index_some {p r : List UInt8} (h : (0 : UInt8) ∉ p) : index (p ++ 0 :: r) [0] = p.length := by
  induction p with
  | nil => simp [index, List.isPrefixOf]
  | cons x p ih =>
    simp only [List.mem_cons, not_or] at h
    have : ¬ ([0].isPrefixOf (x :: (p ++ 0 :: r)) = true) := by simpa [List.isPrefixOf] using h.1
    rw [List.cons_append, index, if_neg this, ih h.2, if_neg (by simp)]
    simp
theorem countFrom_eq (fuel : Nat) (l : List UInt8) (h : l.length < fuel) : countFrom [0] fuel l = l.count 0 := by
  induction fuel generalizing l with
  | zero => omega
  | succ fuel ih =>
    rcases zero_form l with h0 | ⟨p, r, rfl, h0⟩
    · rw [countFrom, index_none h0, if_pos (by decide), List.count_eq_zero.2 h0]
    · simp only [List.length_append, List.length_cons] at h
      rw [countFrom, index_some h0, if_neg (by simp)]
      have e : (p ++ 0 :: r).drop (((p.length : Int)).toNat + [(0 : UInt8)].length) = r := by
        rw [show ((p.length : Int)).toNat + [(0 : UInt8)].length = p.length + 1 by simp, List.drop_append]
        simp
      rw [e, ih r (by omega), List.count_append, List.count_eq_zero.2 h0, List.count_cons]
      simp; omega
theorem count_eq (l : List UInt8) : count l [0] = l.count 0 := countFrom_eq _ _ (by omega)
theorem replaceK_eq (n : Nat) (l : List UInt8) (h : l.length ≤ n) : replaceK [0] [0, 255] (l.count 0) l = esc l := by
  induction n generalizing l with
  | zero =>
    have : l = [] := List.eq_nil_of_length_eq_zero (by omega)
    subst this; rfl
  | succ n ih =>
    rcases zero_form l with h0 | ⟨p, r, rfl, h0⟩
    · rw [List.count_eq_zero.2 h0, replaceK, esc_plain h0]
    · simp only [List.length_append, List.length_cons] at h
      have hc : (p ++ 0 :: r).count 0 = r.count 0 + 1 := by
        rw [List.count_append, List.count_eq_zero.2 h0, List.count_cons]; simp
      rw [hc, Go.Lib.replaceK_hit _ _ _ _ _ (index_some h0)]
      have e : (p ++ 0 :: r).drop (p.length + [(0 : UInt8)].length) = r := by
        rw [show p.length + [(0 : UInt8)].length = p.length + 1 by simp, List.drop_append]
        simp
      have e2 : (p ++ 0 :: r).take p.length = p := by simp
      rw [e, e2, ih r (by omega), esc_append, esc_plain h0]
      simp [esc]
theorem replaceAll_eq (l : List UInt8) : Go.Lib.replaceAll l [0] [0, 255] = esc l := by
  unfold Go.Lib.replaceAll Go.Lib.replace
  rw [if_neg (by decide)]
  unfold Go.Lib.replaceNum
  rw [if_pos (by left; omega), count_eq, replaceK_eq _ l (Nat.le_refl _)]
theorem cut_none {l : List UInt8} (h : (0 : UInt8) ∉ l) : Go.Lib.cut l [0] = (l, [], false) := by
  unfold Go.Lib.cut
  rw [index_none h, if_neg (by omega)]
theorem cut_some {p r : List UInt8} (h : (0 : UInt8) ∉ p) : Go.Lib.cut (p ++ 0 :: r) [0] = (p, r, true) := by
  unfold Go.Lib.cut
  rw [index_some h, if_pos (by omega)]
  have e : (p ++ 0 :: r).drop (((p.length : Int)).toNat + [(0 : UInt8)].length) = r := by
    rw [show ((p.length : Int)).toNat + [(0 : UInt8)].length = p.length + 1 by simp, List.drop_append]
    simp
  rw [e]; simp

/-- The library's own variable, the greatest length that its search looks for at once, holds a number. -/
def MaxOk (w : World) : Prop := ∃ m, w.cell? ⟨0, 0, none⟩ = some (.int .i64 m)
theorem MaxOk.of_shape {w : World} (h : w.ShapedOpen Tryd.prog) : MaxOk w := Tryd.laysM155.s1_3 w h
theorem MaxOk.lt {w : World} (h : MaxOk w) : 0 < w.heap.size := by
  obtain ⟨m, hm⟩ := h
  exact World.block_lt_of_cell? w _ hm
theorem MaxOk.keep {w w' : World} (h : MaxOk w) (hb : w'.heap[0]? = w.heap[0]?) : MaxOk w' := by
  obtain ⟨m, hm⟩ := h
  exact ⟨m, by rw [World.cell?_of_block hb]; exact hm⟩
theorem MaxOk.below {w w' : World} (h : MaxOk w) (hb : Below w.heap.size w w') : MaxOk w' := h.keep (hb.block 0 h.lt)

theorem replaceAll_any (s : ByteArray) (w : World) (hm : MaxOk w) (hs : s.size < 4294967281) :
    Calls Tryd.prog 44 #[.string s, .string ⟨#[0]⟩, .string ⟨#[0, 255]⟩] w fun e w' => e = .returned (.string ⟨(esc s.data.toList).toArray⟩) ∧ Below w.heap.size w w' := by
  obtain ⟨m, hm⟩ := hm
  have hcount : Go.Lib.countB s ⟨#[0]⟩ ≤ s.size := by
    have : Go.Lib.countB s ⟨#[0]⟩ = s.data.toList.count 0 := count_eq s.data.toList
    rw [this, Go.Lib.size_eq]
    exact List.count_le_length
  have c := Any.strings_ReplaceAll { Tryd.laysM155 with } Tryd.extra155 s ⟨#[0]⟩ ⟨#[0, 255]⟩ m w hs hm (by decide) (by
    show s.size + Go.Lib.countB s ⟨#[0]⟩ * 2 ≤ _
    omega)
  rw [show (⟨#[0]⟩ : ByteArray).data.toList = [0] from rfl, show (⟨#[0, 255]⟩ : ByteArray).data.toList = [0, 255] from rfl, replaceAll_eq] at c
  exact c
theorem cut_any (s : ByteArray) (w : World) (hm : MaxOk w) (hs : s.size < 4294967281) :
    Calls Tryd.prog 45 #[.string s, .string ⟨#[0]⟩] w fun e w' => e = .returned (.tuple #[.string ⟨(Go.Lib.cut s.data.toList [0]).1.toArray⟩, .string ⟨(Go.Lib.cut s.data.toList [0]).2.1.toArray⟩, .bool (Go.Lib.cut s.data.toList [0]).2.2]) ∧ ∃ n, w' = w.drewN n := by
  obtain ⟨m, hm⟩ := hm
  exact Any.strings_Cut { Tryd.laysM145 with } s ⟨#[0]⟩ m w hs hm
theorem compare_any (a b : ByteArray) (w : World) :
    Calls Tryd.prog 40 #[.string a, .string b] w fun e w' => e = .returned (.int .i64 (compareBytes a.data.toList b.data.toList)) ∧ w' = w :=
  Any.strings_Compare { Tryd.laysM106 with } a b w
end Go.Proofs.YtceghgbkiafklaaDoor.Od
