/-
  A row of versions that is put in order in its own memory: its cells, a version stored, two that change places, and a range of them.
-/
import Derived.Test.YtdaibmafnamfgaaMergeSortMath
import Derived.Test.YtdaibmafnamfgaaEnHeap
import Derived.BigRegion
namespace Go.Proofs.Ytdaibmafnamfgaa.Mg
open Go.RowKit Cm Mm
set_option linter.unusedVariables false

theorem vals4 (x : En) (xs : List En) : enShape.vals (x :: xs) = .string x.key :: .int .i64 x.seq :: .bool x.dead :: .string x.val :: enShape.vals xs := by
  rw [Shape.vals_cons]; rfl
theorem vals_set (x : En) : ∀ (xs : List En) (i : Nat), i < xs.length → enShape.vals (xs.set i x) = ((((enShape.vals xs).set (i * 4) (.string x.key)).set (i * 4 + 1) (.int .i64 x.seq)).set (i * 4 + 2) (.bool x.dead)).set (i * 4 + 3) (.string x.val)
  | [], i, h => by simp at h
  | y :: xs, 0, h => by rw [List.set_cons_zero, vals4, vals4]; rfl
  | y :: xs, i + 1, h => by
    rw [List.set_cons_succ, vals4, vals4, vals_set x xs i (by simpa using h), show (i + 1) * 4 = i * 4 + 4 by omega]
    rfl
def set4 (w : World) (g i : Nat) (x : En) : World := (((w.setCell ⟨g, i * 4, none⟩ (.string x.key)).setCell ⟨g, i * 4 + 1, none⟩ (.int .i64 x.seq)).setCell ⟨g, i * 4 + 2, none⟩ (.bool x.dead)).setCell ⟨g, i * 4 + 3, none⟩ (.string x.val)
theorem grown_trans {a b c : World} {r : Option Nat} (h1 : a.grownBy b r) (h2 : b.grownBy c r) : a.grownBy c r :=
  ⟨h2.os.trans h1.os, h2.tape.trans h1.tape, h2.output.trans h1.output, Nat.le_trans h1.size h2.size, fun k hk hr => (h2.block k (Nat.lt_of_lt_of_le hk h1.size) hr).trans (h1.block k hk hr)⟩
theorem grown_below {a b : World} {r : Option Nat} (h : Below a.heap.size a b) : a.grownBy b r := ⟨h.os, h.tape, h.output, h.size, fun k hk _ => h.block k hk⟩
/-- A row of n versions in block g; all that lay in w0 but g lies as it did. -/
structure RowE (B g n cap : Nat) (w0 : World) (xs : List En) (w : World) : Prop where
  own : w.ownsRow B 28 4 (.slice (some ⟨g, 0, none⟩) n cap) n (enShape.vals xs)
  len : xs.length = n
  grown : w0.grownBy w (some g)
section
variable {B g n cap : Nat} {w0 w w' : World} {xs : List En}
theorem RowE.later (h : RowE B g n cap w0 xs w) (hb : Below w.heap.size w w') : RowE B g n cap w0 xs w' := by
  refine ⟨rows_keep h.own fun j e => hb.block j ?_, h.len, grown_trans h.grown (grown_below hb)⟩
  rcases h.own.2 with ⟨e1, _⟩ | ⟨g', cap', cur, e1, _, hg, _⟩
  · cases e1
  · cases e1
    simp [Value.ownBlock] at e
    subst e
    exact (Array.getElem?_eq_some_iff.1 hg).1
theorem RowE.drew (h : RowE B g n cap w0 xs w) : RowE B g n cap w0 xs w.drew := h.later (Below.refl _ _).drew
theorem RowE.drewN (h : RowE B g n cap w0 xs w) (q : Nat) : RowE B g n cap w0 xs (w.drewN q) := h.later ⟨rfl, rfl, rfl, Nat.le_refl _, fun _ _ => rfl⟩
theorem RowE.put (h : RowE B g n cap w0 xs w) {i : Nat} (hi : i < n) (x : En) : RowE B g n cap w0 (xs.set i x) (set4 w g i x) := by
  obtain ⟨h1, g1⟩ := h.own.stored (i * 4) (.string x.key)
  obtain ⟨h2, g2⟩ := h1.stored (i * 4 + 1) (.int .i64 x.seq)
  obtain ⟨h3, g3⟩ := h2.stored (i * 4 + 2) (.bool x.dead)
  obtain ⟨h4, g4⟩ := h3.stored (i * 4 + 3) (.string x.val)
  rw [← vals_set x xs i (by rw [h.len]; exact hi)] at h4
  exact ⟨h4, by rw [List.length_set, h.len], grown_trans h.grown (grown_trans g1 (grown_trans g2 (grown_trans g3 g4)))⟩
theorem RowE.elems (h : RowE B g n cap w0 xs w) : ElemsAt enShape w (some ⟨g, 0, none⟩) xs := by
  have := h.len
  subst this
  obtain ⟨ao, c, e, _, _, _, he⟩ := own_rows (F := enShape) h.own
  cases e; exact he
theorem RowE.cells (h : RowE B g n cap w0 xs w) {k : Nat} (hk : k < n) : w.cell? ⟨g, k * 4, none⟩ = some (.string (xs.getD k En.zero).key) ∧ w.cell? ⟨g, k * 4 + 1, none⟩ = some (.int .i64 (xs.getD k En.zero).seq) ∧
    w.cell? ⟨g, k * 4 + 2, none⟩ = some (.bool (xs.getD k En.zero).dead) ∧ w.cell? ⟨g, k * 4 + 3, none⟩ = some (.string (xs.getD k En.zero).val) := by
  obtain ⟨pb, off, e, h0, h1, h2, h3⟩ := elem_cells h.elems (k := k) (by rw [h.len]; exact hk)
  cases e
  simp only [Nat.zero_add] at h0 h1 h2 h3
  exact ⟨h0, h1, h2, h3⟩
theorem RowE.frozen (h : RowE B g n cap w0 xs w) (j : Nat) : w.frozen? ⟨g, j, none⟩ = false := h.own.frozenAt j
theorem RowE.swap (h : RowE B g n cap w0 xs w) {i j : Nat} (hi : i < n) (hj : j < n) : RowE B g n cap w0 (swp xs i j) (set4 (set4 w g i (xs.getD j En.zero)) g j (xs.getD i En.zero)) :=
  (h.put hi _).put hj _
theorem getD_set_ne {xs : List En} {i j : Nat} {x : En} (h : i ≠ j) : (xs.set i x).getD j En.zero = xs.getD j En.zero := by
  rw [List.getD_eq_getElem?_getD, List.getD_eq_getElem?_getD, List.getElem?_set_ne h]
/-- The cells that the second of two stores finds. -/
theorem RowE.other (h : RowE B g n cap w0 xs w) {i j : Nat} (hi : i < n) (hj : j < n) (hne : i ≠ j) (x : En) : (set4 w g i x).cell? ⟨g, j * 4, none⟩ = some (.string (xs.getD j En.zero).key) ∧ (set4 w g i x).cell? ⟨g, j * 4 + 1, none⟩ = some (.int .i64 (xs.getD j En.zero).seq) ∧
    (set4 w g i x).cell? ⟨g, j * 4 + 2, none⟩ = some (.bool (xs.getD j En.zero).dead) ∧ (set4 w g i x).cell? ⟨g, j * 4 + 3, none⟩ = some (.string (xs.getD j En.zero).val) := by
  have := (h.put hi x).cells hj
  rw [getD_set_ne hne] at this
  exact this
end
set_option maxRecDepth 100000 in
set_option maxHeartbeats 1000000 in
theorem swapRange_any {B g n cap : Nat} {w0 w : World} {xs : List En} (h : RowE B g n cap w0 xs w) (a b t : Nat) (hab : a + t ≤ b) (hb : b + t ≤ n) (hn : n ≤ 1000000000000) (fv : Value) :
    Calls Try.prog 77 #[.slice (some ⟨g, 0, none⟩) n cap, .int .i64 a, .int .i64 b, .int .i64 t, fv] w fun e w' => e = .returned (.tuple #[]) ∧ RowE B g n cap w0 (swaps xs a b t) w' := by
  have HR : Hid _ := h
  clear h
  go_enter Try.func77, Try.ntmps77
  go_wp2
  go_loopw [10] (fun i wr => ∃ k : Nat, k ≤ t ∧ i = .int .i64 k ∧ Hid (RowE B g n cap w0 (swaps xs a b k) wr)) (fun i _ => t - (intOf i).toNat)
  case atStart => exact ⟨0, by omega, rfl, HR⟩
  case round =>
    clear HR
    obtain ⟨k, hk, rfl, HR⟩ := hrel
    by_cases hlt : k < t
    · have hr := HR.out
      have HN : Hid _ := (hr.swap (i := a + k) (j := b + k) (by omega) (by omega)).drew
      obtain ⟨c0, c1, c2, c3⟩ := hr.cells (k := a + k) (by omega)
      obtain ⟨d0, d1, d2, d3⟩ := hr.cells (k := b + k) (by omega)
      obtain ⟨f0, f1, f2, f3⟩ := hr.other (i := a + k) (j := b + k) (by omega) (by omega) (by omega) ((swaps xs a b k).getD (b + k) En.zero)
      have hfz := hr.frozen
      have ha1 : IntKind.i64.wrap ((a : Int) + (k : Int)) = ((a + k : Nat) : Int) := wrap_nat (by omega) (by omega)
      have hb1 : IntKind.i64.wrap ((b : Int) + (k : Int)) = ((b + k : Nat) : Int) := wrap_nat (by omega) (by omega)
      have ha2 : ((a + k : Nat) : Int) < (n : Int) := by omega
      have hb2 : ((b + k : Nat) : Int) < (n : Int) := by omega
      unfold set4 at f0 f1 f2 f3 HN
      clear hr HR
      generalize (swaps xs a b k).getD (a + k) En.zero = x at *
      generalize (swaps xs a b k).getD (b + k) En.zero = y at *
      have HS : Hid (swp (swaps xs a b k) (a + k) (b + k) = swaps xs a b (k + 1)) := rfl
      generalize hA : a + k = A at *
      generalize hB : b + k = C at *
      go_wp2_with fail
      go_region
      go_wp2
      go_roundw
      case rel =>
        clear c0 c1 c2 c3 d0 d1 d2 d3 f0 f1 f2 f3
        refine ⟨k + 1, by omega, by go_num, ?_⟩
        rw [← HS.out]
        with_reducible exact HN
      case measure => simp [intOf]; omega
    · obtain rfl : k = t := by omega
      go_wp2
      go_end0
      exact ⟨rfl, HR.out⟩
end Go.Proofs.Ytdaibmafnamfgaa.Mg
