/-
  What the statement WalMends asks of a log: an append whose answer isn't looked at; one fate armed.
-/
import Derived.Test.YtpiaegkeclmpgaaWalLastsMath
namespace Go.Proofs.Ytpiaegkeclmpgaa.Wl
open Go.RowKit Cm Vf
set_option linter.unusedVariables false

section
variable {w w' : World} {S : Nat → Prop} {b lb n a : Nat} {ys xs : List ByteArray}
theorem Armed.small (h : Armed w S b LN ys a) : Wl.small ys := by
  obtain ⟨s, f, _, h2⟩ := h
  exact h2.small
theorem Held.asked (h : Held w S b LN ys [] a) (hS : ∀ k, w.heap.size ≤ k → S k) (hL : LogAt w lb n b LN false) (hlb : ¬ S lb) (ao : Option Addr) (cap : Nat) (hc : CellsAt w ao (strVals xs))
    (hb : bulk xs ≤ 35184372088800) (hy : bulk ys ≤ 35184372088800) (ha : a ≤ 1000000000000) (hn : n ≤ 1000000000000) :
    Calls Try.prog 10 #[.pointer (some ⟨lb, 0, none⟩), .slice ao xs.length cap] w fun e w' => (∃ E : Int, e = .returned (.int .i64 E)) ∧ (∃ ys' a' n', bulk ys' ≤ bulk ys + bulk xs ∧ a' ≤ a + 2 ∧ n' ≤ n + xs.length ∧ Held w' S b LN ys' [] a' ∧ LogAt w' lb n' b LN false) ∧ Chg (fun k => S k ∨ k = lb) w w' := by
  by_cases hsm : Wl.small xs
  · cases xs with
    | nil =>
      refine (h.empty hL ao cap).mono ?_
      rintro e w' ⟨rfl, hb⟩
      exact ⟨⟨_, rfl⟩, ⟨ys, a, n, by omega, by omega, by omega, h.below hb, hL.below hb⟩, Chg.of_below hb⟩
    | cons y r =>
      refine (h.append hS hL hlb isLN ao cap hc hb hy hsm (by simp) (by omega) (by omega)).mono ?_
      rintro e w' ⟨rfl, r1, r2, r3⟩
      exact ⟨⟨_, rfl⟩, ⟨_, _, _, by rw [bulk_append]; omega, Nat.le_refl _, Nat.le_refl _, r1, r2⟩, r3⟩
  · refine (h.long hL ao cap hc hb hsm).mono ?_
    rintro e w' ⟨rfl, hb⟩
    exact ⟨⟨_, rfl⟩, ⟨ys, a, n, by omega, by omega, by omega, h.below hb, hL.below hb⟩, Chg.of_below hb⟩
theorem Held.arm1 (h : Held w S b LN ys [] a) (hS : ∀ k, w.heap.size ≤ k → S k) (n k : Int) (hn : -9223372036854775808 ≤ n ∧ n ≤ 9223372036854775807) :
    Calls Try.prog 14 #[.pointer (some ⟨b, 0, none⟩), .slice (some ⟨w.heap.size, 0, none⟩) 1 1] (w.alloc (.cells #[.int .i64 n, .int .i64 k] 52)) fun e w' => e = .returned (.tuple #[]) ∧ Armed w' S b LN ys a ∧ Chg S w w' := by
  obtain ⟨s, f, h1, h2, _⟩ := h
  refine (arm1S S b s n k w h1 hS hn).mono ?_
  rintro e w' ⟨rfl, r1, r2⟩
  exact ⟨rfl, ⟨_, f, r1, ⟨⟨h2.up.down, h2.up.files, h2.up.acts, Nat.le_refl _, h2.up.cnt⟩, h2.bytes, h2.whole, h2.small, h2.rest⟩⟩, r2⟩
theorem Ans.cut {e : Ending} (h : Ans w' S b ys xs a e) (hs : Wl.small ys) (ha : a ≤ 100000000000) : (∃ E : Int, e = .returned (.int .i64 E)) ∧ ∃ ys' cs, Cutoff w' S b LN ys' cs ∧ Wl.small ys' ∧ Wl.small cs ∧ bulk ys' + bulk cs ≤ bulk ys + bulk xs := by
  rcases h with ⟨e1, h1, a', ha', h2⟩ | ⟨e1, a', ha', h2⟩ | ⟨e1, a', ha', h2⟩ | ⟨e1, h1, h2⟩
  · exact ⟨⟨_, e1⟩, _, [], h2.cutoff (by omega), h2.small, small_nil, by rw [bulk_append, bulk_nil]; omega⟩
  · exact ⟨⟨_, e1⟩, _, [], h2.cutoff (by omega), hs, small_nil, by rw [bulk_nil]; omega⟩
  · exact ⟨⟨_, e1⟩, _, [], h2.cutoff (by omega), hs, small_nil, by rw [bulk_nil]; omega⟩
  · exact ⟨⟨_, e1⟩, _, _, h2, hs, h1, Nat.le_refl _⟩
end
end Go.Proofs.Ytpiaegkeclmpgaa.Wl
