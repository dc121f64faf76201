/-
  Package merge: Merge.
-/
import Derived.Test.YtdaibmafnamfgaaMergeStable
import Derived.Test.YtdaibmafnamfgaaMergeCompact
import Derived.Test.YtdaibmafnamfgaaMergeConcat
namespace Go.Proofs.Ytdaibmafnamfgaa.Mg
open Go.RowKit Cm Mm
set_option linter.unusedVariables false

theorem insertion_nil (fv : Value) (w : World) : Calls Try.prog 57 #[.slice none 0 0, .int .i64 0, .int .i64 0, fv] w fun e w' => e = .returned (.tuple #[]) ∧ w' = w := by
  go_enter Try.func57, Try.ntmps57
  go_wp2
  refine wp_loop_rounds 1 ?_
  rw [rounds_succ]
  go_wp2
  go_end0
  exact ⟨rfl, rfl⟩
theorem stable_nil (fv : Value) (w : World) : Calls Try.prog 46 #[.slice none 0 0, .int .i64 0, fv] w fun e w' => e = .returned (.tuple #[]) ∧ w' = w := by
  go_enter Try.func46, Try.ntmps46
  go_wp2
  refine wp_loop_rounds 1 ?_
  rw [rounds_succ]
  go_wp2_with (go_at_call 57; refine (insertion_nil _ _).mono ?_; rintro e w1 ⟨rfl, rfl⟩)
  refine wp_loop_rounds 1 ?_
  rw [rounds_succ]
  go_wp2
  go_end0
  exact ⟨rfl, rfl⟩
theorem sortStable_nil (fv : Value) (w : World) : Calls Try.prog 22 #[.slice none 0 0, fv] w fun e w' => e = .returned (.tuple #[]) ∧ w' = w := by
  go_enter Try.func22, Try.ntmps22
  go_wp2_with (go_at_call 46; refine (stable_nil _ _).mono ?_; rintro e w1 ⟨rfl, rfl⟩)
  go_end0
  exact ⟨rfl, rfl⟩
theorem compact_nil (fv : Value) (w : World) : Calls Try.prog 27 #[.slice none 0 0, fv] w fun e w' => e = .returned (.slice none 0 0) ∧ w' = w := by
  go_enter Try.func27, Try.ntmps27
  go_wp2
  go_ret
  exact ⟨rfl, rfl⟩
/-- A slice of one's own (or none) with these versions. -/
def OwnE (w : World) (B : Nat) (v : Value) (L : List En) : Prop := w.ownsRow B 28 4 v L.length (enShape.vals L)
def MAns (w : World) (L : List En) (e : Ending) (w' : World) : Prop := ∃ v, e = .returned v ∧ OwnE w' w.heap.size v L ∧ Below w.heap.size w w'
theorem RowE.start {w : World} {B g cap : Nat} {L : List En} (h : w.ownsRow B 28 4 (.slice (some ⟨g, 0, none⟩) L.length cap) L.length (enShape.vals L)) : RowE B g L.length cap w L w := ⟨h, rfl, ⟨rfl, rfl, rfl, Nat.le_refl _, fun _ _ _ => rfl⟩⟩
theorem RowE.done {w w1 w' : World} {g n cap : Nat} {L : List En} (h : RowE w.heap.size g n cap w1 L w') (hb : Below w.heap.size w w1) : OwnE w' w.heap.size (.slice (some ⟨g, 0, none⟩) n cap) L ∧ Below w.heap.size w w' := by
  have hl := h.len
  subst hl
  refine ⟨h.own, hb.grown h.grown hb.size fun k hk => ?_⟩
  cases hk
  rcases h.own.2 with ⟨e1, _⟩ | ⟨g', cap', cur, e1, hB, _⟩
  · cases e1
  · cases e1; exact hB
set_option maxRecDepth 100000 in
theorem merge_any (ao : Option Addr) (mc : Nat) (ls : List (List En)) (w : World) (h : Lists w ao ls) (hm : ls.length ≤ 1000) (hl : ls.flatten.length ≤ 1000000000000) :
    Calls Try.prog 10 #[.slice ao ls.length mc] w (MAns w (merged ls.flatten)) := by
  have HC : Hid _ := concat_any ao mc ls w h hm hl
  generalize ls.length = m at *
  generalize ls.flatten = all at *
  have HL : Hid (all.length ≤ 1000000000000) := hl
  clear h hm hl
  go_enter Try.func10, Try.ntmps10
  go_wp2_with fail
  refine (show Calls _ _ _ _ _ from HC.out).mono ?_
  rintro e w1 ⟨v, rfl, ho, hb1⟩
  have HB : Hid _ := hb1
  clear hb1 HC
  rcases ho.2 with ⟨rfl, hn⟩ | ⟨g, cap, cur, rfl, _⟩
  · have HN : Hid (all = []) := List.length_eq_zero_iff.1 hn
    clear ho hn
    go_wp2_with (first
      | (go_at_call 22; refine (sortStable_nil _ _).mono ?_; rintro e w2 ⟨rfl, rfl⟩)
      | (go_at_call 27; refine (compact_nil _ _).mono ?_; rintro e w2 ⟨rfl, rfl⟩))
    go_ret
    rw [HN.out]
    exact ⟨_, rfl, World.ownsRow_nil _ _ _ _, HB.out⟩
  · have HS : Hid _ := sortStable_any (RowE.start ho) HL.out
    have HLn : Hid (∃ n, n = all.length) := ⟨_, rfl⟩
    obtain ⟨n, hn⟩ := HLn.out
    have HN : Hid _ := hn
    rw [← hn] at HS ⊢
    clear ho hn
    go_wp2_with fail
    refine (show Calls _ _ _ _ _ from HS.out).mono ?_
    rintro e w2 ⟨rfl, hS⟩
    obtain ⟨xs, hw, hst, hr⟩ := hS
    have HK : Hid _ := compact_any hr (by have := HL.out; have := HN.out; omega)
    have HM : Hid (thin xs n = merged all) := by
      have := thin_merged hw hst.2.symm
      rw [hr.len] at this; exact this
    clear hw hst hr HS
    go_wp2_with fail
    refine (show Calls _ _ _ _ _ from HK.out).mono ?_
    rintro e w3 ⟨k, rfl, hr⟩
    rw [HM.out] at hr
    have HD : Hid _ := hr.done HB.out
    clear hr HK
    go_wp2
    go_ret
    exact ⟨_, rfl, HD.out.1, HD.out.2⟩
end Go.Proofs.Ytdaibmafnamfgaa.Mg
