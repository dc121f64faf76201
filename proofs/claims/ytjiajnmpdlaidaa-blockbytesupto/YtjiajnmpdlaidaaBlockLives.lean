/-
  The statements' first test ('lives', the chapter's own first row): it answers true, and nothing that was there has turned.
-/
import Derived.Test.YtjiajnmpdlaidaaBlockEncode
namespace Go.Proofs.Ytjiajnmpdlaidaa.Bk
open Go.RowKit Cm Mm
open Pk (WrAt RdAt Step enc enc_len fold text)
set_option linter.unusedVariables false

/-- Versions in a block of their own. -/
theorem elems_block {w : World} {g : Nat} {xs : List En} {t : TypeId} (h : w.heap[g]? = some (.cells (enShape.vals xs).toArray t (0, 0))) : ElemsAt enShape w (some ⟨g, 0, none⟩) xs := by
  refine .inr ⟨g, 0, rfl, lt_of_block h, fun i hi j u hu => ?_⟩
  have hj : j < enShape.sz := by rw [← enShape.len xs[i]]; exact (List.getElem?_eq_some_iff.1 hu).1
  rw [Nat.zero_add, Joins.cell_of_block h]
  have := enShape.vals_get xs i hi j hj
  rw [hu] at this
  simpa using this
def e1 : En := ⟨⟨#[97, 98]⟩, 3, false, ⟨#[120]⟩⟩
def e2 : En := ⟨⟨#[97, 99]⟩, 1, true, ⟨#[]⟩⟩
theorem ex_right : right [e1, e2] = true := by
  rw [right_iff]
  have h1 : lt e1.key e2.key = true := (lt_bs _ _).2 (by decide +kernel)
  have hne : e1.key ≠ e2.key := fun h => by rw [h, lt_irrefl] at h1; cases h1
  intro i hi
  match i, hi with
  | 0, _ => exact ⟨rfl, fun h => by omega⟩
  | 1, _ => exact ⟨rfl, fun _ => by show less e1 e2 = true; unfold less En.ahead; rw [if_neg hne]; exact h1⟩
theorem ex_block : block [e1, e2] = [2, 0, 2, 97, 98, 6, 0, 1, 120, 1, 1, 99, 2, 1] := by decide +kernel
theorem ex_share : share (bs ⟨#[97, 98, 99]⟩) (bs ⟨#[97, 98, 100]⟩) = 2 := by decide +kernel
theorem ex_enc : encV [e1, e2] = .tuple #[.string ⟨#[2, 0, 2, 97, 98, 6, 0, 1, 120, 1, 1, 99, 2, 1]⟩, .int .i64 0] := by
  unfold encV
  rw [if_pos ex_right, ex_block]
theorem ex_sized : Sized [e1, e2] := by
  refine ⟨by decide, by rw [ex_block]; decide, fun k => ?_⟩
  match k with
  | 0 => exact ⟨by decide, by decide⟩
  | 1 => exact ⟨by decide, by decide⟩
  | (k + 2) => exact ⟨by simp [En.zero]; decide, by simp [En.zero]; decide⟩
set_option maxRecDepth 100000 in
set_option maxHeartbeats 2000000 in
theorem lives_any (w : World) : Calls Try.prog 6 #[] w fun e w' => e = .returned (.bool true) ∧ Below w.heap.size w w' := by
  have HE : Hid (Calls Try.prog 7 #[.slice (some ⟨w.heap.size, 0, none⟩) 2 2] (w.alloc (.cells #[.string ⟨#[97, 98]⟩, .int .i64 3, .bool false, .string ⟨#[120]⟩, .string ⟨#[97, 99]⟩, .int .i64 1, .bool true, .string ⟨#[]⟩] 25)) fun e w' => e = .returned (.tuple #[.string ⟨#[2, 0, 2, 97, 98, 6, 0, 1, 120, 1, 1, 99, 2, 1]⟩, .int .i64 0]) ∧ Below w.heap.size w w') := by
    have h1 : (w.alloc (.cells #[.string ⟨#[97, 98]⟩, .int .i64 3, .bool false, .string ⟨#[120]⟩, .string ⟨#[97, 99]⟩, .int .i64 1, .bool true, .string ⟨#[]⟩] 25)).heap[w.heap.size]? = some (.cells (enShape.vals [e1, e2]).toArray 25 (0, 0)) := heap_alloc_new w _
    refine (encode_any (some ⟨w.heap.size, 0, none⟩) 2 [e1, e2] _ (elems_block h1) (fun e he => ?_) ex_sized).mono fun e w' ⟨q1, q2⟩ => ⟨by rw [q1, ex_enc], ((Below.refl _ _).alloc (Nat.le_refl _) _).trans (q2.mono (by simp))⟩
    simp at he
    rcases he with rfl | rfl <;> exact ⟨by decide, by decide⟩
  have HS : Hid (∀ X : World, Calls Try.prog 12 #[.string ⟨#[97, 98, 99]⟩, .string ⟨#[97, 98, 100]⟩] X fun e w' => e = .returned (.int .i64 2) ∧ ∃ n, w' = X.drewN n) := fun X => by
    have := shared_any ⟨#[97, 98, 99]⟩ ⟨#[97, 98, 100]⟩ X (by decide) (by decide)
    rw [ex_share] at this
    exact this
  go_enter Try.func6, Try.ntmps6
  go_wp2_with fail
  refine (show Calls _ _ _ _ _ from HE.out).mono ?_
  rintro e w1 ⟨rfl, hb1⟩
  have HB : Hid _ := hb1
  clear hb1 HE
  go_wp2_with fail
  refine (show Calls _ _ _ _ _ from HS.out _).mono ?_
  rintro e w2 ⟨rfl, n, rfl⟩
  go_wp2
  go_ret
  exact ⟨rfl, ⟨HB.out.os, HB.out.tape, HB.out.output, HB.out.size, HB.out.block⟩⟩
end Go.Proofs.Ytjiajnmpdlaidaa.Bk
