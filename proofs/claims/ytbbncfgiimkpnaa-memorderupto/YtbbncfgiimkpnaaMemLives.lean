/-
  The statements' first line of layer 6: the document's first example stands.
-/
import Derived.Test.YtbbncfgiimkpnaaMemNew
namespace Go.Proofs.Ytbbncfgiimkpnaa.Mm
open Go.RowKit Cm
set_option linter.unusedVariables false

/-- What S owned at w, and whatever comes behind w'. -/
def Cut (S : Nat → Prop) (w w' : World) (k : Nat) : Prop := (S k ∧ k < w.heap.size) ∨ w'.heap.size ≤ k
theorem Cut.new {S : Nat → Prop} {w w' : World} {k : Nat} (h : w'.heap.size ≤ k) : Cut S w w' k := .inr h
theorem Cut.lo {S : Nat → Prop} {w w' : World} {B k : Nat} (hS : ∀ k, S k → B ≤ k) (hB : B ≤ w'.heap.size) (h : Cut S w w' k) : B ≤ k := h.elim (fun e => hS k e.1) (Nat.le_trans hB)
theorem Cut.out {S : Nat → Prop} {w w' : World} {k : Nat} (h1 : w.heap.size ≤ k) (h2 : k < w'.heap.size) : ¬ Cut S w w' k := fun h => h.elim (fun e => by omega) (fun e => by omega)
theorem Cut.not {S : Nat → Prop} {w w' : World} {k : Nat} (h1 : ¬ S k) (h2 : k < w'.heap.size) : ¬ Cut S w w' k := fun h => h.elim (fun e => h1 e.1) (fun e => by omega)
theorem Tab.cutTo {S : Nat → Prop} {w w' : World} {b : Nat} {vs : List En} (h : Tab w S b vs) (hb : Below w.heap.size w w') : Tab w' (Cut S w w') b vs :=
  Tab.mono ((h.mono (T := fun k => S k ∧ k < w.heap.size) fun k e hk => ⟨e, hk⟩).below hb) fun k e _ => .inl e

def ex1 : En := ⟨⟨#[97]⟩, 1, false, ⟨#[120]⟩⟩
def ex2 : En := ⟨⟨#[97]⟩, 3, true, ⟨#[]⟩⟩
def ex3 : En := ⟨⟨#[98]⟩, 2, false, ⟨#[121]⟩⟩
theorem ex_all : addAll [] [ex1, ex2, ex3] = [ex2, ex1, ex3] := by
  simp [addAll, addOne, pre, post, clean, without, ex1, ex2, ex3, En.ahead, lt, List.takeWhile, List.dropWhile, Op.bytesLess, ByteArray.toList_eq]
theorem ex_get : getE [ex2, ex1, ex3] ⟨#[97]⟩ 2 = some ex1 := by simp [getE, ex1, ex2, ex3]
theorem elems3 {w : World} (x y z : En) : ElemsAt enShape (w.alloc (.cells #[.string x.key, .int .i64 x.seq, .bool x.dead, .string x.val, .string y.key, .int .i64 y.seq, .bool y.dead, .string y.val, .string z.key, .int .i64 z.seq, .bool z.dead, .string z.val] 31)) (some ⟨w.heap.size, 0, none⟩) [x, y, z] := by
  refine .inr ⟨w.heap.size, 0, rfl, by simp, fun i hi j u hu => ?_⟩
  rw [Joins.cell_of_block (heap_alloc_new w _)]
  have : i = 0 ∨ i = 1 ∨ i = 2 := by simp at hi; omega
  rcases this with rfl | rfl | rfl <;>
    (match j, hu with
    | 0, hu => exact hu
    | 1, hu => exact hu
    | 2, hu => exact hu
    | 3, hu => exact hu
    | (k + 4), hu => simp [enShape] at hu)

set_option maxRecDepth 100000 in
set_option maxHeartbeats 1000000 in
theorem lives_any (w : World) : Calls Try.prog 7 #[] w fun r w' => r = .returned (.bool true) ∧ Below w.heap.size w w' := by
  have HN : Hid _ := newS (some ⟨w.heap.size, 0, none⟩) 2 [3, 1] (w.alloc (.cells #[.int .i64 3, .int .i64 1] 3)) (.inr ⟨w.heap.size, 0, rfl, by simp, fun j hj => by
    rw [Joins.cell_of_block (heap_alloc_new w _)]
    have : j = 0 ∨ j = 1 := by simp at hj; omega
    rcases this with rfl | rfl <;> rfl⟩) (by simp) (by simp)
  go_enter Try.func7, Try.ntmps7
  go_wp2_with fail
  refine (show Calls _ _ _ _ _ from HN.out).mono ?_
  rintro r w1 ⟨rfl, T1, hb1⟩
  have e0 : (w.alloc (.cells #[.int .i64 3, .int .i64 1] 3)).heap.size = w.heap.size + 1 := by simp
  rw [e0] at T1
  have hs1 := hb1.size
  have hB1 : Below w.heap.size w w1 := ((Below.refl _ _).alloc (Nat.le_refl _) _).trans (hb1.mono (by simp))
  have HT2 : Hid _ := T1.cutTo ((Below.refl _ w1).alloc (Nat.le_refl _) (.cells #[.string ex1.key, .int .i64 ex1.seq, .bool ex1.dead, .string ex1.val, .string ex2.key, .int .i64 ex2.seq, .bool ex2.dead, .string ex2.val, .string ex3.key, .int .i64 ex3.seq, .bool ex3.dead, .string ex3.val] 31))
  have HA : Hid _ := addS (some ⟨w1.heap.size, 0, none⟩) 3 [ex1, ex2, ex3] _ HT2.out (fun k hk => Cut.new hk) (elems3 ex1 ex2 ex3) (fun _ ad e => by cases e; exact Cut.out (Nat.le_refl _) (by simp)) (by unfold AllOk; simp [ex1, ex2, ex3, En.ok]) (by simp) (by decide)
  rw [ex_all] at HA
  have HB1 : Hid _ := hB1
  have hs1' := hB1.size
  clear hb1 T1 hB1 HT2 HN
  rw [e0] at hs1
  have HLo : Hid (∀ k, Cut (fun k => w.heap.size + 1 ≤ k) w1 (w1.alloc (.cells #[.string ex1.key, .int .i64 ex1.seq, .bool ex1.dead, .string ex1.val, .string ex2.key, .int .i64 ex2.seq, .bool ex2.dead, .string ex2.val, .string ex3.key, .int .i64 ex3.seq, .bool ex3.dead, .string ex3.val] 31)) k → w.heap.size ≤ k) := fun k e => Cut.lo (fun k e => by omega) (by simp; omega) e
  generalize Cut (fun k => w.heap.size + 1 ≤ k) w1 (w1.alloc (.cells #[.string ex1.key, .int .i64 ex1.seq, .bool ex1.dead, .string ex1.val, .string ex2.key, .int .i64 ex2.seq, .bool ex2.dead, .string ex2.val, .string ex3.key, .int .i64 ex3.seq, .bool ex3.dead, .string ex3.val] 31)) = S at *
  have HC : Hid (∀ w2, Chg S (w1.alloc (.cells #[.string ex1.key, .int .i64 ex1.seq, .bool ex1.dead, .string ex1.val, .string ex2.key, .int .i64 ex2.seq, .bool ex2.dead, .string ex2.val, .string ex3.key, .int .i64 ex3.seq, .bool ex3.dead, .string ex3.val] 31)) w2 → Below w.heap.size w w2) := fun w2 h => (HB1.out.alloc hs1' _).trans (h.below (fun k e => HLo.out k e) (by simp; omega))
  unfold ex1 ex2 ex3 at HA HC
  clear e0 HB1 HLo
  go_wp2_with fail
  refine (show Calls _ _ _ _ _ from HA.out).mono ?_
  rintro r w3 ⟨rfl, T3, hc3⟩
  have HB3 : Hid (Below w.heap.size w w3) := HC.out w3 hc3
  have HT3 : Hid (Tab w3 S (w.heap.size + 1 + 1) [ex2, ex1, ex3]) := T3
  clear T3 hc3 HA HC
  have HG : Hid _ := getS ⟨#[97]⟩ 2 w3 HT3.out
  rw [ex_get] at HG
  unfold foundV env at HG
  simp only [Option.getD_some, Option.isSome_some, ex1] at HG
  go_wp2_with fail
  refine (show Calls _ _ _ _ _ from HG.out).mono ?_
  rintro r w4 ⟨rfl, hb4⟩
  have hs3 := HB3.out.size
  have HT4 : Hid (∀ o, Tab (w4.alloc o) S (w.heap.size + 1 + 1) [ex2, ex1, ex3]) := fun o => (HT3.out.below hb4).below ((Below.refl _ _).alloc (Nat.le_refl _) _)
  have HB4 : Hid (∀ o, Below w.heap.size w (w4.alloc o)) := fun o => (HB3.out.trans (hb4.mono hs3)).alloc (Nat.le_trans hs3 hb4.size) o
  clear hb4 HG HT3 HB3
  go_wp2_with fail
  refine (len_any (w.heap.size + 1 + 1) 3 _ (HT4.out _).cells.1).mono ?_
  rintro r w5 ⟨rfl, rfl⟩
  go_wp2_with fail
  refine (bytes_any (w.heap.size + 1 + 1) 5 _ (HT4.out _).cells.2.1).mono ?_
  rintro r w6 ⟨rfl, rfl⟩
  go_wp2
  go_ret
  exact ⟨rfl, HB4.out _⟩
end Go.Proofs.Ytbbncfgiimkpnaa.Mm
