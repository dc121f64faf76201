/-
  A writer in memory (layer 1): the block that holds its slice, the row that the slice owns, and what stays as it was when something is put.
-/
import Derived.Test.YtjiajnmpdlaidaaProg
import Derived.Test.YtjiajnmpdlaidaaPackMath
import Derived.WalkKit
import Derived.Deep.AppendLies
import Derived.Deep.AppendSrc
namespace Go.Proofs.Ytjiajnmpdlaidaa.Pk
open Go.RowKit

/-- Everything that was there but block b and row r is as it was. -/
structure Kept (b : Nat) (r : Option Nat) (w w' : World) : Prop where
  os : w'.os = w.os
  tape : w'.tape = w.tape
  output : w'.output = w.output
  size : w.heap.size ≤ w'.heap.size
  block : ∀ k, k < w.heap.size → k ≠ b → some k ≠ r → w'.heap[k]? = w.heap[k]?

theorem Kept.refl (b : Nat) (r : Option Nat) (w : World) : Kept b r w w := ⟨rfl, rfl, rfl, Nat.le_refl _, fun _ _ _ _ => rfl⟩

/-- From row r to row r': the same, or one that is made on the way. -/
structure Step (b : Nat) (w : World) (r : Option Nat) (w' : World) (r' : Option Nat) : Prop where
  kept : Kept b r w w'
  row : r' = r ∨ ∃ g, r' = some g ∧ w.heap.size ≤ g

theorem Step.refl (b : Nat) (r : Option Nat) (w : World) : Step b w r w r := ⟨Kept.refl b r w, .inl rfl⟩
theorem Step.trans {b : Nat} {w w1 w2 : World} {r r1 r2 : Option Nat} (h : Step b w r w1 r1) (k : Step b w1 r1 w2 r2) : Step b w r w2 r2 := by
  have hs := h.kept.size
  refine ⟨⟨k.kept.os.trans h.kept.os, k.kept.tape.trans h.kept.tape, k.kept.output.trans h.kept.output, Nat.le_trans hs k.kept.size, fun i hi hb hr => ?_⟩, ?_⟩
  · refine (k.kept.block i (by omega) hb ?_).trans (h.kept.block i hi hb hr)
    rcases h.row with e | ⟨g, e, hg⟩
    · rw [e]; exact hr
    · rw [e]; intro he; simp at he; omega
  · rcases k.row with e | ⟨g, e, hg⟩
    · rw [e]; exact h.row
    · exact .inr ⟨g, e, by omega⟩
theorem Step.alloc (b : Nat) (r : Option Nat) (w : World) (o : Obj) : Step b w r (w.alloc o) r :=
  ⟨⟨rfl, rfl, rfl, by simp, fun k hk _ _ => Below.heap_alloc _ _ _ hk⟩, .inl rfl⟩
theorem Step.below {b B : Nat} {w w' : World} {r r' : Option Nat} (h : Step b w r w' r') (hB : B ≤ w.heap.size) (hb : B ≤ b) (hr : ∀ k, r = some k → B ≤ k) : Below B w w' :=
  ⟨h.kept.os, h.kept.tape, h.kept.output, h.kept.size, fun k hk => h.kept.block k (by omega) (by omega) (fun e => by have := hr k e.symm; omega)⟩

def B8 (c : UInt8) : Value := .int .u8 c.toNat

/-- Block b is a writer that has put the bytes bs; its slice's row is r. -/
def WrAt (w : World) (base b : Nat) (r : Option Nat) (bs : List UInt8) : Prop :=
  ∃ v, w.heap[b]? = some (.cells #[v] 77 (0, 0)) ∧ w.ownsRow base 5 1 v bs.length (bs.map B8) ∧ v.ownBlock = r

theorem WrAt.row_ge {w : World} {base b : Nat} {r : Option Nat} {bs : List UInt8} (h : WrAt w base b r bs) : ∀ k, r = some k → base ≤ k ∧ k < w.heap.size ∧ k ≠ b := by
  obtain ⟨v, hb, hown, rfl⟩ := h
  intro k hk
  have := hown.lt k hk
  refine ⟨this.1, this.2, ?_⟩
  rintro rfl
  rcases hown.2 with ⟨rfl, _⟩ | ⟨g, cap, cur, rfl, _, hg, _⟩
  · simp [Value.ownBlock] at hk
  · simp [Value.ownBlock] at hk
    subst hk
    rw [hb] at hg
    simp at hg
theorem WrAt.lt {w : World} {base b : Nat} {r : Option Nat} {bs : List UInt8} (h : WrAt w base b r bs) : b < w.heap.size := by
  obtain ⟨v, hb, _⟩ := h
  exact lt_of_block hb

/-- Another writer, or whatever changes other blocks alone, leaves it. -/
theorem WrAt.keep {w w' : World} {base b : Nat} {r : Option Nat} {bs : List UInt8} (h : WrAt w base b r bs) (hb : w'.heap[b]? = w.heap[b]?) (hr : ∀ k, r = some k → w'.heap[k]? = w.heap[k]?) : WrAt w' base b r bs := by
  obtain ⟨v, hv, hown, rfl⟩ := h
  refine ⟨v, hb.trans hv, ⟨hown.1, ?_⟩, rfl⟩
  rcases hown.2 with h | ⟨g, cap, cur, rfl, h1, hg, h2⟩
  · exact .inl h
  · exact .inr ⟨g, cap, cur, rfl, h1, (hr g rfl).trans hg, h2⟩
theorem WrAt.step {w w' : World} {base b c : Nat} {r s s' : Option Nat} {bs : List UInt8} (h : WrAt w base b r bs) (k : Step c w s w' s') (hbc : b ≠ c) (hbs : some b ≠ s) (hrc : r ≠ some c) (hrs : r = none ∨ r ≠ s) : WrAt w' base b r bs := by
  refine h.keep (k.kept.block b h.lt hbc hbs) fun i hi => k.kept.block i (h.row_ge i hi).2.1 (fun e => hrc (by rw [hi, e])) (fun e => ?_)
  rcases hrs with hrs | hrs
  · rw [hrs] at hi; cases hi
  · exact hrs (by rw [hi, e])

/-- What one append to the writer's slice comes to. -/
theorem wr_put {w w0 w1 : World} {base b g cap : Nat} {v : Value} {bs new : List UInt8} {n : Nat}
    (hb : w.heap[b]? = some (.cells #[v] 77 (0, 0))) (hown : w.ownsRow base 5 1 v bs.length (bs.map B8))
    (h0 : Step b w v.ownBlock w0 v.ownBlock) (hb0 : w0.heap[b]? = some (.cells #[v] 77 (0, 0)))
    (hown1 : w1.ownsRow base 5 1 (.slice (some ⟨g, 0, none⟩) n cap) n (bs.map B8 ++ new.map B8)) (hn : n = bs.length + new.length)
    (hgrow : w0.grownBy w1 v.ownBlock) (hat : v.ownBlock = some g ∨ g = w0.heap.size) :
    WrAt (w1.setCell ⟨b, 0, none⟩ (.slice (some ⟨g, 0, none⟩) n cap)) base b (some g) (bs ++ new) ∧
    Step b w v.ownBlock (w1.setCell ⟨b, 0, none⟩ (.slice (some ⟨g, 0, none⟩) n cap)) (some g) := by
  have hw : WrAt w base b v.ownBlock bs := ⟨v, hb, hown, rfl⟩
  have hlt := hw.lt
  have hs0 := h0.kept.size
  have hbr : some b ≠ v.ownBlock := fun e => (hw.row_ge b e.symm).2.2 rfl
  have hb1 : w1.heap[b]? = some (.cells #[v] 77 (0, 0)) := (hgrow.block b (by omega) hbr).trans hb0
  have hgb : g ≠ b := by
    rcases hat with e | e
    · exact (hw.row_ge g e).2.2
    · omega
  subst hn
  refine ⟨⟨_, one_setCell hb1, ?_, rfl⟩, ?_⟩
  · rw [List.length_append, List.map_append]
    exact ownsRow_setCell_other hown1 (by simp [Value.ownBlock, hgb]) _
  · refine h0.trans ⟨⟨hgrow.os, hgrow.tape, hgrow.output, by simpa [World.setCell] using hgrow.size, fun k hk hkb hkr => ?_⟩, ?_⟩
    · rw [Below.heap_setCell _ _ _ _ (by simpa using hkb)]
      exact hgrow.block k hk hkr
    · rcases hat with e | e
      · exact .inl e.symm
      · exact .inr ⟨g, rfl, by omega⟩

end Go.Proofs.Ytjiajnmpdlaidaa.Pk
