/-
  Layer 6: rows of versions that a statement makes and spoils; a table beside them.
-/
import Derived.Test.YtbbncfgiimkpnaaMemPlaysWalk
namespace Go.Proofs.Ytbbncfgiimkpnaa.Mm
open Go.RowKit Cm
set_option linter.unusedVariables false

theorem own_emptyT (w : World) (e : TypeId) (k base : Nat) (h : base ≤ w.heap.size) : (w.alloc (.cells #[] e)).ownsRow base e k (.slice (some ⟨w.heap.size, 0, none⟩) 0 0) 0 [] :=
  ⟨by simp, .inr ⟨w.heap.size, 0, #[], rfl, h, heap_alloc_new w _, by simp, by simp, by simp, by simp⟩⟩
theorem own_formK {w : World} {B n k : Nat} {e : TypeId} {v : Value} {vs : List Value} (h : w.ownsRow B e k v n vs) (hn : 0 < n) : ∃ g cap, v = .slice (some ⟨g, 0, none⟩) n cap ∧ B ≤ g ∧ g < w.heap.size ∧ n ≤ cap := by
  rcases h.2 with ⟨rfl, h0⟩ | ⟨g, cap, cur, rfl, hB, hg, hle, _⟩
  · omega
  · exact ⟨g, cap, rfl, hB, lt_of_block hg, hle⟩
theorem own_cells1 {w : World} {B n g cap : Nat} {e : TypeId} {vs : List Value} (h : w.ownsRow B e 1 (.slice (some ⟨g, 0, none⟩) n cap) n vs) (hlt : g < w.heap.size) : CellsAt w (some ⟨g, 0, none⟩) vs := by
  refine .inr ⟨g, 0, rfl, hlt, fun j hj => ?_⟩
  have := h.cells (g := g) rfl j vs[j] (by simp [hj])
  rw [Go.WideShapes.add_plain] at this
  rw [this]; simp [hj]
/-- A version stored into a row. -/
theorem stored4 {w : World} {B n g cap k : Nat} {e : TypeId} {ys : List Value} (h : w.ownsRow B e 4 (.slice (some ⟨g, 0, none⟩) n cap) n ys) (hk : k < n) (a b c d : Value) :
    (∃ ys', ((((w.setCell ⟨g, k * 4, none⟩ a).setCell ⟨g, k * 4 + 1, none⟩ b).setCell ⟨g, k * 4 + 2, none⟩ c).setCell ⟨g, k * 4 + 3, none⟩ d).ownsRow B e 4 (.slice (some ⟨g, 0, none⟩) n cap) n ys') ∧
    (∀ j, j < 4 → ∃ v, w.cell? ⟨g, k * 4 + j, none⟩ = some v) ∧ ∀ i, w.frozen? ⟨g, i, none⟩ = false := by
  rcases h.2 with ⟨e1, _⟩ | ⟨g', cap', cur, e1, hB, hg, hle, hcm, hcs, htk⟩
  · cases e1
  · cases e1
    refine ⟨⟨((((cur.setIfInBounds (k * 4) a).setIfInBounds (k * 4 + 1) b).setIfInBounds (k * 4 + 2) c).setIfInBounds (k * 4 + 3) d).toList.take (n * 4), ?_, .inr ⟨g, cap, _, rfl, hB, Joins.block_setCell (Joins.block_setCell (Joins.block_setCell (Joins.block_setCell hg a) b) c) d, hle, hcm, by simpa using hcs, rfl⟩⟩, fun j hj => ?_, fun i => by simp [World.frozen?, hg]⟩
    · have h4 : n * 4 ≤ cap * 4 := Nat.mul_le_mul_right _ hle
      rw [List.length_take, Array.length_toList]
      simp only [Array.size_setIfInBounds]
      omega
    · rw [Joins.cell_of_block hg]
      exact ⟨_, Array.getElem?_eq_getElem (by have h4 : n * 4 ≤ cap * 4 := Nat.mul_le_mul_right _ hle; omega)⟩
theorem set4_block {w : World} {g i1 i2 i3 i4 : Nat} {a b c d : Value} {j : Nat} (h : j ≠ g) : ((((w.setCell ⟨g, i1, none⟩ a).setCell ⟨g, i2, none⟩ b).setCell ⟨g, i3, none⟩ c).setCell ⟨g, i4, none⟩ d).heap[j]? = w.heap[j]? := by
  rw [Below.heap_setCell _ _ _ _ (by simpa using h), Below.heap_setCell _ _ _ _ (by simpa using h), Below.heap_setCell _ _ _ _ (by simpa using h), Below.heap_setCell _ _ _ _ (by simpa using h)]
theorem set4_grown {w : World} {g i1 i2 i3 i4 : Nat} {a b c d : Value} : w.grownBy ((((w.setCell ⟨g, i1, none⟩ a).setCell ⟨g, i2, none⟩ b).setCell ⟨g, i3, none⟩ c).setCell ⟨g, i4, none⟩ d) (some g) :=
  ⟨rfl, rfl, rfl, by simp [World.setCell], fun k hk hr => set4_block (by rintro rfl; exact hr rfl)⟩

/-- A table, the document's list, another table of which nothing is held; all from B on. -/
structure Three (w : World) (B : Nat) (S : Nat → Prop) (b ob : Nat) (vs : List En) (mo : Option Addr) (c : Nat) (X : World) : Prop where
  both : Both w S b vs mo c X
  oth : X.cell? ⟨ob, 0, none⟩ = some (.int .i64 0)
  olt : ob < X.heap.size
  oout : ¬ S ob
  loS : ∀ j, S j → B ≤ j
  loO : B ≤ ob
  loM : ∀ ad, mo = some ad → B ≤ ad.block
section
variable {w X Y : World} {B : Nat} {S : Nat → Prop} {b ob c : Nat} {vs : List En} {mo : Option Addr}
theorem Three.below (h : Three w B S b ob vs mo c X) (hB : B ≤ X.heap.size) (hb : Below X.heap.size X Y) : Three w B (Cut S X Y) b ob vs mo c Y :=
  ⟨h.both.below hb, (World.cell?_of_block (hb.block ob h.olt)).trans h.oth, Nat.lt_of_lt_of_le h.olt hb.size, Cut.not h.oout (Nat.lt_of_lt_of_le h.olt hb.size), fun j e => Cut.lo h.loS (Nat.le_trans hB hb.size) e, h.loO, h.loM⟩
/-- What turns a block of no concern alone. -/
theorem Three.beside {r : Option Nat} (h : Three w B S b ob vs mo c X) (hg : X.grownBy Y r) (hr : ∀ g, r = some g → ¬ S g ∧ ob ≠ g ∧ (∀ ad, mo = some ad → ad.block ≠ g) ∧ w.heap.size ≤ g) : Three w B S b ob vs mo c Y := by
  have hk : ∀ j, j < X.heap.size → some j ≠ r → Y.heap[j]? = X.heap[j]? := fun j hj hn => hg.block j hj hn
  have hsz := hg.size
  refine ⟨⟨h.both.tab.keep fun j hs hj => hk j hj (fun e => (hr j e.symm).1 hs), h.both.lo, fun j e => h.both.new j (by omega), h.both.els.keep (fun a e hl => hk _ hl (fun e2 => (hr _ e2.symm).2.2.1 a e rfl)) hsz, h.both.nil, h.both.cap, fun ad e => ⟨(h.both.out ad e).1, Nat.lt_of_lt_of_le (h.both.out ad e).2 hsz⟩, h.both.bel.grown hg h.both.bel.size (fun k e => (hr k e).2.2.2)⟩, ?_, Nat.lt_of_lt_of_le h.olt hsz, h.oout, h.loS, h.loO, h.loM⟩
  rw [World.cell?_of_block (hk ob h.olt (fun e => (hr ob e.symm).2.1 rfl))]; exact h.oth
/-- A block ahead of B is of no concern. -/
theorem Three.lower {g : Nat} (h : Three w B S b ob vs mo c X) (hg : g < B) (hw : w.heap.size ≤ g) : ∀ g', some g = some g' → ¬ S g' ∧ ob ≠ g' ∧ (∀ ad, mo = some ad → ad.block ≠ g') ∧ w.heap.size ≤ g' := fun g' e => by
  cases e
  refine ⟨fun e => ?_, fun e => ?_, fun ad e e2 => ?_, hw⟩
  · have := h.loS _ e; omega
  · have := h.loO; omega
  · have := h.loM ad e; omega
end
theorem from_all (vs : List En) : fromE vs ⟨#[]⟩ = vs := by
  have h : ∀ e : En, lt e.key ⟨#[]⟩ = false := fun e => by
    unfold lt
    rw [show (⟨#[]⟩ : ByteArray).toList = [] by simp [ByteArray.toList_eq]]
    cases e.key.toList <;> rfl
  cases vs with
  | nil => rfl
  | cons v vs => unfold fromE; rw [List.dropWhile_cons, h v]; rfl
theorem cells_pre {w : World} {ao : Option Addr} {xs ys : List Value} (h : CellsAt w ao (xs ++ ys)) : CellsAt w ao xs := by
  rcases h with h | ⟨b, off, rfl, hlt, hc⟩
  · exact .inl (by simp at h; exact h.1)
  · refine .inr ⟨b, off, rfl, hlt, fun j hj => ?_⟩
    rw [hc j (by simp; omega), List.getElem?_append_left hj]
/-- The document's list, made behind w9. -/
structure Listed (w9 : World) (vs : List En) (mo : Option Addr) (c : Nat) (X : World) : Prop where
  els : ElemsAt enShape X mo vs
  nil : mo = none → c = 0
  cap : vs.length ≤ c
  out : ∀ ad, mo = some ad → w9.heap.size ≤ ad.block ∧ ad.block < X.heap.size
  bel : Below w9.heap.size w9 X
theorem Listed.step {w9 X Y : World} {vs vs' : List En} {mo : Option Addr} {c : Nat} {v : Value} (h : Listed w9 vs mo c X) (hb : Below X.heap.size X Y) (ho : Y.ownsRow X.heap.size 31 4 v vs'.length (enShape.vals vs')) : ∃ mo' c', v = .slice mo' vs'.length c' ∧ Listed w9 vs' mo' c' Y := by
  obtain ⟨ao', c', rfl, q1, q2, q3, q4⟩ := own_rows (F := enShape) ho
  refine ⟨ao', c', rfl, q4, q1, q3, fun ad e => ?_, h.bel.trans (hb.mono h.bel.size)⟩
  obtain ⟨_, r1, r2⟩ := q2 ad e
  exact ⟨Nat.le_trans h.bel.size r1, r2⟩
end Go.Proofs.Ytbbncfgiimkpnaa.Mm
