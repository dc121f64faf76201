/-
  The reference's reader of numbers, told by the bytes; an edit read by it, in memory.
-/
import Derived.Test.YtjfanbemihheiaaGreatDoorQManDecode
import Derived.Test.YtjfanbemihheiaaGreatDoorPart2
namespace Go.Proofs.YtjfanbemihheiaaGreatDoor.Ma
open Go.RowKit Cm
open Pk (RfAt Step enc enc_len fold unfold dnum dnum_enc dnum_some fold_lt fold_unfold unfold_bd)
set_option linter.unusedVariables false

def erI (b : Bool) : Int := if b then 1 else 0
/-- What a reading of one thing comes to. -/
def FAns {α : Type} (ret : α → Value) (put : α → List UInt8) (ok : α → Prop) (b : Nat) (s : ByteArray) (X : World) (e : Ending) (w' : World) : Prop :=
  ∃ x s' er, e = .returned (.tuple #[ret x, .int .i64 (erI er)]) ∧ ok x ∧ s'.size ≤ s.size ∧ RfAt w' b s' ∧ Rd put ok (bs s) false x (bs s') er ∧ Step b X none w' none
section
variable (b : Nat) (s : ByteArray) (w : World)
theorem fnum_any (hr : RfAt w b s) (hs : s.size ≤ 1000000000000) : Calls Tryz.prog 45 #[.pointer (some ⟨b, 0, none⟩)] w (FAns (fun n : Nat => .int .u64 n) enc OkN b s w) := by
  cases hd : dnum (bs s) with
  | none =>
    refine (Pk.fNum_none b s w hr (by unfold maxLen; omega) hd).mono ?_
    rintro e w' ⟨rfl, h1, h2⟩
    exact ⟨0, s, true, rfl, (by unfold OkN; omega), Nat.le_refl _, h1, rd_bad _ (no_num hd), h2⟩
  | some p =>
    obtain ⟨n, k⟩ := p
    obtain ⟨h1, h2, h3, h4⟩ := dnum_some hd
    refine (Pk.fNum_read b n _ s w hr (by unfold maxLen; omega) h1 h3).mono ?_
    rintro e w' ⟨rfl, s', q1, q2, q3⟩
    refine ⟨n, s', false, rfl, h1, ?_, q1, rd_good _ (by unfold bs at *; rw [q2]; exact h3) h1, q3⟩
    rw [← bs_len, ← bs_len]
    unfold bs at *
    rw [q2, List.length_drop]; omega
theorem fint_any (hr : RfAt w b s) (hs : s.size ≤ 1000000000000) : Calls Tryz.prog 46 #[.pointer (some ⟨b, 0, none⟩)] w (FAns (fun n : Int => .int .i64 n) intB OkI b s w) := by
  cases hd : dnum (bs s) with
  | none =>
    refine (Pk.fInt_none b s w hr (by unfold maxLen; omega) hd).mono ?_
    rintro e w' ⟨rfl, h1, h2⟩
    exact ⟨0, s, true, rfl, OkI.zero, Nat.le_refl _, h1, rd_bad _ (fun n t hn => no_num hd _ t (fold_lt hn.1 hn.2)), h2⟩
  | some p =>
    obtain ⟨n, k⟩ := p
    obtain ⟨h1, h2, h3, h4⟩ := dnum_some hd
    refine (Pk.fInt_read b n _ s w hr (by unfold maxLen; omega) h1 h3).mono ?_
    rintro e w' ⟨rfl, s', q1, q2, q3⟩
    refine ⟨unfold n, s', false, rfl, unfold_bd h1, ?_, q1, rd_good _ (by unfold intB; rw [fold_unfold]; unfold bs at *; rw [q2]; exact h3) (unfold_bd h1), q3⟩
    rw [← bs_len, ← bs_len]
    unfold bs at *
    rw [q2, List.length_drop]; omega
end
theorem Rd.under {α : Type} {put : α → List UInt8} {ok : α → Prop} {s s' : List UInt8} {x : α} {er : Bool} (h : Rd put ok s false x s' er) (b : Bool) : Rd put ok s b x s' (b || er) := by
  cases b
  · exact h
  · exact .inl ⟨rfl, rfl⟩
/-- The edit under way: its box g, the reader b; the result's box. -/
structure DF (w : World) (b g B : Nat) (s : ByteArray) (a d : Value) (e : Ed) (Y : World) : Prop where
  rf : RfAt Y b s
  box : Y.heap[g]? = some (edObj a d e)
  res : Y.heap[w.heap.size]? = some (edObj (.slice none 0 0) (.slice none 0 0) edZero)
  own : EdOwn Y B a d e
  bel : Below w.heap.size w Y
structure LiesF (w : World) (b g B : Nat) : Prop where
  b1 : w.heap.size < b
  b2 : b < B
  g1 : w.heap.size < g
  g2 : g < B
  gb : g ≠ b
section
variable {w Y Z : World} {b g B : Nat} {s s' : ByteArray} {a d a' d' : Value} {e : Ed}
theorem DF.read (h : DF w b g B s a d e Y) (L : LiesF w b g B) (hr : RfAt Z b s') (hst : Step b Y none Z none) : DF w b g B s' a d e Z := by
  have hk : ∀ k, k < Y.heap.size → k ≠ b → Z.heap[k]? = Y.heap[k]? := fun k h1 h2 => hst.kept.block k h1 h2 (by simp)
  exact ⟨hr, (hk g (lt_of_block h.box) L.gb).trans h.box, (hk _ (lt_of_block h.res) (by have := L.b1; omega)).trans h.res,
   h.own.keep (fun k h1 h2 => hk k h2 (by have := L.b2; omega)), h.bel.trans (hst.below h.bel.size (by have := L.b1; omega) (fun k e => by cases e))⟩
theorem DF.below (h : DF w b g B s a d e Y) (hb : Below Y.heap.size Y Z) : DF w b g B s a d e Z :=
  ⟨(hb.block _ (lt_of_block h.rf)).trans h.rf, (hb.block _ (lt_of_block h.box)).trans h.box, (hb.block _ (lt_of_block h.res)).trans h.res, h.own.keep (fun k _ h2 => hb.block k h2), h.bel.trans (hb.mono h.bel.size)⟩
theorem DF.put (h : DF w b g B s a d e Y) (L : LiesF w b g B) {i : Nat} {v a' d' : Value} {e' : Ed} (hb : (Y.setCell ⟨g, i, none⟩ v).heap[g]? = some (edObj a' d' e')) (ho : EdOwn Y B a' d' e') : DF w b g B s a' d' e' (Y.setCell ⟨g, i, none⟩ v) := by
  have hk : ∀ k, k ≠ g → (Y.setCell ⟨g, i, none⟩ v).heap[k]? = Y.heap[k]? := fun k hk => Below.heap_setCell _ _ _ _ (by simpa using hk)
  exact ⟨(hk b L.gb.symm).trans h.rf, hb, (hk _ (by have := L.g1; omega)).trans h.res, ho.keep (fun k h1 h2 => hk k (by have := L.g2; omega)), h.bel.setCell (by have := L.g1; simp; omega) _⟩
theorem DF.cells (h : DF w b g B s a d e Y) : (Y.cell? ⟨g, 0, none⟩ = some a ∧ Y.cell? ⟨g, 1, none⟩ = some d ∧ Y.cell? ⟨g, 2, none⟩ = some (.int .i64 e.wal) ∧ Y.cell? ⟨g, 3, none⟩ = some (.int .i64 e.next) ∧ Y.cell? ⟨g, 4, none⟩ = some (.int .i64 e.seq)) ∧ (∀ i, Y.frozen? ⟨g, i, none⟩ = false) :=
  ⟨ed_cells h.box, fun i => by simp [World.frozen?, h.box, edObj]⟩
/-- What an append to one of its rows leaves. -/
theorem DF.grownA (h : DF w b g B s a d e Y) (L : LiesF w b g B) {o : Obj} {k : Option Nat} (hk : ∀ j, k = some j → B ≤ j) (hg : (Y.alloc o).grownBy Z k) : RfAt Z b s ∧ Z.heap[g]? = some (edObj a d e) ∧ Z.heap[w.heap.size]? = some (edObj (.slice none 0 0) (.slice none 0 0) edZero) ∧ Below w.heap.size w Z := by
  have hc : ∀ j, j < B → j < Y.heap.size → Z.heap[j]? = Y.heap[j]? := fun j h1 h2 => by
    rw [hg.block j (by simp; omega) (fun e => by have := hk j e.symm; omega)]
    exact Below.heap_alloc _ _ _ h2
  refine ⟨(hc b L.b2 (lt_of_block h.rf)).trans h.rf, (hc g L.g2 (lt_of_block h.box)).trans h.box, (hc _ (by have := L.b1; have := L.b2; omega) (lt_of_block h.res)).trans h.res, ?_⟩
  exact (h.bel.alloc h.bel.size o).grown hg (by have := h.bel.size; simp; omega) (fun j e => by have := hk j e; have := L.b1; have := L.b2; omega)
theorem DF.addA (h : DF w b g B s a d e Y) (L : LiesF w b g B) {o : Obj} {f : Fi} (hd : ∀ k, a.ownBlock = some k → d.ownBlock ≠ some k) (hown : Z.ownsRow B 53 2 a' (e.add.length + 1) (fiShape.vals (e.add ++ [f]))) (hg : (Y.alloc o).grownBy Z a.ownBlock) : DF w b g B s a' d ⟨e.add ++ [f], e.del, e.wal, e.next, e.seq⟩ (Z.setCell ⟨g, 0, none⟩ a') := by
  obtain ⟨h1, h2, h3, h4⟩ := h.grownA L (fun j hj => (h.own.add.lt j hj).1) hg
  have ho : EdOwn Z B a d e → True := fun _ => trivial
  have hdel : Z.ownsRow B 3 1 d e.del.length (inShape.vals e.del) := rows_keep h.own.del fun k hk => by
    have h5 := h.own.del.lt k hk
    rw [hg.block k (by simp; omega) (fun q => hd k q.symm hk)]
    exact Below.heap_alloc _ _ _ h5.2
  have hb : (Z.setCell ⟨g, 0, none⟩ a').heap[g]? = some (edObj a' d ⟨e.add ++ [f], e.del, e.wal, e.next, e.seq⟩) := by have := Joins.block_setCell h2 (i := 0) a'; simpa [edObj] using this
  have hk : ∀ k, k ≠ g → (Z.setCell ⟨g, 0, none⟩ a').heap[k]? = Z.heap[k]? := fun k hk => Below.heap_setCell _ _ _ _ (by simpa using hk)
  have hk2 : ∀ k, B ≤ k → (Z.setCell ⟨g, 0, none⟩ a').heap[k]? = Z.heap[k]? := fun k hkB => hk k (by have := L.g2; omega)
  refine ⟨(hk b L.gb.symm).trans h1, hb, (hk _ (by have := L.g1; omega)).trans h3, ⟨?_, ?_⟩, h4.setCell (by have := L.g1; simp; omega) _⟩
  · rw [List.length_append]
    exact rows_keep hown fun k e => hk2 k (hown.lt k e).1
  · exact rows_keep hdel fun k e => hk2 k (hdel.lt k e).1
theorem DF.addD (h : DF w b g B s a d e Y) (L : LiesF w b g B) {o : Obj} {n : Int} (hd : ∀ k, d.ownBlock = some k → a.ownBlock ≠ some k) (hown : Z.ownsRow B 3 1 d' (e.del.length + 1) (inShape.vals (e.del ++ [n]))) (hg : (Y.alloc o).grownBy Z d.ownBlock) : DF w b g B s a d' ⟨e.add, e.del ++ [n], e.wal, e.next, e.seq⟩ (Z.setCell ⟨g, 1, none⟩ d') := by
  obtain ⟨h1, h2, h3, h4⟩ := h.grownA L (fun j hj => (h.own.del.lt j hj).1) hg
  have hadd : Z.ownsRow B 53 2 a e.add.length (fiShape.vals e.add) := rows_keep h.own.add fun k hk => by
    have h5 := h.own.add.lt k hk
    rw [hg.block k (by simp; omega) (fun q => hd k q.symm hk)]
    exact Below.heap_alloc _ _ _ h5.2
  have hb : (Z.setCell ⟨g, 1, none⟩ d').heap[g]? = some (edObj a d' ⟨e.add, e.del ++ [n], e.wal, e.next, e.seq⟩) := by have := Joins.block_setCell h2 (i := 1) d'; simpa [edObj] using this
  have hk : ∀ k, k ≠ g → (Z.setCell ⟨g, 1, none⟩ d').heap[k]? = Z.heap[k]? := fun k hk => Below.heap_setCell _ _ _ _ (by simpa using hk)
  have hk2 : ∀ k, B ≤ k → (Z.setCell ⟨g, 1, none⟩ d').heap[k]? = Z.heap[k]? := fun k hkB => hk k (by have := L.g2; omega)
  refine ⟨(hk b L.gb.symm).trans h1, hb, (hk _ (by have := L.g1; omega)).trans h3, ⟨?_, ?_⟩, h4.setCell (by have := L.g1; simp; omega) _⟩
  · exact rows_keep hadd fun k e => hk2 k (hadd.lt k e).1
  · rw [List.length_append]
    exact rows_keep hown fun k e => hk2 k (hown.lt k e).1
theorem DF.setW (h : DF w b g B s a d e Y) (L : LiesF w b g B) (x y z : Int) : DF w b g B s a d ⟨e.add, e.del, x, y, z⟩ (((Y.setCell ⟨g, 2, none⟩ (.int .i64 x)).setCell ⟨g, 3, none⟩ (.int .i64 y)).setCell ⟨g, 4, none⟩ (.int .i64 z)) := by
  have h1 : DF w b g B s a d ⟨e.add, e.del, x, e.next, e.seq⟩ _ := h.put L (i := 2) (v := .int .i64 x) (by have := Joins.block_setCell h.box (i := 2) (.int .i64 x); simpa [edObj] using this) ⟨h.own.add, h.own.del⟩
  have h2 : DF w b g B s a d ⟨e.add, e.del, x, y, e.seq⟩ _ := h1.put L (i := 3) (v := .int .i64 y) (by have := Joins.block_setCell h1.box (i := 3) (.int .i64 y); simpa [edObj] using this) ⟨h1.own.add, h1.own.del⟩
  exact h2.put L (i := 4) (v := .int .i64 z) (by have := Joins.block_setCell h2.box (i := 4) (.int .i64 z); simpa [edObj] using this) ⟨h2.own.add, h2.own.del⟩
/-- Rows of different kinds are two. -/
theorem EdOwn.apart (h : EdOwn Y B a d e) : ∀ k, a.ownBlock = some k → d.ownBlock ≠ some k := by
  intro k hk hd
  rcases h.add.2 with ⟨e1, _⟩ | ⟨j, cap, cur, e1, _, hj, _⟩
  · rw [e1] at hk; simp [Value.ownBlock] at hk
  · rw [e1] at hk
    simp [Value.ownBlock] at hk
    subst hk
    rcases h.del.2 with ⟨e2, _⟩ | ⟨i, cap2, cur2, e2, _, hi, _⟩
    · rw [e2] at hd; simp [Value.ownBlock] at hd
    · rw [e2] at hd
      simp [Value.ownBlock] at hd
      subst hd
      rw [hj] at hi
      simp at hi
end
end Go.Proofs.YtjfanbemihheiaaGreatDoor.Ma
