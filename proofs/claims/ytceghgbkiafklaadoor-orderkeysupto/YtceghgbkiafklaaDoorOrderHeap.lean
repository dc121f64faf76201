/-
  What gathers bytes in memory (layer 3): the block whose first cell is its slice, the row that the slice owns, and what stays as it was when something is put.
-/
import Derived.Test.YtceghgbkiafklaaDoorCmHeap
import Derived.Test.YtceghgbkiafklaaDoorOrderMath
namespace Go.Proofs.YtceghgbkiafklaaDoor.Od
open Go.RowKit
open Go.Proofs.YtceghgbkiafklaaDoor.Cm
set_option linter.unusedVariables false

/-- Everything that was there but block b and row r is as it was. -/
structure Kept (b : Nat) (r : Option Nat) (w w' : World) : Prop where
  os : w'.os = w.os
  tape : w'.tape = w.tape
  output : w'.output = w.output
  size : w.heap.size ≤ w'.heap.size
  block : ∀ k, k < w.heap.size → k ≠ b → some k ≠ r → w'.heap[k]? = w.heap[k]?
theorem Kept.refl (b : Nat) (r : Option Nat) (w : World) : Kept b r w w := ⟨rfl, rfl, rfl, Nat.le_refl _, fun _ _ _ _ => rfl⟩
/-- From row r to row r': the same, or one that is made on the way. -/
structure Step (b : Nat) (w : World) (r : Option Nat) (w' : World) (r' : Option Nat) : Prop where
  kept : Kept b r w w'
  row : r' = r ∨ ∃ g, r' = some g ∧ w.heap.size ≤ g
theorem Step.refl (b : Nat) (r : Option Nat) (w : World) : Step b w r w r := ⟨Kept.refl b r w, .inl rfl⟩
theorem Step.trans {b : Nat} {w w1 w2 : World} {r r1 r2 : Option Nat} (h : Step b w r w1 r1) (k : Step b w1 r1 w2 r2) : Step b w r w2 r2 := by
  have hs := h.kept.size
  refine ⟨⟨k.kept.os.trans h.kept.os, k.kept.tape.trans h.kept.tape, k.kept.output.trans h.kept.output, Nat.le_trans hs k.kept.size, fun i hi hb hr => ?_⟩, ?_⟩
  · refine (k.kept.block i (by omega) hb ?_).trans (h.kept.block i hi hb hr)
    rcases h.row with e | ⟨g, e, hg⟩
    · rw [e]; exact hr
    · rw [e]; intro he; simp at he; omega
  · rcases k.row with e | ⟨g, e, hg⟩
    · rw [e]; exact h.row
    · exact .inr ⟨g, e, by omega⟩
theorem Step.of_below {b : Nat} {r : Option Nat} {w w' : World} (h : Below w.heap.size w w') : Step b w r w' r :=
  ⟨⟨h.os, h.tape, h.output, h.size, fun k hk _ _ => h.block k hk⟩, .inl rfl⟩
theorem Step.alloc (b : Nat) (r : Option Nat) (w : World) (o : Obj) : Step b w r (w.alloc o) r :=
  ⟨⟨rfl, rfl, rfl, by simp, fun k hk _ _ => Below.heap_alloc _ _ _ hk⟩, .inl rfl⟩
theorem Step.set (b : Nat) (r : Option Nat) (w : World) (i : Nat) (v : Value) : Step b w r (w.setCell ⟨b, i, none⟩ v) r :=
  ⟨⟨rfl, rfl, rfl, by simp [World.setCell], fun k hk hb _ => Below.heap_setCell _ _ _ _ (by simpa using hb)⟩, .inl rfl⟩
theorem Step.below {b B : Nat} {w w' : World} {r r' : Option Nat} (h : Step b w r w' r') (hb : B ≤ b) (hr : ∀ k, r = some k → B ≤ k) (hB : B ≤ w.heap.size) : Below B w w' :=
  ⟨h.kept.os, h.kept.tape, h.kept.output, h.kept.size, fun k hk => h.kept.block k (by omega) (by omega) (fun e => by have := hr k e.symm; omega)⟩

/-- Block b has gathered the bytes bs; its slice's row is r; behind the slice the cells tail. -/
def GAt (w : World) (base b : Nat) (ty : TypeId) (tail : List Value) (r : Option Nat) (bs : List UInt8) : Prop :=
  ∃ v, w.heap[b]? = some (.cells (v :: tail).toArray ty (0, 0)) ∧ w.ownsRow base 5 1 v bs.length (bs.map B8) ∧ v.ownBlock = r ∧ v.ownBlock ≠ some b
section
variable {w w' : World} {base b : Nat} {ty : TypeId} {tail : List Value} {r : Option Nat} {bs : List UInt8}
theorem GAt.row_ge (h : GAt w base b ty tail r bs) : ∀ k, r = some k → base ≤ k ∧ k < w.heap.size ∧ k ≠ b := by
  obtain ⟨v, hb, hown, rfl, hne⟩ := h
  intro k hk
  have := hown.lt k hk
  refine ⟨this.1, this.2, ?_⟩
  rintro rfl
  exact hne hk
theorem GAt.lt (h : GAt w base b ty tail r bs) : b < w.heap.size := by
  obtain ⟨v, hb, _⟩ := h
  exact lt_of_block hb
theorem GAt.keep (h : GAt w base b ty tail r bs) (hb : w'.heap[b]? = w.heap[b]?) (hr : ∀ k, r = some k → w'.heap[k]? = w.heap[k]?) : GAt w' base b ty tail r bs := by
  obtain ⟨v, hv, hown, rfl, hne⟩ := h
  exact ⟨v, hb.trans hv, own_keep hown hr, rfl, hne⟩
theorem GAt.below (h : GAt w base b ty tail r bs) (hb : Below w.heap.size w w') : GAt w' base b ty tail r bs :=
  h.keep (hb.block b h.lt) fun k hk => hb.block k (h.row_ge k hk).2.1
theorem GAt.alloc (h : GAt w base b ty tail r bs) (o : Obj) : GAt (w.alloc o) base b ty tail r bs :=
  h.keep (Below.heap_alloc _ _ _ h.lt) fun k hk => Below.heap_alloc _ _ _ (h.row_ge k hk).2.1
/-- The slice's cell. -/
theorem GAt.cell (h : GAt w base b ty tail r bs) : ∃ v, w.cell? ⟨b, 0, none⟩ = some v ∧ w.frozen? ⟨b, 0, none⟩ = false ∧ w.ownsRow base 5 1 v bs.length (bs.map B8) ∧ v.ownBlock = r := by
  obtain ⟨v, hb, hown, hr, hne⟩ := h
  refine ⟨v, by rw [Joins.cell_of_block hb]; rfl, by simp [World.frozen?, hb], hown, hr⟩
theorem own_form {w : World} {B n : Nat} {e : TypeId} {v : Value} {xs : List Value} (h : w.ownsRow B e 1 v n xs) : v = .slice none 0 0 ∨ ∃ g cap, v = .slice (some ⟨g, 0, none⟩) n cap := by
  rcases h.2 with ⟨rfl, _⟩ | ⟨g, cap, cur, rfl, _⟩
  · exact .inl rfl
  · exact .inr ⟨g, cap, rfl⟩
/-- What one append to the slice comes to. -/
theorem GAt.grow {w1 : World} {v v' : Value} {new : List UInt8} {n : Nat} (h : GAt w base b ty tail r bs) (hv : w.cell? ⟨b, 0, none⟩ = some v)
    (hown1 : w1.ownsRow base 5 1 v' n (bs.map B8 ++ new.map B8)) (hn : n = bs.length + new.length)
    (hgrow : w.grownBy w1 v.ownBlock) (hat : v'.ownBlock = v.ownBlock ∨ v'.ownBlock = some w.heap.size) :
    (w1.cell? ⟨b, 0, none⟩ = some v ∧ w1.frozen? ⟨b, 0, none⟩ = false) ∧
    ∃ r', GAt (w1.setCell ⟨b, 0, none⟩ v') base b ty tail r' (bs ++ new) ∧ Step b w r (w1.setCell ⟨b, 0, none⟩ v') r' := by
  have hlt := h.lt
  obtain ⟨u, hb, hown, hr, hne⟩ := h
  have e : u = v := by
    rw [Joins.cell_of_block hb] at hv
    simpa using hv
  subst e
  have hb1 : w1.heap[b]? = some (.cells (u :: tail).toArray ty (0, 0)) := (hgrow.block b hlt (fun e => hne e.symm)).trans hb
  have hgb : v'.ownBlock ≠ some b := by
    rcases hat with e | e
    · rw [e]; exact hne
    · rw [e]; intro e2; simp at e2; omega
  subst hn
  refine ⟨⟨by rw [Joins.cell_of_block hb1]; rfl, by simp [World.frozen?, hb1]⟩, v'.ownBlock, ⟨v', ?_, ?_, rfl, hgb⟩, ?_⟩
  · rw [Joins.block_setCell hb1]; simp
  · rw [List.length_append, List.map_append]
    exact ownsRow_setCell_other hown1 hgb _
  · refine ⟨⟨hgrow.os, hgrow.tape, hgrow.output, by simpa [World.setCell] using hgrow.size, fun k hk hkb hkr => ?_⟩, ?_⟩
    · rw [Below.heap_setCell _ _ _ _ (by simpa using hkb)]
      exact hgrow.block k hk (by rw [hr]; exact hkr)
    · rcases hat with e | e
      · exact .inl (by rw [e, hr])
      · exact .inr ⟨_, e, Nat.le_refl _⟩
end

set_option maxRecDepth 100000 in
set_option maxHeartbeats 500000 in
theorem put_any (base b : Nat) (ty : TypeId) (tail : List Value) (r : Option Nat) (bs new : List UInt8) (ad : Addr) (m c : Nat) (w : World) (hw : GAt w base b ty tail r bs)
    (hm : new.length = m) (hm0 : 0 < m) (hnew : CellsAt w (some ad) (new.map B8)) (hsz : bs.length + m ≤ 140737488355328) (hbase : base ≤ w.heap.size) :
    Calls Tryd.prog 42 #[.pointer (some ⟨b, 0, none⟩), .slice (some ad) m c] w fun e w' => e = .returned (.tuple #[]) ∧ ∃ r', GAt w' base b ty tail r' (bs ++ new) ∧ Step b w r w' r' := by
  obtain ⟨i0, hi, hz0, hz1, hz2⟩ := info_parts info8
  obtain ⟨v, hc, hf, hown, -⟩ := hw.cell
  have Hm : Hid (new.length = m) := hm
  clear hm
  have h63 : bs.length + m ≤ maxLen := by unfold maxLen; omega
  go_enter Tryd.func42, Tryd.ntmps42
  go_wp2_with (at_builtin; refine wpList_append_any _ rfl _ _ 43 rfl base 5 i0 (.int .u8 0) 1 Tryd.underlying43 hi hz0 hz1 hz2 rfl v bs.length (bs.map B8) rfl hown (some ad) m c (new.map B8) rfl (fun h => by cases h) (by rw [List.length_map]; exact Hm.out) hnew ?c2 ?c3 ?c4 ?c5 ?_)
  case c2 => intro u hu; obtain ⟨x, _, rfl⟩ := List.mem_map.1 hu; rfl
  case c3 => exact h63
  case c4 => omega
  case c5 => exact hbase
  intro v' w1 hown1 hgrow hat
  have R := hw.grow hc hown1 (by rw [Hm.out]) hgrow hat
  have hc1 := R.1.1
  have hf1 := R.1.2
  have hform := own_form hown1
  have HR : Hid _ := R.2
  clear R hown1 hgrow hat hnew hw hown hc hf
  rcases hform with rfl | ⟨g, cap, rfl⟩
  · go_wp2
    go_end0
    exact ⟨rfl, HR.out⟩
  · go_wp2
    go_end0
    exact ⟨rfl, HR.out⟩

set_option maxRecDepth 100000 in
set_option maxHeartbeats 500000 in
theorem putText_any (base b : Nat) (ty : TypeId) (tail : List Value) (r : Option Nat) (bs : List UInt8) (s : ByteArray) (w : World) (hw : GAt w base b ty tail r bs)
    (hsz : bs.length + s.size ≤ 140737488355328) (hbase : base ≤ w.heap.size) :
    Calls Tryd.prog 43 #[.pointer (some ⟨b, 0, none⟩), .string s] w fun e w' => e = .returned (.tuple #[]) ∧ ∃ r', GAt w' base b ty tail r' (bs ++ s.data.toList) ∧ Step b w r w' r' := by
  obtain ⟨i0, hi, hz0, hz1, hz2⟩ := info_parts info8
  obtain ⟨v, hc, hf, hown, -⟩ := hw.cell
  have h63 : bs.length + s.size ≤ maxLen := by unfold maxLen; omega
  have hcl : Lib.strCells s = s.data.toList.map B8 := rfl
  go_enter Tryd.func43, Tryd.ntmps43
  go_wp2_with (at_builtin; refine wpList_append_str_at _ rfl _ _ 43 9 rfl base 5 i0 Tryd.underlying43 Tryd.underlying9 hi hz0 hz1 hz2 v bs.length (bs.map B8) rfl hown s rfl h63 hsz hbase ?_)
  intro v' w1 hown1 hgrow hat
  have R := hw.grow (new := s.data.toList) hc (by rw [← hcl]; exact hown1) (by rw [← Lib.size_eq]) hgrow hat
  have hc1 := R.1.1
  have hf1 := R.1.2
  have hform := own_form hown1
  have HR : Hid _ := R.2
  clear R hown1 hgrow hat hw hown hc hf hcl
  rcases hform with rfl | ⟨g, cap, rfl⟩
  · go_wp2
    go_end0
    exact ⟨rfl, HR.out⟩
  · go_wp2
    go_end0
    exact ⟨rfl, HR.out⟩

set_option maxHeartbeats 500000 in
theorem all_any (base b : Nat) (ty : TypeId) (tail : List Value) (r : Option Nat) (bs : List UInt8) (w : World) (hw : GAt w base b ty tail r bs) :
    Calls Tryd.prog 23 #[.pointer (some ⟨b, 0, none⟩)] w fun e w' => e = .returned (.string ⟨bs.toArray⟩) ∧ w' = w := by
  obtain ⟨v, hc, hf, hown, -⟩ := hw.cell
  have hs := own_string hown
  clear hf hown hw
  go_enter Tryd.func23, Tryd.ntmps23
  go_wp2
  go_ret
  exact ⟨rfl, rfl⟩
end Go.Proofs.YtceghgbkiafklaaDoor.Od
