/-
  The texts BlockRefRead.
-/
import Derived.Test.YtedjohkdfchocaaGreatQBlockDecode
import Derived.Test.YtedjohkdfchocaaGreatQBlockRefEnc
import Derived.Test.YtedjohkdfchocaaGreatPart6

/-
  The document's answer for layer 8: its reader, told by the bytes; what a round of Decode holds in memory; how great the versions are.
-/
namespace Go.Proofs.YtedjohkdfchocaaGreat.Bk
open Go.RowKit Cm Mm
open Pk (RfAt Step enc enc_len fold text unfold dnum dtext dnum_enc dnum_some fold_lt fold_unfold unfold_bd)
set_option linter.unusedVariables false

section
variable (b : Nat) (s : ByteArray) (w : World)
theorem fnum_ans (hr : RfAt w b s) (hs : s.size ≤ 1000000000000) : Calls Tryz.prog 60 #[.pointer (some ⟨b, 0, none⟩)] w fun e w' => Ans RfAt w b (bs s) enc (fun n => n < 18446744073709551616) (fun n => .tuple #[.int .u64 (n : Nat), .int .i64 0]) (.tuple #[.int .u64 0, .int .i64 1]) e w' := by
  cases hd : dnum (bs s) with
  | none =>
    refine (Pk.fNum_none b s w hr (by unfold maxLen; omega) hd).mono ?_
    rintro e w' ⟨rfl, h1, h2⟩
    exact Ans.miss (dnum_not hd) s h1 (by rw [bs_len]; omega) h2
  | some p =>
    obtain ⟨n, k⟩ := p
    obtain ⟨h1, h2, h3, h4⟩ := dnum_some hd
    refine (Pk.fNum_read b n _ s w hr (by unfold maxLen; omega) h1 h3).mono ?_
    rintro e w' ⟨rfl, s', q1, q2, q3⟩
    exact Ans.good (ret := fun n : Nat => .tuple #[.int .u64 (n : Nat), .int .i64 0]) n s' h1 (by unfold bs at *; rw [q2]; exact h3) q1 q3
theorem fint_ans (hr : RfAt w b s) (hs : s.size ≤ 1000000000000) : Calls Tryz.prog 62 #[.pointer (some ⟨b, 0, none⟩)] w fun e w' => Ans RfAt w b (bs s) (fun i => enc (fold i)) OkInt (fun i => .tuple #[.int .i64 i, .int .i64 0]) (.tuple #[.int .i64 0, .int .i64 1]) e w' := by
  cases hd : dnum (bs s) with
  | none =>
    refine (Pk.fInt_none b s w hr (by unfold maxLen; omega) hd).mono ?_
    rintro e w' ⟨rfl, h1, h2⟩
    exact Ans.miss (fun i t hi => dnum_not hd _ t (fold_lt hi.1 hi.2)) s h1 (by rw [bs_len]; omega) h2
  | some p =>
    obtain ⟨n, k⟩ := p
    obtain ⟨h1, h2, h3, h4⟩ := dnum_some hd
    refine (Pk.fInt_read b n _ s w hr (by unfold maxLen; omega) h1 h3).mono ?_
    rintro e w' ⟨rfl, s', q1, q2, q3⟩
    exact Ans.good (ret := fun i : Int => .tuple #[.int .i64 i, .int .i64 0]) (unfold n) s' (unfold_bd h1) (by rw [fold_unfold]; unfold bs at *; rw [q2]; exact h3) q1 q3
theorem ftext_ans (hr : RfAt w b s) (hs : s.size ≤ 1000000000000) : Calls Tryz.prog 61 #[.pointer (some ⟨b, 0, none⟩)] w fun e w' => Ans RfAt w b (bs s) (fun v => text (bs v)) OkText (fun v => .tuple #[.string v, .int .i64 0]) (.tuple #[.string ⟨#[]⟩, .int .i64 1]) e w' := by
  cases hd : dtext (bs s) with
  | none =>
    refine (Pk.fText_none b s w hr (by unfold maxLen; omega) hd).mono ?_
    rintro e w' ⟨rfl, h1, h2⟩
    exact Ans.miss (fun v t hv => dtext_not hd v t hv) s h1 (by rw [bs_len]; omega) h2
  | some p =>
    obtain ⟨k, n⟩ := p
    obtain ⟨v, t, h1, h3⟩ := dtext_is hd
    have hv : v.length ≤ s.size := by rw [← bs_len, h3]; unfold text; simp; omega
    refine (Pk.fText_read b v t s w hr (by unfold maxLen; omega) h3).mono ?_
    rintro e w' ⟨rfl, s', q1, q2, q3⟩
    refine Ans.good (ret := fun v : ByteArray => .tuple #[.string v, .int .i64 0]) ⟨v.toArray⟩ s' ?_ ?_ q1 q3
    · unfold OkText; rw [← bs_len, bs_mk]; omega
    · show bs s = text (bs _) ++ bs s'
      rw [bs_mk]
      unfold bs at *
      rw [q2]; exact h3
end
/-- Whatever is answered: a pair, and the reader stands somewhere. -/
def Weak (w : World) (b : Nat) (s : ByteArray) (e : Ending) (w' : World) : Prop := ∃ x y, e = .returned (.tuple #[x, y]) ∧ (∃ s', RfAt w' b s' ∧ s'.size ≤ s.size) ∧ Step b w none w' none
theorem Ans.weak {X : Type} {w : World} {b : Nat} {s : ByteArray} {bytes : X → List UInt8} {ok : X → Prop} {f g : X → Value} {x y : Value} {e : Ending} {w' : World} (h : Ans RfAt w b (bs s) bytes ok (fun a => .tuple #[f a, g a]) (.tuple #[x, y]) e w') : Weak w b s e w' := by
  rcases h with ⟨a, s', _, h2, rfl, h4, h5⟩ | ⟨_, rfl, ⟨s', h4, h6⟩, h5⟩
  · exact ⟨_, _, rfl, ⟨s', h4, by have := rest_len h2; rwa [bs_len] at this⟩, h5⟩
  · exact ⟨_, _, rfl, ⟨s', h4, by rwa [bs_len] at h6⟩, h5⟩
theorem wnum (b : Nat) (s : ByteArray) (w : World) (hr : RfAt w b s) (hs : s.size ≤ 1000000000000) : Calls Tryz.prog 60 #[.pointer (some ⟨b, 0, none⟩)] w (Weak w b s) := (fnum_ans b s w hr hs).mono fun e w' h => h.weak (f := fun n : Nat => .int .u64 (n : Nat)) (g := fun _ => .int .i64 0)
theorem wint (b : Nat) (s : ByteArray) (w : World) (hr : RfAt w b s) (hs : s.size ≤ 1000000000000) : Calls Tryz.prog 62 #[.pointer (some ⟨b, 0, none⟩)] w (Weak w b s) := (fint_ans b s w hr hs).mono fun e w' h => h.weak (f := fun n : Int => .int .i64 n) (g := fun _ => .int .i64 0)
theorem wtext (b : Nat) (s : ByteArray) (w : World) (hr : RfAt w b s) (hs : s.size ≤ 1000000000000) : Calls Tryz.prog 61 #[.pointer (some ⟨b, 0, none⟩)] w (Weak w b s) := (ftext_ans b s w hr hs).mono fun e w' h => h.weak (f := fun v : ByteArray => .string v) (g := fun _ => .int .i64 0)

/-! ### How great they are -/
structure Loose (M : Nat) (out : List En) : Prop where
  few : out.length ≤ M
  each : ∀ e ∈ out, e.key.size ≤ M ∧ e.val.size ≤ M
  ok : AllOk out
theorem Loose.snoc {M : Nat} {out : List En} {e : En} (h : Loose M out) (h1 : out.length + 1 ≤ M) (h2 : e.key.size ≤ M) (h3 : e.val.size ≤ M) (h4 : e.ok) : Loose M (out ++ [e]) := by
  refine ⟨by simp; omega, fun x hx => ?_, fun x hx => ?_⟩
  · rcases List.mem_append.1 hx with hx | hx
    · exact h.each x hx
    · obtain rfl : x = e := by simpa using hx
      exact ⟨h2, h3⟩
  · rcases List.mem_append.1 hx with hx | hx
    · exact h.ok x hx
    · obtain rfl : x = e := by simpa using hx
      exact h4
theorem bytes_each {M : Nat} {out : List En} (h : ∀ e ∈ out, e.key.size ≤ M ∧ e.val.size ≤ M) : bytesE out ≤ out.length * (2 * M) := by
  induction out with
  | nil => simp [bytesE]
  | cons x r ih =>
    have h1 := ih fun e he => h e (List.mem_cons_of_mem _ he)
    have h2 := h x (by simp)
    rw [bytesE_cons, List.length_cons, Nat.add_mul]
    unfold sizeE
    omega
theorem Loose.sized {M : Nat} {out : List En} (h : Loose M out) (hM : M ≤ 1048576) : Sized out := by
  have h1 := block_len out
  have h2 := bytes_each h.each
  have h3 := h.few
  have h4 : out.length * (2 * M) ≤ 1048576 * (2 * 1048576) := Nat.mul_le_mul (by omega) (by omega)
  refine ⟨by omega, by omega, fun k => ?_⟩
  by_cases hk : k < out.length
  · have := h.each _ (List.getElem_mem hk)
    rw [getD_lt _ _ _ hk]
    omega
  · have : out.getD k En.zero = En.zero := by simp [List.getElem?_eq_none (by omega : out.length ≤ k)]
    rw [this]
    exact ⟨Nat.zero_le _, Nat.zero_le _⟩

/-! ### What a round holds -/
structure DS (w : World) (b g : Nat) (s : ByteArray) (x : En) (v : Value) (out : List En) (X : World) : Prop where
  rf : RfAt X b s
  box : X.heap[g]? = some (entObj x)
  own : X.ownsRow w.heap.size 25 4 v out.length (enShape.vals out)
  far : v.ownBlock ≠ some g
  bel : Below w.heap.size w X
  lo : w.heap.size ≤ b
  glo : w.heap.size ≤ g
section
variable {w X Y : World} {b g : Nat} {s s' : ByteArray} {x : En} {v : Value} {out : List En}
theorem DS.bg (h : DS w b g s x v out X) : b ≠ g := by
  rintro rfl
  have h1 := h.box
  have h2 := h.rf
  unfold RfAt at h2
  rw [h1] at h2
  simp [entObj] at h2
theorem DS.row (h : DS w b g s x v out X) : v.ownBlock ≠ some b := rows_far h.own h.rf (fun cs e => by simp at e)
theorem DS.step (h : DS w b g s x v out X) (hs : Step b X none Y none) (hr : RfAt Y b s') : DS w b g s' x v out Y := by
  have f := h.row
  exact ⟨hr, (hs.kept.block g (lt_of_block h.box) h.bg.symm (by simp)).trans h.box, rows_keep h.own (fun k hk => hs.kept.block k (h.own.lt k hk).2 (fun e => f (by rw [← e]; exact hk)) (by simp)), h.far, h.bel.trans (hs.below h.bel.size h.lo (fun k hk => by cases hk)), h.lo, h.glo⟩
theorem DS.cells (h : DS w b g s x v out X) : X.cell? ⟨g, 0, none⟩ = some (.string x.key) ∧ X.cell? ⟨g, 1, none⟩ = some (.int .i64 x.seq) ∧ X.cell? ⟨g, 2, none⟩ = some (.bool x.dead) ∧ X.cell? ⟨g, 3, none⟩ = some (.string x.val) ∧ ∀ i, X.frozen? ⟨g, i, none⟩ = false := ent_cells h.box
theorem DS.set1 (h : DS w b g s x v out X) {i : Nat} {u : Value} {y : En} (hy : (X.setCell ⟨g, i, none⟩ u).heap[g]? = some (entObj y)) : DS w b g s y v out (X.setCell ⟨g, i, none⟩ u) := by
  have hb := h.bg
  exact ⟨(Below.heap_setCell _ _ _ _ (by simpa using hb)).trans h.rf, hy, rows_keep h.own (fun k hk => Below.heap_setCell _ _ _ _ (by simp; rintro rfl; exact h.far hk)), h.far, h.bel.setCell (by simpa using h.glo) _, h.lo, h.glo⟩
theorem DS.set4 (h : DS w b g s x v out X) (K : ByteArray) (q : Int) (d : Bool) (V : ByteArray) : DS w b g s ⟨K, q, d, V⟩ v out ((((X.setCell ⟨g, 0, none⟩ (.string K)).setCell ⟨g, 1, none⟩ (.int .i64 q)).setCell ⟨g, 2, none⟩ (.bool d)).setCell ⟨g, 3, none⟩ (.string V)) := by
  have e1 : (X.setCell ⟨g, 0, none⟩ (.string K)).heap[g]? = some (entObj ⟨K, x.seq, x.dead, x.val⟩) := Joins.block_setCell (i := 0) h.box _
  have h1 := h.set1 e1
  have e2 : ((X.setCell ⟨g, 0, none⟩ (.string K)).setCell ⟨g, 1, none⟩ (.int .i64 q)).heap[g]? = some (entObj ⟨K, q, x.dead, x.val⟩) := Joins.block_setCell (i := 1) h1.box _
  have h2 := h1.set1 e2
  have e3 : (((X.setCell ⟨g, 0, none⟩ (.string K)).setCell ⟨g, 1, none⟩ (.int .i64 q)).setCell ⟨g, 2, none⟩ (.bool d)).heap[g]? = some (entObj ⟨K, q, d, x.val⟩) := Joins.block_setCell (i := 2) h2.box _
  have h3 := h2.set1 e3
  exact h3.set1 (Joins.block_setCell (i := 3) h3.box _)
theorem DS.set3 (h : DS w b g s x v out X) (V : ByteArray) : DS w b g s ⟨x.key, x.seq, x.dead, V⟩ v out (X.setCell ⟨g, 3, none⟩ (.string V)) := h.set1 (Joins.block_setCell (i := 3) h.box _)
/-- One more version behind the others. -/
theorem DS.grow (h : DS w b g s x v out X) {o : Obj} {v' : Value} {y : En} (hown : Y.ownsRow w.heap.size 25 4 v' (out.length + 1) (enShape.vals (out ++ [y]))) (hg : (X.alloc o).grownBy Y v.ownBlock) :
    Y.ownsRow w.heap.size 25 4 v' (out ++ [y]).length (enShape.vals (out ++ [y])) ∧ Below w.heap.size w Y ∧ RfAt Y b s ∧ Y.cell? ⟨g, 0, none⟩ = some (.string x.key) := by
  have hb : Below w.heap.size w Y := (h.bel.alloc h.bel.size o).grown hg (by have := h.bel.size; simp; omega) (fun k hk => (h.own.lt k hk).1)
  have k1 : Y.heap[b]? = X.heap[b]? := by
    rw [hg.block b (by have := h.rf.lt; simp; omega) (fun e => h.row e.symm)]
    exact Below.heap_alloc _ _ _ h.rf.lt
  have k2 : Y.heap[g]? = some (entObj x) := by
    rw [hg.block g (by have := lt_of_block h.box; simp; omega) (fun e => h.far e.symm)]
    exact (Below.heap_alloc _ _ _ (lt_of_block h.box)).trans h.box
  refine ⟨by rw [List.length_append]; exact hown, hb, k1.trans h.rf, (ent_cells k2).1⟩
end
end Go.Proofs.YtedjohkdfchocaaGreat.Bk
