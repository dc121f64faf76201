/-
  A table in memory that takes versions one by one, beside other things; what it holds then; and a row whose dead versions lose their values.
-/
import Derived.Test.YtdaibmafnamfgaaMemCut
import Derived.Test.YtdaibmafnamfgaaMergeLies
namespace Go.Proofs.Ytdaibmafnamfgaa.Mg
open Go.RowKit Go.Shelf Cm Mm
set_option linter.unusedVariables false

theorem hit_clean (k : ByteArray) (s : Int) (x : En) : hit k s (clean x) = hit k s x := by unfold hit; rw [clean_key, clean_seq]
theorem fst_add {vs : List En} {x : En} (h : Sorted vs) (k : ByteArray) (s : Int) : fst k s (addOne vs x) = if hit k s x then some (clean x) else fst k s vs := by
  have h0 : fst k s vs = (fst k s (pre vs x.key x.seq)).or (fst k s (post vs x.key x.seq)) := by rw [← fst_append, pre_post]
  have hpre : ∀ e ∈ pre vs x.key x.seq, hit x.key x.seq e = false := fun e he => less_not_hit' (show less e x = true from pre_ahead e he)
  unfold addOne
  rw [fst_append, fst_cons, hit_clean]
  by_cases hh : hit k s x = true
  · obtain ⟨rfl, rfl⟩ := hit_iff.1 hh
    rw [if_pos hh, if_pos hh, fst_none hpre]; rfl
  · rw [if_neg hh, if_neg hh, h0]
    congr 1
    cases hp : post vs x.key x.seq with
    | nil => rfl
    | cons p r =>
      show fst k s (if p.key = x.key ∧ p.seq = x.seq then r else p :: r) = _
      split
      · rename_i hc
        rw [fst_cons, if_neg]
        intro h2
        obtain ⟨h3, h4⟩ := hit_iff.1 h2
        exact hh (hit_iff.2 ⟨hc.1.symm.trans h3, hc.2.symm.trans h4⟩)
      · rfl
theorem fst_map (k : ByteArray) (s : Int) (l : List En) : fst k s (l.map clean) = (fst k s l).map clean := by
  induction l with
  | nil => rfl
  | cons x l ih =>
    rw [List.map_cons, fst_cons, fst_cons, hit_clean]
    split
    · rfl
    · exact ih
theorem fst_rev (k : ByteArray) (s : Int) : ∀ (l : List En), fst k s (addAll [] l.reverse) = (fst k s l).map clean
  | [] => rfl
  | x :: l => by
    rw [List.reverse_cons, addAll_snoc, fst_add (Sorted.addAll List.Pairwise.nil _), fst_cons]
    split
    · rfl
    · exact fst_rev k s l
theorem map_sorted {l : List En} (h : Sorted l) : Sorted (l.map clean) := by
  unfold Sorted
  rw [List.pairwise_iff_getElem]
  intro i j hi hj hij
  rw [List.getElem_map, List.getElem_map, less_clean_l, less_clean_r]
  exact (List.pairwise_iff_getElem.1 h) i j _ _ hij
/-- A table that took the later versions first holds the merged list, but for the values of the dead. -/
theorem add_merged (l : List En) : addAll [] l.reverse = (merged l).map clean :=
  unique (Sorted.addAll List.Pairwise.nil _) (map_sorted (merged_sorted l)) fun k s => by
    rw [fst_rev, fst_map, merged_alike]
/-! ### The table beside other things -/
def TabW (w0 : World) (tb : Nat) (vs : List En) (w : World) : Prop := (∃ S, Tab w S tb vs ∧ (∀ k, w.heap.size ≤ k → S k) ∧ ∀ k, S k → w0.heap.size ≤ k) ∧ Below w0.heap.size w0 w
theorem add_one {w0 w : World} {tb : Nat} {vs : List En} (y : En) (h : TabW w0 tb vs w) (hy : y.ok) (hl : vs.length + 1 ≤ 100000000000) (hm : bytesE vs + sizeE y ≤ 100000000000) :
    Calls Try.prog 9 #[.pointer (some ⟨tb, 0, none⟩), .slice (some ⟨w.heap.size, 0, none⟩) 1 1] (w.alloc (entObj y)) fun r w' => r = .returned (.tuple #[]) ∧ TabW w0 tb (addOne vs y) w' := by
  obtain ⟨⟨S, hT, hN, hS⟩, hB⟩ := h
  have hbA : Below w.heap.size w (w.alloc (entObj y)) := (Below.refl _ _).alloc (Nat.le_refl _) _
  have TA := Tab.cutTo hT hbA
  have hs := hB.size
  refine (addS (some ⟨w.heap.size, 0, none⟩) 1 [y] _ TA (fun j e => Mm.Cut.new e) (elems1 y) (fun _ ad e => by cases e; exact Mm.Cut.out (Nat.le_refl _) (by simp)) (fun e he => by simp at he; subst he; exact hy) (by simpa using hl) (by rw [bytesE_cons]; show _ + (sizeE y + bytesE []) ≤ _; simp [bytesE] at *; omega)).mono ?_
  rintro r w' ⟨rfl, hT2, hc⟩
  have hcs := hc.size
  simp at hcs
  refine ⟨rfl, ⟨Mm.Cut S w (w.alloc (entObj y)), hT2, fun k hk => Mm.Cut.new (by simp; omega), fun k hk => Mm.Cut.lo hS (by simp; omega) hk⟩, ?_⟩
  exact (hB.trans (hbA.mono hs)).trans (hc.below (fun j e => Mm.Cut.lo hS (by simp; omega) e) (by simp; omega))
/-- As many versions as are left, from the end on. -/
def rest (vs l : List En) (j : Nat) : List En := addAll vs (l.drop j).reverse
theorem rest_next {vs l : List En} {j : Nat} (h : j < l.length) : rest vs l j = addOne (rest vs l (j + 1)) (l.getD j En.zero) := by
  unfold rest
  rw [List.drop_eq_getElem_cons h, List.reverse_cons, addAll_snoc, getD_eq h]
theorem rest_all (vs l : List En) : rest vs l l.length = vs := by unfold rest; rw [List.drop_length]; rfl
theorem rest_zero (vs l : List En) : rest vs l 0 = addAll vs l.reverse := rfl
theorem addAll_append (vs a b : List En) : addAll (addAll vs a) b = addAll vs (a ++ b) := by unfold addAll; rw [List.foldl_append]
theorem bytes_rev (l : List En) : bytesE l.reverse = bytesE l := by unfold bytesE; rw [List.map_reverse, List.sum_reverse]
theorem rest_size {vs l : List En} {j : Nat} (h : j < l.length) : (rest vs l (j + 1)).length + 1 ≤ vs.length + l.length ∧ bytesE (rest vs l (j + 1)) + sizeE (l.getD j En.zero) ≤ bytesE vs + bytesE l := by
  obtain ⟨h1, h2⟩ := addAll_len vs (l.drop (j + 1)).reverse
  rw [List.length_reverse, List.length_drop] at h1
  rw [bytes_rev] at h2
  have e2 := congrArg bytesE (List.take_append_drop j l)
  rw [bytesE_append, List.drop_eq_getElem_cons h, bytesE_cons] at e2
  unfold rest
  rw [getD_eq h]
  omega
/-! ### The dead lose their values -/
def cl (L : List En) (k : Nat) : List En := (L.take k).map clean ++ L.drop k
theorem cl_zero (L : List En) : cl L 0 = L := by simp [cl]
theorem cl_all (L : List En) : cl L L.length = L.map clean := by simp [cl]
theorem cl_len (L : List En) (k : Nat) : (cl L k).length = L.length := by
  unfold cl; rw [List.length_append, List.length_map, ← List.length_append, List.take_append_drop]
theorem cl_get {L : List En} {k : Nat} (h : k < L.length) : (cl L k).getD k En.zero = L.getD k En.zero := by
  unfold cl
  have hl : ((L.take k).map clean).length = k := by simp; omega
  rw [List.getD_eq_getElem?_getD, List.getElem?_append_right (by omega), hl, Nat.sub_self, List.getD_eq_getElem?_getD, List.getElem?_drop, Nat.add_zero]
theorem cl_next {L : List En} {k : Nat} (h : k < L.length) : cl L (k + 1) = (cl L k).set k (clean (L.getD k En.zero)) := by
  unfold cl
  have hl : ((L.take k).map clean).length = k := by simp; omega
  rw [take_next h, List.map_append, List.drop_eq_getElem_cons h]
  have := set_app ((L.take k).map clean) (L.drop (k + 1)) L[k] (clean (L.getD k En.zero))
  rw [hl] at this
  rw [this]; simp
theorem cl_same {L : List En} {k : Nat} (h : k < L.length) (hd : (L.getD k En.zero).dead = false) : cl L (k + 1) = cl L k := by
  rw [cl_next h]
  have hc : clean (L.getD k En.zero) = L.getD k En.zero := by unfold clean; rw [hd]; rfl
  rw [hc, ← cl_get h, getD_eq (by rw [cl_len]; exact h), List.set_getElem_self]
theorem vals_set3 (v : ByteArray) : ∀ (xs : List En) (i : Nat) (h : i < xs.length), enShape.vals (xs.set i { xs.getD i En.zero with val := v }) = (enShape.vals xs).set (i * 4 + 3) (.string v)
  | [], i, h => by simp at h
  | y :: xs, 0, h => by rw [List.set_cons_zero, vals4, vals4]; rfl
  | y :: xs, i + 1, h => by
    have h' : i < xs.length := by simpa using h
    have := vals_set3 v xs i h'
    rw [List.set_cons_succ, vals4, vals4, show (i + 1) * 4 + 3 = i * 4 + 3 + 4 by omega]
    show _ :: _ :: _ :: _ :: enShape.vals (xs.set i { xs.getD i En.zero with val := v }) = _
    rw [this]; rfl
theorem RowE.void {B g n cap : Nat} {w0 w : World} {L : List En} {k : Nat} (h : RowE B g n cap w0 (cl L k) w) (hk : k < L.length) (hd : (L.getD k En.zero).dead = true) : RowE B g n cap w0 (cl L (k + 1)) (w.setCell ⟨g, k * 4 + 3, none⟩ (.string ⟨#[]⟩)) := by
  obtain ⟨h1, g1⟩ := h.own.stored (k * 4 + 3) (.string ⟨#[]⟩)
  have e : cl L (k + 1) = (cl L k).set k { (cl L k).getD k En.zero with val := ⟨#[]⟩ } := by
    rw [cl_next hk, cl_get hk]
    congr 1
    unfold clean
    rw [if_pos hd]
  rw [e]
  rw [← vals_set3 ⟨#[]⟩ (cl L k) k (by rw [cl_len]; exact hk)] at h1
  exact ⟨h1, by rw [List.length_set, h.len], grown_trans h.grown g1⟩
end Go.Proofs.Ytdaibmafnamfgaa.Mg
