/-
  Layer 10, plainly: the first version of a key and number in a list; a merged list is told by these and by its order; the stable order; a compacted list.
-/
import Derived.Test.YtdaibmafnamfgaaMemMath
namespace Go.Proofs.Ytdaibmafnamfgaa.Mg
open Cm Mm
set_option linter.unusedVariables false

def hit (k : ByteArray) (s : Int) (e : En) : Bool := decide (e.key = k) && decide (e.seq = s)
theorem hit_iff {k : ByteArray} {s : Int} {e : En} : hit k s e = true ↔ e.key = k ∧ e.seq = s := by unfold hit; simp
theorem hit_self (e : En) : hit e.key e.seq e = true := hit_iff.2 ⟨rfl, rfl⟩
def fst (k : ByteArray) (s : Int) (l : List En) : Option En := l.find? (hit k s)
theorem fst_nil (k : ByteArray) (s : Int) : fst k s [] = none := rfl
theorem fst_append (k : ByteArray) (s : Int) (a b : List En) : fst k s (a ++ b) = (fst k s a).or (fst k s b) := List.find?_append
theorem fst_cons (k : ByteArray) (s : Int) (x : En) (l : List En) : fst k s (x :: l) = if hit k s x then some x else fst k s l := by
  unfold fst; rw [List.find?_cons]; split <;> simp_all
theorem fst_none {k : ByteArray} {s : Int} {l : List En} (h : ∀ e ∈ l, hit k s e = false) : fst k s l = none := by
  unfold fst; rw [List.find?_eq_none]; intro e he; rw [h e he]; simp
theorem fst_some {k : ByteArray} {s : Int} {l : List En} {e : En} (he : e ∈ l) (h : hit k s e = true) : ∃ f, fst k s l = some f := by
  cases hf : fst k s l with
  | some f => exact ⟨f, rfl⟩
  | none => unfold fst at hf; rw [List.find?_eq_none] at hf; exact absurd h (hf e he)
theorem fst_mem {k : ByteArray} {s : Int} {l : List En} {e : En} (h : fst k s l = some e) : e ∈ l ∧ hit k s e = true :=
  ⟨List.mem_of_find?_eq_some h, List.find?_some h⟩
def Alike (a b : List En) : Prop := ∀ k s, fst k s a = fst k s b
theorem Alike.refl (a : List En) : Alike a a := fun _ _ => rfl
theorem Alike.symm {a b : List En} (h : Alike a b) : Alike b a := fun k s => (h k s).symm
theorem Alike.trans {a b c : List En} (h : Alike a b) (h' : Alike b c) : Alike a c := fun k s => (h k s).trans (h' k s)
theorem Alike.append {a b c d : List En} (h : Alike a b) (h' : Alike c d) : Alike (a ++ c) (b ++ d) := fun k s => by rw [fst_append, fst_append, h k s, h' k s]

theorem less_not_hit {x e : En} (h : less x e = true) : hit x.key x.seq e = false := by
  cases h2 : hit x.key x.seq e
  · rfl
  · obtain ⟨h3, h4⟩ := hit_iff.1 h2
    unfold less En.ahead at h
    rw [h3, h4] at h; simp at h
theorem less_not_hit' {x e : En} (h : less x e = true) : hit e.key e.seq x = false := by
  cases h2 : hit e.key e.seq x
  · rfl
  · obtain ⟨h3, h4⟩ := hit_iff.1 h2
    unfold less En.ahead at h
    rw [h3, h4] at h; simp at h
theorem less_asymm {a b : En} (h : less a b = true) : less b a = false := by
  cases h2 : less b a
  · rfl
  · have := less_trans h h2
    rw [less_irrefl] at this; cases this
/-- Neither ahead: one key and number. -/
theorem tri {a b : En} (h1 : less a b = false) (h2 : less b a = false) : a.key = b.key ∧ a.seq = b.seq := ahead_tri rfl rfl h1 h2
theorem less_congr_l {a b c : En} (h : a.key = b.key ∧ a.seq = b.seq) : less a c = less b c := by unfold less En.ahead; rw [h.1, h.2]
theorem less_congr_r {a b c : En} (h : a.key = b.key ∧ a.seq = b.seq) : less c a = less c b := by unfold less; rw [h.1, h.2]
/-- Not behind. -/
def le (a b : En) : Bool := !less b a
theorem le_iff {a b : En} : le a b = true ↔ less b a = false := by unfold le; simp
theorem le_trans {a b c : En} (h1 : le a b = true) (h2 : le b c = true) : le a c = true := by
  rw [le_iff] at *
  cases h3 : less c a
  · rfl
  · cases h4 : less a b
    · rw [less_congr_r (tri h4 h1)] at h3
      rw [h3] at h2; cases h2
    · rw [less_trans h3 h4] at h2; cases h2
theorem le_of_less {a b : En} (h : less a b = true) : le a b = true := le_iff.2 (less_asymm h)
theorem lt_of_lt_le {a b c : En} (h1 : less a b = true) (h2 : le b c = true) : less a c = true := by
  rw [le_iff] at h2
  cases h4 : less b c
  · rw [← less_congr_r (tri h4 h2)]; exact h1
  · exact less_trans h1 h4
theorem lt_of_le_lt {a b c : En} (h1 : le a b = true) (h2 : less b c = true) : less a c = true := by
  rw [le_iff] at h1
  cases h4 : less a b
  · rw [less_congr_l (tri h4 h1)]; exact h2
  · exact less_trans h4 h2
theorem le_refl (a : En) : le a a = true := le_iff.2 (less_irrefl a)

/-- A list in order is told by the first of each key and number. -/
theorem unique : ∀ {a b : List En}, Sorted a → Sorted b → Alike a b → a = b
  | [], [], _, _, _ => rfl
  | [], y :: b, _, _, h => by have := h y.key y.seq; rw [fst_nil, fst_cons, if_pos (hit_self y)] at this; cases this
  | x :: a, [], _, _, h => by have := h x.key x.seq; rw [fst_nil, fst_cons, if_pos (hit_self x)] at this; cases this
  | x :: a, y :: b, ha, hb, h => by
    unfold Sorted at ha hb
    rw [List.pairwise_cons] at ha hb
    have h1 : less x y = false := by
      cases h2 : less x y
      · rfl
      · have h3 := h x.key x.seq
        rw [fst_cons, if_pos (hit_self x), fst_cons, if_neg (by rw [less_not_hit h2]; simp), fst_none (fun e he => less_not_hit (less_trans h2 (hb.1 e he)))] at h3
        cases h3
    have h2 : less y x = false := by
      cases h2 : less y x
      · rfl
      · have h3 := h y.key y.seq
        rw [fst_cons, fst_cons, if_pos (hit_self y), if_neg (by rw [less_not_hit h2]; simp), fst_none (fun e he => less_not_hit (less_trans h2 (ha.1 e he)))] at h3
        cases h3
    obtain ⟨hk, hs⟩ := tri h1 h2
    have h3 := h x.key x.seq
    rw [fst_cons, if_pos (hit_self x), fst_cons, if_pos (hit_iff.2 ⟨hk.symm, hs.symm⟩)] at h3
    injection h3 with h3
    subst h3
    congr 1
    refine unique ha.2 hb.2 fun k s => ?_
    by_cases h4 : hit k s x = true
    · obtain ⟨rfl, rfl⟩ := hit_iff.1 h4
      rw [fst_none (fun e he => less_not_hit (ha.1 e he)), fst_none (fun e he => less_not_hit (hb.1 e he))]
    · have h5 := h k s
      rw [fst_cons, if_neg h4, fst_cons, if_neg h4] at h5
      exact h5

/-- A version put into its place, if there is none of its key and number. -/
def ins (l : List En) (x : En) : List En := if l.any (hit x.key x.seq) then l else pre l x.key x.seq ++ x :: post l x.key x.seq
theorem pre_sub (l : List En) (k : ByteArray) (s : Int) : ∀ e ∈ pre l k s, e ∈ l := fun e he => by rw [← pre_post l k s]; exact List.mem_append_left _ he
theorem post_sub (l : List En) (k : ByteArray) (s : Int) : ∀ e ∈ post l k s, e ∈ l := fun e he => by rw [← pre_post l k s]; exact List.mem_append_right _ he
theorem ins_sorted {l : List En} {x : En} (h : Sorted l) : Sorted (ins l x) := by
  unfold ins
  split
  · exact h
  · rename_i hn
    have hn' : ∀ e ∈ l, hit x.key x.seq e = false := by simpa using hn
    have h0 := h
    rw [← pre_post l x.key x.seq] at h0
    obtain ⟨h1, h2, h3⟩ := Sorted.append h0
    have hpost : ∀ e ∈ post l x.key x.seq, less x e = true := fun e he => less_of_not (post_not h e he) (fun h4 => by
      have := hn' e (post_sub _ _ _ e he); rw [hit_iff.2 h4] at this; cases this)
    refine List.pairwise_append.2 ⟨h1, List.pairwise_cons.2 ⟨hpost, h2⟩, fun a ha b hb => ?_⟩
    rcases List.mem_cons.1 hb with rfl | hb
    · exact pre_ahead a ha
    · exact h3 a ha b hb
theorem ins_fst {l : List En} {x : En} (h : Sorted l) (k : ByteArray) (s : Int) : fst k s (ins l x) = (fst k s l).or (fst k s [x]) := by
  unfold ins
  split
  · rename_i hn
    obtain ⟨e, he, h1⟩ := List.any_eq_true.1 hn
    by_cases h2 : hit k s x = true
    · obtain ⟨rfl, rfl⟩ := hit_iff.1 h2
      obtain ⟨f, hf⟩ := fst_some he h1
      rw [hf]; rfl
    · rw [fst_cons, if_neg h2, fst_nil]; simp
  · rename_i hn
    have hn' : ∀ e ∈ l, hit x.key x.seq e = false := by simpa using hn
    have h0 : fst k s l = (fst k s (pre l x.key x.seq)).or (fst k s (post l x.key x.seq)) := by rw [← fst_append, pre_post]
    rw [fst_append, fst_cons, h0, fst_cons, fst_nil]
    by_cases h2 : hit k s x = true
    · obtain ⟨rfl, rfl⟩ := hit_iff.1 h2
      rw [if_pos h2, if_pos h2, fst_none (fun e he => hn' e (pre_sub _ _ _ e he)), fst_none (fun e he => hn' e (post_sub _ _ _ e he))]; rfl
    · rw [if_neg h2, if_neg h2]; simp
theorem ins_mem {l : List En} {x e : En} (h : e ∈ ins l x) : e ∈ l ∨ e = x := by
  unfold ins at h
  split at h
  · exact .inl h
  · rcases List.mem_append.1 h with h | h
    · exact .inl (pre_sub _ _ _ e h)
    · rcases List.mem_cons.1 h with h | h
      · exact .inr h
      · exact .inl (post_sub _ _ _ e h)
theorem ins_len (l : List En) (x : En) : (ins l x).length ≤ l.length + 1 := by
  unfold ins
  split
  · omega
  · have := congrArg List.length (pre_post l x.key x.seq)
    simp only [List.length_append, List.length_cons] at this ⊢; omega
/-- All versions in order, of several of one key and number the first. -/
def merged (all : List En) : List En := all.foldl ins []
theorem fold_ins : ∀ (all : List En) {l : List En}, Sorted l → Sorted (all.foldl ins l) ∧ (∀ k s, fst k s (all.foldl ins l) = (fst k s l).or (fst k s all)) ∧ (∀ e ∈ all.foldl ins l, e ∈ l ∨ e ∈ all) ∧ (all.foldl ins l).length ≤ l.length + all.length
  | [], l, h => ⟨h, fun k s => by simp [fst], fun e he => .inl he, by simp⟩
  | x :: all, l, h => by
    obtain ⟨h1, h2, h3, h4⟩ := fold_ins all (ins_sorted (x := x) h)
    refine ⟨h1, fun k s => ?_, fun e he => ?_, ?_⟩
    · rw [List.foldl_cons, h2, ins_fst h, Option.or_assoc, ← fst_append]; rfl
    · rcases h3 e he with h5 | h5
      · rcases ins_mem h5 with h6 | h6
        · exact .inl h6
        · exact .inr (by rw [h6]; exact List.mem_cons_self)
      · exact .inr (List.mem_cons_of_mem _ h5)
    · have := ins_len l x
      rw [List.foldl_cons, List.length_cons]; omega
theorem merged_sorted (all : List En) : Sorted (merged all) := (fold_ins all List.Pairwise.nil).1
theorem merged_alike (all : List En) : Alike (merged all) all := fun k s => by
  have := (fold_ins all (l := []) List.Pairwise.nil).2.1 k s
  rw [fst_nil] at this; simpa [merged] using this
theorem merged_sub (all : List En) : ∀ e ∈ merged all, e ∈ all := fun e he => by
  rcases (fold_ins all (l := []) List.Pairwise.nil).2.2.1 e he with h | h
  · cases h
  · exact h
theorem merged_len (all : List En) : (merged all).length ≤ all.length := by
  have := (fold_ins all (l := []) List.Pairwise.nil).2.2.2
  simpa [merged] using this
theorem merged_of {l all : List En} (h : Sorted l) (h' : Alike l all) : l = merged all := unique h (merged_sorted all) (h'.trans (merged_alike all).symm)
theorem merged_self {l : List En} (h : Sorted l) : merged l = l := (merged_of h (Alike.refl l)).symm
theorem merged_congr {a b : List En} (h : Alike a b) : merged a = merged b := merged_of (merged_sorted a) ((merged_alike a).trans h)
theorem merged_left (a b : List En) : merged (merged a ++ b) = merged (a ++ b) := merged_congr ((merged_alike a).append (Alike.refl b))
theorem merged_right (a b : List En) : merged (a ++ merged b) = merged (a ++ b) := merged_congr ((Alike.refl a).append (merged_alike b))
theorem merged_twice (a : List En) : merged (a ++ a) = merged a := merged_congr fun k s => by rw [fst_append]; cases fst k s a <;> rfl

/-- In order, one key and number perhaps several times. -/
def WS (l : List En) : Prop := l.Pairwise fun a b => le a b = true
/-- A permutation that keeps, of each key and number, the first one first. -/
def Stab (a b : List En) : Prop := b.Perm a ∧ Alike a b
theorem Stab.refl (a : List En) : Stab a a := ⟨List.Perm.refl _, Alike.refl a⟩
theorem Stab.trans {a b c : List En} (h : Stab a b) (h' : Stab b c) : Stab a c := ⟨h'.1.trans h.1, h.2.trans h'.2⟩
theorem Stab.append {a b c d : List En} (h : Stab a b) (h' : Stab c d) : Stab (a ++ c) (b ++ d) := ⟨h.1.append h'.1, h.2.append h'.2⟩
theorem Stab.mid {x y : List En} (a b : List En) (h : Stab x y) : Stab (a ++ x ++ b) (a ++ y ++ b) := ((Stab.refl a).append h).append (Stab.refl b)
theorem Stab.len {a b : List En} (h : Stab a b) : b.length = a.length := h.1.length_eq
/-- Two neighbouring lists change places, all of the second ahead of all of the first. -/
theorem Stab.rot {u v : List En} (h : ∀ x ∈ u, ∀ y ∈ v, less y x = true) : Stab (u ++ v) (v ++ u) := by
  refine ⟨List.perm_append_comm, fun k s => ?_⟩
  rw [fst_append, fst_append]
  cases h1 : fst k s u with
  | none => simp
  | some x =>
    cases h2 : fst k s v with
    | none => simp
    | some y =>
      exfalso
      obtain ⟨m1, i1⟩ := fst_mem h1
      obtain ⟨m2, i2⟩ := fst_mem h2
      have h3 := less_not_hit (h x m1 y m2)
      obtain ⟨rfl, rfl⟩ := hit_iff.1 i2
      rw [i1] at h3; cases h3

/-- Does place i bear what place i - 1 doesn't? -/
def news (xs : List En) (i : Nat) : Bool := decide (i = 0) || !hit (xs.getD (i - 1) En.zero).key (xs.getD (i - 1) En.zero).seq (xs.getD i En.zero)
def thin (xs : List En) : Nat → List En
  | 0 => []
  | n + 1 => thin xs n ++ if news xs n then [xs.getD n En.zero] else []
theorem take_next {xs : List En} {n : Nat} (h : n < xs.length) : xs.take (n + 1) = xs.take n ++ [xs.getD n En.zero] := by
  rw [List.take_add_one, List.getElem?_eq_getElem h, List.getD_eq_getElem?_getD, List.getElem?_eq_getElem h]; rfl
theorem thin_len (xs : List En) : ∀ n, (thin xs n).length ≤ n
  | 0 => by simp [thin]
  | n + 1 => by
    have := thin_len xs n
    unfold thin
    rw [List.length_append]
    split <;> simp <;> omega
theorem thin_spec {xs : List En} (hw : WS xs) : ∀ n, n ≤ xs.length → Sorted (thin xs n) ∧ Alike (thin xs n) (xs.take n) ∧ ∀ e ∈ thin xs n, e ∈ xs.take n
  | 0, _ => ⟨List.Pairwise.nil, by simp [thin]; exact Alike.refl _, by simp [thin]⟩
  | n + 1, hn => by
    obtain ⟨h1, h2, h3⟩ := thin_spec hw n (by omega)
    have hg : xs.getD n En.zero = xs[n] := by rw [List.getD_eq_getElem?_getD, List.getElem?_eq_getElem (by omega)]; rfl
    have ht : xs.take (n + 1) = xs.take n ++ [xs.getD n En.zero] := take_next (by omega)
    have hle : ∀ e ∈ xs.take n, le e (xs.getD n En.zero) = true := fun e he => by
      have hp : WS (xs.take (n + 1)) := hw.sublist (List.take_sublist _ _)
      rw [ht] at hp
      exact (List.pairwise_append.1 hp).2.2 e he _ List.mem_cons_self
    unfold thin
    rw [ht]
    split
    · rename_i hnew
      have hlt : ∀ e ∈ xs.take n, less e (xs.getD n En.zero) = true := fun e he => by
        have hn0 : n ≠ 0 := by rintro rfl; simp at he
        have hg' : xs.getD (n - 1) En.zero = xs[n - 1] := by rw [List.getD_eq_getElem?_getD, List.getElem?_eq_getElem (by omega)]; rfl
        have hl1 : less (xs.getD (n - 1) En.zero) (xs.getD n En.zero) = true := by
          have hm : xs.getD (n - 1) En.zero ∈ xs.take n := by
            rw [hg', List.mem_take_iff_getElem]
            exact ⟨n - 1, by omega, rfl⟩
          have h4 := le_iff.1 (hle _ hm)
          cases h5 : less (xs.getD (n - 1) En.zero) (xs.getD n En.zero)
          · obtain ⟨h6, h7⟩ := tri h5 h4
            unfold news at hnew
            rw [hit_iff.2 ⟨h6.symm, h7.symm⟩] at hnew
            simp [hn0] at hnew
          · rfl
        have hl0 : le e (xs.getD (n - 1) En.zero) = true := by
          have ht' : xs.take n = xs.take (n - 1) ++ [xs.getD (n - 1) En.zero] := by
            have hz : n - 1 + 1 = n := by omega
            have := take_next (xs := xs) (n := n - 1) (by omega)
            rwa [hz] at this
          rw [ht'] at he
          rcases List.mem_append.1 he with he | he
          · have hp : WS (xs.take n) := hw.sublist (List.take_sublist _ _)
            rw [ht'] at hp
            exact (List.pairwise_append.1 hp).2.2 e he _ List.mem_cons_self
          · rw [List.mem_singleton.1 he]; exact le_refl _
        exact lt_of_le_lt hl0 hl1
      refine ⟨List.pairwise_append.2 ⟨h1, List.pairwise_singleton _ _, fun a ha b hb => ?_⟩, h2.append (Alike.refl _), fun e he => ?_⟩
      · rw [List.mem_singleton.1 hb]; exact hlt a (h3 a ha)
      · rcases List.mem_append.1 he with he | he
        · exact List.mem_append_left _ (h3 e he)
        · exact List.mem_append_right _ he
    · rename_i hnew
      rw [List.append_nil]
      refine ⟨h1, h2.trans fun k s => ?_, fun e he => List.mem_append_left _ (h3 e he)⟩
      unfold news at hnew
      have hn0 : n ≠ 0 := by rintro rfl; simp at hnew
      have hh : hit (xs.getD (n - 1) En.zero).key (xs.getD (n - 1) En.zero).seq (xs.getD n En.zero) = true := by
        cases h : hit (xs.getD (n - 1) En.zero).key (xs.getD (n - 1) En.zero).seq (xs.getD n En.zero)
        · rw [h] at hnew; simp at hnew
        · rfl
      rw [fst_append]
      by_cases h4 : hit k s (xs.getD n En.zero) = true
      · obtain ⟨h5, h6⟩ := hit_iff.1 h4
        obtain ⟨h7, h8⟩ := hit_iff.1 hh
        have hg' : xs.getD (n - 1) En.zero = xs[n - 1] := by rw [List.getD_eq_getElem?_getD, List.getElem?_eq_getElem (by omega)]; rfl
        have hm : xs.getD (n - 1) En.zero ∈ xs.take n := by
          rw [hg', List.mem_take_iff_getElem]
          exact ⟨n - 1, by omega, rfl⟩
        obtain ⟨f, hf⟩ := fst_some hm (k := k) (s := s) (hit_iff.2 ⟨h7.symm.trans h5, h8.symm.trans h6⟩)
        rw [hf]; rfl
      · rw [fst_cons, if_neg h4, fst_nil]; simp
theorem thin_merged {xs all : List En} (hw : WS xs) (h : Alike xs all) : thin xs xs.length = merged all := by
  obtain ⟨h1, h2, _⟩ := thin_spec hw xs.length (Nat.le_refl _)
  rw [List.take_length] at h2
  exact merged_of h1 (h2.trans h)
end Go.Proofs.Ytdaibmafnamfgaa.Mg
