/-
  Layer 11, plainly: files by their numbers, as the program keeps them; the reference's list, put in order one by one.
-/
import Derived.Test.YtjfanbemihheiaaDoorQManMath
namespace Go.Proofs.YtjfanbemihheiaaDoor.Ma
set_option linter.unusedVariables false

/-- The files of one number. -/
def grp (l : List Fi) (n : Int) : List Fi := l.filter fun f => f.2 == n
theorem grp_nil (n : Int) : grp [] n = [] := rfl
theorem grp_append (l m : List Fi) (n : Int) : grp (l ++ m) n = grp l n ++ grp m n := List.filter_append ..
theorem grp_snoc (l : List Fi) (f : Fi) (n : Int) : grp (l ++ [f]) n = if n = f.2 then grp l n ++ [f] else grp l n := by
  rw [grp_append]
  by_cases h : n = f.2
  · subst h; rw [if_pos rfl]; simp [grp]
  · rw [if_neg h]
    have : grp [f] n = [] := by simp [grp]; omega
    rw [this, List.append_nil]
theorem grp_has (l : List Fi) (n : Int) : hasN l n = decide (0 < (grp l n).length) := by
  rw [Bool.eq_iff_iff, hasN_true, decide_eq_true_eq, List.length_pos_iff_exists_mem]
  unfold grp
  simp only [List.mem_filter, beq_iff_eq]
theorem grp_le (l : List Fi) (n : Int) : (grp l n).length ≤ l.length := List.length_filter_le ..
def drop1 (l : List Fi) (n : Int) : List Fi := l.filter fun f => !(f.2 == n)
theorem grp_drop1 (l : List Fi) (n m : Int) : grp (drop1 l n) m = if m = n then [] else grp l m := by
  unfold grp drop1
  rw [List.filter_filter]
  by_cases h : m = n
  · subst h; rw [if_pos rfl]; apply List.filter_eq_nil_iff.2; intro f _; simp
  · rw [if_neg h]
    apply List.filter_congr
    intro f _
    by_cases hf : f.2 = m
    · subst hf; simp [h]
    · simp [hf]
theorem stay_nil (l : List Fi) : stay l [] = l := by unfold stay; simp
theorem stay_snoc (l : List Fi) (d : List Int) (n : Int) : stay l (d ++ [n]) = drop1 (stay l d) n := by
  unfold stay drop1
  rw [List.filter_filter]
  apply List.filter_congr
  intro f _
  rw [Bool.eq_iff_iff]
  simp
  exact ⟨fun h => ⟨h.2, h.1⟩, fun h => ⟨h.2, h.1⟩⟩
theorem drop1_len (l : List Fi) (n : Int) : (drop1 l n).length ≤ l.length := List.length_filter_le ..
theorem stay_len (l : List Fi) (d : List Int) : (stay l d).length ≤ l.length := List.length_filter_le ..
/-- All groups together are all files. -/
theorem groups_perm : ∀ (ks : List Int) (l : List Fi), ks.Nodup → (∀ f ∈ l, f.2 ∈ ks) → (ks.flatMap (grp l)).Perm l
  | [], l, _, h => by
    have : l = [] := by
      cases l with
      | nil => rfl
      | cons f l => exact absurd (h f (by simp)) (by simp)
    subst this; exact .refl _
  | k :: ks, l, hn, h => by
    rw [List.flatMap_cons]
    obtain ⟨hk, hn⟩ := List.nodup_cons.1 hn
    have h1 : ks.flatMap (grp l) = ks.flatMap (grp (drop1 l k)) := by
      rw [List.flatMap_def, List.flatMap_def]
      congr 1
      apply List.map_congr_left
      intro m hm
      rw [grp_drop1, if_neg (by rintro rfl; exact hk hm)]
    have h2 := groups_perm ks (drop1 l k) hn fun f hf => by
      unfold drop1 at hf
      rw [List.mem_filter] at hf
      rcases List.mem_cons.1 (h f hf.1) with e | e
      · have := hf.2; rw [e] at this; simp at this
      · exact e
    rw [h1]
    exact (h2.append_left _).trans (List.filter_append_perm _ l)

/-! ### The reference's list -/
theorem put_srt {l : List Fi} {f : Fi} {k : Nat} (hs : l.Pairwise fun a b => leF a b = true) (hk : k ≤ l.length) (hb : ∀ j, k ≤ j → (h : j < l.length) → leF l[j] f = false) (ha : ∀ h : k - 1 < l.length, 0 < k → leF l[k - 1] f = true) :
    l.take k ++ (f :: l.drop k) = srt (l ++ [f]) := by
  refine srt_unique ?_ ?_
  · have h1 := List.pairwise_append.1 (show (l.take k ++ l.drop k).Pairwise _ by rw [List.take_append_drop]; exact hs)
    have h3 : ∀ a ∈ l.take k, leF a f = true := by
      intro a ham
      by_cases h0 : k = 0
      · subst h0; simp at ham
      · have hlt : k - 1 < l.length := by omega
        have h2 := ha hlt (by omega)
        obtain ⟨i, hi, rfl⟩ := List.getElem_of_mem ham
        rw [List.length_take] at hi
        rw [List.getElem_take]
        by_cases hik : i = k - 1
        · subst hik; exact h2
        · exact leF_trans _ _ _ (List.pairwise_iff_getElem.1 hs i (k - 1) (by omega) hlt (by omega)) h2
    have h4 : ∀ b ∈ l.drop k, leF f b = true := by
      intro b hbm
      obtain ⟨i, hi, rfl⟩ := List.getElem_of_mem hbm
      rw [List.length_drop] at hi
      rw [List.getElem_drop]
      have := hb (k + i) (by omega) (by omega)
      have ht := leF_total l[k + i] f
      rw [this] at ht
      simpa using ht
    refine List.pairwise_append.2 ⟨h1.1, List.pairwise_cons.2 ⟨h4, h1.2.1⟩, fun a ham b hbm => ?_⟩
    rcases List.mem_cons.1 hbm with rfl | hbm
    · exact h3 a ham
    · exact h1.2.2 a ham b hbm
  · refine List.perm_middle.trans ?_
    rw [List.take_append_drop]
    exact (List.perm_append_singleton f l).symm
theorem srt_snoc (l : List Fi) (f : Fi) : srt (srt l ++ [f]) = srt (l ++ [f]) := srt_of_perm ((srt_perm l).append_right _)
theorem mem_once {d : List Int} : (∀ n ∈ d, d.count n = 1) ↔ d.Nodup := by
  rw [List.nodup_iff_count]
  constructor
  · intro h a
    by_cases ha : a ∈ d
    · rw [h a ha]; exact Nat.le_refl _
    · rw [List.count_eq_zero.2 ha]; omega
  · intro h n hn
    have h1 := h n
    have h2 := List.count_pos_iff.2 hn
    omega
theorem once_mem {d : List Int} (h : d.Nodup) (n : Int) : decide (d.count n = 1) = d.contains n := by
  rw [Bool.eq_iff_iff, decide_eq_true_eq, List.contains_iff_mem]
  constructor
  · intro h1; exact List.count_pos_iff.1 (by omega)
  · intro h1; exact (mem_once.2 h) n h1
/-- The files that come, one by one. -/
def comesTo (v : Ve) (e : Ed) (i : Nat) : Prop := (∀ f ∈ e.add.take i, f.2 < e.next ∧ (hasN v.files f.2 && !e.del.contains f.2) = false) ∧ ((e.add.take i).map (·.2)).Nodup
theorem comesTo_zero (v : Ve) (e : Ed) : comesTo v e 0 := ⟨fun f h => (by simp at h), by simp⟩
theorem comesTo_all {v : Ve} {e : Ed} : comes v e = true ↔ comesTo v e e.add.length := by
  unfold comes comesTo
  rw [List.take_length]
  simp only [Bool.and_eq_true, List.all_eq_true, decide_eq_true_eq, Bool.not_eq_true']
theorem comesTo_less {v : Ve} {e : Ed} {i j : Nat} (h : comesTo v e i) (hj : j ≤ i) : comesTo v e j := by
  have : e.add.take j = (e.add.take i).take j := by rw [List.take_take, Nat.min_eq_left hj]
  unfold comesTo
  rw [this]
  exact ⟨fun f hf => h.1 f (List.mem_of_mem_take hf), (List.Sublist.map _ (List.take_sublist _ _)).nodup h.2⟩
theorem comesTo_next {v : Ve} {e : Ed} {i : Nat} (hi : i < e.add.length) : comesTo v e (i + 1) ↔ comesTo v e i ∧ e.add[i].2 < e.next ∧ hasN (stay v.files e.del ++ e.add.take i) e.add[i].2 = false := by
  have ht : e.add.take (i + 1) = e.add.take i ++ [e.add[i]] := List.take_succ_eq_append_getElem hi
  have hh : hasN (stay v.files e.del ++ e.add.take i) e.add[i].2 = ((hasN v.files e.add[i].2 && !e.del.contains e.add[i].2) || hasN (e.add.take i) e.add[i].2) := by
    rw [← hasN_stay]; unfold hasN; rw [List.any_append]
  rw [hh, Bool.or_eq_false_iff]
  unfold comesTo
  rw [ht]
  constructor
  · rintro ⟨h1, h2⟩
    have h3 := h1 e.add[i] (List.mem_append_right _ (List.mem_singleton.2 rfl))
    rw [List.map_append, List.nodup_append] at h2
    refine ⟨⟨fun f hf => h1 f (List.mem_append_left _ hf), h2.1⟩, h3.1, h3.2, ?_⟩
    cases hc : hasN (e.add.take i) e.add[i].2 with
    | false => rfl
    | true =>
      obtain ⟨f, hf, hfe⟩ := hasN_true.1 hc
      exact absurd hfe (h2.2.2 f.2 (List.mem_map.2 ⟨f, hf, rfl⟩) e.add[i].2 (by simp))
  · rintro ⟨⟨h1, h2⟩, h3, h4, h5⟩
    refine ⟨fun f hf => ?_, ?_⟩
    · rcases List.mem_append.1 hf with hf | hf
      · exact h1 f hf
      · obtain rfl : f = e.add[i] := by simpa using hf
        exact ⟨h3, h4⟩
    · rw [List.map_append, List.nodup_append]
      refine ⟨h2, by simp, fun a ha b hb => ?_⟩
      obtain ⟨f, hf, rfl⟩ := List.mem_map.1 ha
      obtain rfl : b = e.add[i].2 := by simpa using hb
      intro he
      have := hasN_true.2 ⟨f, hf, he⟩
      rw [h5] at this; cases this
end Go.Proofs.YtjfanbemihheiaaDoor.Ma
