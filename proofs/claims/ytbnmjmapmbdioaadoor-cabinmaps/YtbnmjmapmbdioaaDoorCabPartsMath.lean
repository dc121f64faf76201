/-
  Package cabin, plainly: the blocks have just their seats; at most two seats are near one.
-/
import Derived.Test.YtbnmjmapmbdioaaDoorCabRefNear
namespace Go.Proofs.YtbnmjmapmbdioaaDoor.Cb
open Cm
set_option linter.unusedVariables false

/-- What the blocks bs are of the spots tk. -/
structure Good (tk : List Sp) (bs : List Bk) : Prop where
  rng : ∀ s ∈ tk, 0 ≤ s.blk ∧ s.blk < bs.length
  info : ∀ s ∈ tk, (bs.getD s.blk.toNat Bk.zero).cab = s.cab ∧ (bs.getD s.blk.toNat Bk.zero).row = s.num ∧ (bs.getD s.blk.toNat Bk.zero).exit = s.exit
  seats : ∀ k : Nat, k < bs.length → (bs.getD k Bk.zero).seats = (tk.filter fun s => decide (s.blk = (k : Int)) && !s.bld).map Sp.seat
  sum : (bs.map fun b => b.seats.length).sum = (tk.filter fun s => !s.bld).length
theorem getD_app {α : Type} (l : List α) (y d : α) (i : Nat) : (l ++ [y]).getD i d = if i = l.length then y else l.getD i d := by
  simp only [List.getD_eq_getElem?_getD, List.getElem?_append]
  split
  · next h => rw [if_neg (by omega)]
  · next h =>
    by_cases e : i = l.length
    · rw [if_pos e, e, Nat.sub_self]; rfl
    · rw [if_neg e, List.getElem?_eq_none (by simp; omega), List.getElem?_eq_none (by omega)]
theorem sum_set (l : List Bk) (k : Nat) (y : Bk) (hk : k < l.length) (h : y.seats.length = (l.getD k Bk.zero).seats.length + 1) : ((l.set k y).map fun b => b.seats.length).sum = (l.map fun b => b.seats.length).sum + 1 := by
  induction l generalizing k with
  | nil => simp at hk
  | cons b t ih =>
    cases k with
    | zero => simp at h ⊢; omega
    | succ k =>
      have := ih k (by simpa using hk) (by simpa using h)
      simp only [List.set_cons_succ, List.map_cons, List.sum_cons, this]; omega
/-- The blocks opened for one spot more, before its seat is put. -/
theorem good_open {tk : List Sp} {bs : List Bk} {s : Sp} {c u : Int} {x : Bool} (g : Good tk bs) (hs : s.blk = (bs.length : Int) ∨ (s.blk + 1 = (bs.length : Int) ∧ s.cab = c ∧ s.num = u ∧ s.exit = x)) (h0 : 0 ≤ s.blk)
    (hl : bs ≠ [] → (bs.getD (bs.length - 1) Bk.zero).cab = c ∧ (bs.getD (bs.length - 1) Bk.zero).row = u ∧ (bs.getD (bs.length - 1) Bk.zero).exit = x) :
    Good tk (opened bs s) ∧ (opened bs s).length = s.blk.toNat + 1 ∧ ((opened bs s).getD s.blk.toNat Bk.zero).cab = s.cab ∧ ((opened bs s).getD s.blk.toNat Bk.zero).row = s.num ∧ ((opened bs s).getD s.blk.toNat Bk.zero).exit = s.exit := by
  rcases hs with hs | ⟨hs, h1, h2, h3⟩
  · rw [opened_new hs]
    have hn : s.blk.toNat = bs.length := by omega
    refine ⟨⟨fun t ht => ?_, fun t ht => ?_, fun k hk => ?_, ?_⟩, ?_⟩
    · have := g.rng t ht
      rw [List.length_append, List.length_singleton]; omega
    · have := g.rng t ht
      rw [getD_app, if_neg (by omega)]
      exact g.info t ht
    · rw [getD_app]
      by_cases hk' : k = bs.length
      · rw [if_pos hk']
        have : (tk.filter fun s => decide (s.blk = (k : Int)) && !s.bld) = [] := by
          rw [List.filter_eq_nil_iff]
          intro t ht
          have := (g.rng t ht).2
          simp
          omega
        rw [this]; rfl
      · rw [if_neg hk']
        rw [List.length_append, List.length_singleton] at hk
        exact g.seats k (by omega)
    · rw [List.map_append, List.sum_append, g.sum]; simp
    · rw [hn, getD_app, if_pos rfl]
      exact ⟨by simp, rfl, rfl, rfl⟩
  · rw [opened_old (by omega)]
    have hne : bs ≠ [] := by rintro rfl; simp at hs; omega
    obtain ⟨q1, q2, q3⟩ := hl hne
    have hn : s.blk.toNat = bs.length - 1 := by omega
    have hpos : 0 < bs.length := by cases bs with | nil => exact absurd rfl hne | cons _ _ => simp
    rw [hn, q1, q2, q3, h1, h2, h3]
    exact ⟨g, by omega, rfl, rfl, rfl⟩
theorem good_step {tk : List Sp} {bs : List Bk} {s : Sp} (h0 : 0 ≤ s.blk) (g : Good tk (opened bs s)) (hl : (opened bs s).length = s.blk.toNat + 1) (hi : ((opened bs s).getD s.blk.toNat Bk.zero).cab = s.cab ∧ ((opened bs s).getD s.blk.toNat Bk.zero).row = s.num ∧ ((opened bs s).getD s.blk.toNat Bk.zero).exit = s.exit) :
    Good (tk ++ [s]) (step bs s) ∧ (step bs s).length = s.blk.toNat + 1 ∧ ((step bs s).getD ((step bs s).length - 1) Bk.zero).cab = s.cab ∧ ((step bs s).getD ((step bs s).length - 1) Bk.zero).row = s.num ∧ ((step bs s).getD ((step bs s).length - 1) Bk.zero).exit = s.exit := by
  cases hb : s.bld with
  | true =>
    rw [step_bld hb, hl, Nat.add_sub_cancel]
    refine ⟨⟨fun t ht => ?_, fun t ht => ?_, fun k hk => ?_, ?_⟩, rfl, hi⟩
    · rcases List.mem_append.1 ht with ht | ht
      · exact g.rng t ht
      · simp at ht; subst ht; rw [hl]; omega
    · rcases List.mem_append.1 ht with ht | ht
      · exact g.info t ht
      · simp at ht; subst ht; exact hi
    · rw [g.seats k hk, List.filter_append]
      simp [hb]
    · rw [g.sum, List.filter_append]
      simp [hb]
  | false =>
    have hk0 : s.blk = (s.blk.toNat : Int) := by omega
    have hkl : s.blk.toNat < (opened bs s).length := by omega
    rw [step_free hb hk0 hkl, List.length_set, hl, Nat.add_sub_cancel]
    have hset : ∀ i, ((opened bs s).set s.blk.toNat (((opened bs s).getD s.blk.toNat Bk.zero).add s.seat)).getD i Bk.zero = if i = s.blk.toNat then ((opened bs s).getD s.blk.toNat Bk.zero).add s.seat else (opened bs s).getD i Bk.zero := fun i => getD_set _ _ _ _ _ hkl
    refine ⟨⟨fun t ht => ?_, fun t ht => ?_, fun k hk => ?_, ?_⟩, rfl, ?_⟩
    · rw [List.length_set]
      rcases List.mem_append.1 ht with ht | ht
      · exact g.rng t ht
      · simp at ht; subst ht; rw [hl]; omega
    · rw [hset]
      rcases List.mem_append.1 ht with ht | ht
      · split
        · next e =>
          have := g.info t ht
          rw [e] at this
          exact this
        · exact g.info t ht
      · simp at ht; subst ht; rw [if_pos rfl]; exact hi
    · rw [hset]
      rw [List.length_set] at hk
      rw [List.filter_append, List.map_append]
      by_cases hks : k = s.blk.toNat
      · rw [if_pos hks]
        have : s.blk = (k : Int) := by omega
        rw [← g.seats k hk, hks]
        simp only [Bk.add]
        simp [hb, ← hk0]
      · rw [if_neg hks, g.seats k hk]
        have : ¬ s.blk = (k : Int) := by omega
        simp [this]
    · rw [sum_set _ _ _ hkl (by simp [Bk.add]), g.sum, List.filter_append]
      simp [hb]
    · rw [hset, if_pos rfl]; exact hi
theorem good_fold {tk L : List Sp} {bs : List Bk} {c u : Int} {x : Bool} (g : Good tk bs) (hc : Ch bs.length c u x L)
    (hl : bs ≠ [] → (bs.getD (bs.length - 1) Bk.zero).cab = c ∧ (bs.getD (bs.length - 1) Bk.zero).row = u ∧ (bs.getD (bs.length - 1) Bk.zero).exit = x) : Good (tk ++ L) (L.foldl step bs) := by
  induction L generalizing tk bs c u x with
  | nil => simpa using g
  | cons s t ih =>
    obtain ⟨h1, h2, h3⟩ := hc
    obtain ⟨a1, a2, a3⟩ := good_open g h1 h2 hl
    obtain ⟨b1, b2, b3⟩ := good_step h2 a1 a2 a3
    rw [List.foldl_cons, show tk ++ s :: t = (tk ++ [s]) ++ t by simp]
    refine ih b1 ?_ (fun _ => b3)
    have : (step bs s).length = if s.blk = (bs.length : Int) then bs.length + 1 else bs.length := by rw [step_length, opened_length]
    rw [this]; exact h3
theorem good_all (rows : List Rw) : Good (spots rows) (blocksOf (spots rows)) := by
  have := good_fold (tk := []) (bs := []) ⟨fun s hs => by simp at hs, fun s hs => by simp at hs, fun k hk => by simp at hk, rfl⟩ (ch_spots rows) (fun h => absurd rfl h)
  simpa [blocksOf] using this
/-! ### The blocks' numbers never fall -/
theorem ch_mono {m : Nat} {c u : Int} {x : Bool} {L : List Sp} (h : Ch m c u x L) : L.Pairwise (fun a b => a.blk ≤ b.blk) ∧ ∀ s ∈ L, (m : Int) ≤ s.blk + 1 := by
  induction L generalizing m c u x with
  | nil => exact ⟨List.Pairwise.nil, fun s hs => by simp at hs⟩
  | cons s t ih =>
    obtain ⟨h1, h2, h3⟩ := h
    obtain ⟨a1, a2⟩ := ih h3
    refine ⟨List.Pairwise.cons (fun y hy => ?_) a1, fun y hy => ?_⟩
    · have := a2 y hy
      rcases h1 with h1 | h1
      · rw [if_pos h1] at this; omega
      · rw [if_neg (by omega)] at this; omega
    · rcases List.mem_cons.1 hy with rfl | hy
      · omega
      · have := a2 y hy
        split at this <;> omega
theorem blk_mono (rows : List Rw) {i j : Nat} (hij : i < j) (hj : j < (spots rows).length) : ((spots rows).getD i Sp.zero).blk ≤ ((spots rows).getD j Sp.zero).blk := by
  rw [getD_lt _ _ _ hj, getD_lt _ _ _ (by omega)]
  exact (List.pairwise_iff_getElem.1 (ch_mono (ch_spots rows)).1) i j (by omega) hj hij
theorem seat_ne (rows : List Rw) {i j : Nat} (hi : i < (spots rows).length) (hj : j < (spots rows).length) (hij : i ≠ j) : ((spots rows).getD i Sp.zero).seat ≠ ((spots rows).getD j Sp.zero).seat := by
  rw [getD_lt _ _ _ hj, getD_lt _ _ _ hi]
  rcases Nat.lt_or_gt_of_ne hij with h | h
  · exact lessS_ne ((List.pairwise_iff_getElem.1 (rise_spots rows)) i j hi hj h)
  · exact fun e => lessS_ne ((List.pairwise_iff_getElem.1 (rise_spots rows)) j i hj hi h) e.symm
/-- Is the k-th seat of the i-th spot's block there? -/
theorem there_iff (rows : List Rw) {i : Nat} (hi : i < (spots rows).length) : ((spots rows).getD i Sp.zero).seat ∈ ((blocksOf (spots rows)).getD ((spots rows).getD i Sp.zero).blk.toNat Bk.zero).seats ↔ ((spots rows).getD i Sp.zero).bld = false := by
  have g := good_all rows
  have hmem : (spots rows).getD i Sp.zero ∈ spots rows := by rw [getD_lt _ _ _ hi]; exact List.getElem_mem hi
  have hr := g.rng _ hmem
  rw [g.seats _ (by omega)]
  constructor
  · intro h
    obtain ⟨s, hs, he⟩ := List.mem_map.1 h
    obtain ⟨h1, h2⟩ := List.mem_filter.1 hs
    obtain ⟨j, hj, rfl⟩ := List.mem_iff_getElem.1 h1
    have hij : j = i := Classical.byContradiction fun hne => seat_ne rows hj hi hne (by rw [getD_lt _ _ _ hj]; exact he)
    subst hij
    rw [getD_lt _ _ _ hj]
    simp only [Bool.and_eq_true, Bool.not_eq_true'] at h2
    exact h2.2
  · intro h
    refine List.mem_map.2 ⟨_, List.mem_filter.2 ⟨hmem, ?_⟩, rfl⟩
    rw [h]
    simp only [Bool.not_false, Bool.and_true, decide_eq_true_eq]
    omega
/-! ### Near, by places -/
theorem near_at (rows : List Rw) {i j : Nat} (hi : i < (spots rows).length) (hj : j < (spots rows).length) : nearL (spots rows) ((spots rows).getD i Sp.zero).seat ((spots rows).getD j Sp.zero).seat = nearP (spots rows) i j := by
  rw [nearP_is, plc_at (rise_spots rows) hi, plc_at (rise_spots rows) hj]
theorem nearP_cases (sps : List Sp) (i j : Nat) (h : nearP sps i j = true) : (sps.getD j Sp.zero).blk = (sps.getD i Sp.zero).blk ∧ (i + 1 = j ∨ j + 1 = i) ∧ nearP sps j i = true := by
  unfold nearP at h ⊢
  rw [if_neg (by omega)] at h ⊢
  simp only [Int.toNat_natCast] at h ⊢
  by_cases hb : (sps.getD i Sp.zero).blk = (sps.getD j Sp.zero).blk
  · rw [if_neg (fun h => h hb)] at h
    rw [if_neg (fun h => h hb.symm)]
    rcases Bool.or_eq_true_iff.1 h with h | h
    · have := of_decide_eq_true h
      exact ⟨hb.symm, .inl (by omega), by simp; omega⟩
    · have := of_decide_eq_true h
      exact ⟨hb.symm, .inr (by omega), by simp; omega⟩
  · rw [if_pos hb] at h; cases h
theorem found_at (rows : List Rw) {i : Nat} (hi : i < (spots rows).length) : foundL ((spots rows).getD i Sp.zero).seat (spots rows) = some ((spots rows).getD i Sp.zero) := by
  unfold foundL
  rw [plc_at (rise_spots rows) hi, if_neg (by omega), Int.toNat_natCast]
/-- How many were counted up to the j-th, at most. -/
def nearMost (i j : Nat) : Int := (if 1 ≤ i ∧ i ≤ j then 1 else 0) + (if i + 2 ≤ j then 1 else 0)
theorem nearMost_two (i j : Nat) : nearMost i j ≤ 2 := by unfold nearMost; split <;> split <;> omega
theorem nearMost_step (i j : Nat) : nearMost i j ≤ nearMost i (j + 1) := by unfold nearMost; split <;> split <;> split <;> (try split) <;> omega
theorem nearMost_near (i j : Nat) (h : i + 1 = j ∨ j + 1 = i) : nearMost i j + 1 ≤ nearMost i (j + 1) := by unfold nearMost; rcases h with h | h <;> (split <;> split <;> split <;> (try split) <;> omega)
/-- How many of the first i spots aren't blocked. -/
def free (sps : List Sp) (i : Nat) : Nat := ((sps.take i).filter fun s => !s.bld).length
theorem free_le (sps : List Sp) (i : Nat) : free sps i ≤ i := by
  unfold free
  have := List.length_filter_le (fun s : Sp => !s.bld) (sps.take i)
  rw [List.length_take] at this
  omega
theorem free_succ (sps : List Sp) (i : Nat) (h : i < sps.length) : free sps (i + 1) = free sps i + if (sps.getD i Sp.zero).bld = true then 0 else 1 := by
  unfold free
  rw [List.take_succ_eq_append_getElem h, List.filter_append, List.length_append, getD_lt _ _ _ h]
  cases hb : sps[i].bld <;> simp [hb]
theorem free_all (rows : List Rw) : ((blocksOf (spots rows)).map fun b => b.seats.length).sum = free (spots rows) (spots rows).length := by
  unfold free
  rw [List.take_length]; exact (good_all rows).sum
end Go.Proofs.YtbnmjmapmbdioaaDoor.Cb
