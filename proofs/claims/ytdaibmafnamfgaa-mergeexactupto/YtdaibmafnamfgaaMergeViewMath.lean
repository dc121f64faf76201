/-
  What is seen of a list in order at a number, and what may be left out of it: plainly, version by version; group by group; and that what was left out isn't missed.
-/
import Derived.Test.YtdaibmafnamfgaaMergeMath
namespace Go.Proofs.Ytdaibmafnamfgaa.Mg
open Cm Mm
set_option linter.unusedVariables false

theorem less_cases {x y : En} (h : less x y = true) : (x.key = y.key ∧ y.seq < x.seq) ∨ (x.key ≠ y.key ∧ lt x.key y.key = true) := by
  unfold less En.ahead at h
  by_cases hk : x.key = y.key
  · rw [if_pos hk] at h; exact .inl ⟨hk, of_decide_eq_true h⟩
  · rw [if_neg hk] at h; exact .inr ⟨hk, h⟩
theorem squeeze {a b c : En} (h1 : less a b = true) (h2 : less b c = true) (hk : a.key = c.key) : a.key = b.key ∧ b.key = c.key := by
  rcases less_cases h1 with ⟨k1, _⟩ | ⟨k1, l1⟩
  · exact ⟨k1, by rw [← k1, hk]⟩
  · exfalso
    rcases less_cases h2 with ⟨k2, _⟩ | ⟨k2, l2⟩
    · exact k1 (by rw [hk, k2])
    · have := lt_trans l1 l2
      rw [hk, lt_irrefl] at this; cases this

/-! ### What is seen -/
def fresh (last : Option ByteArray) (k : ByteArray) : Bool := match last with
  | none => true
  | some q => decide (q ≠ k)
def vw (n : Int) : Option ByteArray → List En → List En
  | _, [] => []
  | last, x :: l => if decide (x.seq ≤ n) && fresh last x.key then (if x.dead then [] else [x]) ++ vw n (some x.key) l else vw n last l
def view (n : Int) (l : List En) : List En := vw n none l
theorem vw_fresh {n : Int} {a b : Option ByteArray} : ∀ {l : List En}, (∀ x ∈ l, fresh a x.key = fresh b x.key) → vw n a l = vw n b l
  | [], _ => rfl
  | x :: l, h => by
    unfold vw
    rw [h x List.mem_cons_self, vw_fresh (l := l) fun y hy => h y (List.mem_cons_of_mem _ hy)]
/-! ### What stays -/
def keepB (seen : List Int) (p : Option En) (x : En) : Bool := match p with
  | none => true
  | some q => decide (q.key ≠ x.key) || seen.any fun n => decide (x.seq ≤ n) && decide (n < q.seq)
def tr (seen : List Int) : Option En → List En → List En
  | _, [] => []
  | p, x :: l => (if keepB seen p x then [x] else []) ++ tr seen (some x) l
def st : List En → List En
  | [] => []
  | x :: l => if !x.dead || l.any (fun f => decide (f.key = x.key) && !f.dead) then x :: st l else st l
def trim (b : Bool) (seen : List Int) (l : List En) : List En := if b then st (tr seen none l) else tr seen none l
theorem tr_sub (seen : List Int) : ∀ (p : Option En) (l : List En), (tr seen p l).Sublist l
  | _, [] => List.Sublist.refl _
  | p, x :: l => by
    unfold tr
    split
    · exact List.Sublist.cons_cons _ (tr_sub seen _ l)
    · exact List.Sublist.cons _ (tr_sub seen _ l)
theorem st_sub : ∀ (l : List En), (st l).Sublist l
  | [] => List.Sublist.refl _
  | x :: l => by
    unfold st
    split
    · exact List.Sublist.cons_cons _ (st_sub l)
    · exact List.Sublist.cons _ (st_sub l)
theorem trim_sub (b : Bool) (seen : List Int) (l : List En) : (trim b seen l).Sublist l := by
  unfold trim
  split
  · exact (st_sub _).trans (tr_sub _ _ _)
  · exact tr_sub _ _ _
theorem trim_sorted (b : Bool) (seen : List Int) {l : List En} (h : Sorted l) : Sorted (trim b seen l) := h.sublist (trim_sub b seen l)

/-! ### Trimmed, the same is seen -/
theorem vw_tr {seen : List Int} {n : Int} : ∀ {l : List En} {p : Option En} {last : Option ByteArray}, (n ∈ seen ∨ ((∀ x ∈ l, x.seq ≤ n) ∧ ∀ q, p = some q → q.seq ≤ n)) → (∀ q, p = some q → q.seq ≤ n → last = some q.key) → vw n last (tr seen p l) = vw n last l
  | [], _, _, _, _ => rfl
  | x :: l, p, last, hn, hp => by
    have hn' : ∀ lst : Option ByteArray, n ∈ seen ∨ ((∀ y ∈ l, y.seq ≤ n) ∧ ∀ q, some x = some q → q.seq ≤ n) := fun _ => by
      rcases hn with hn | ⟨h1, h2⟩
      · exact .inl hn
      · exact .inr ⟨fun y hy => h1 y (List.mem_cons_of_mem _ hy), fun q hq => by cases hq; exact h1 x List.mem_cons_self⟩
    unfold tr
    by_cases hs : x.seq ≤ n
    · by_cases hf : fresh last x.key = true
      · have hk : keepB seen p x = true := by
          cases p with
          | none => rfl
          | some q =>
            unfold keepB
            by_cases hq : q.key = x.key
            · have hqn : n < q.seq := by
                by_cases h : q.seq ≤ n
                · exfalso
                  have := hp q rfl h
                  rw [this] at hf
                  unfold fresh at hf
                  simp [hq] at hf
                · omega
              rcases hn with hn | ⟨_, h2⟩
              · have : (seen.any fun n => decide (x.seq ≤ n) && decide (n < q.seq)) = true := List.any_eq_true.2 ⟨n, hn, by simp [hs, hqn]⟩
                show (decide (q.key ≠ x.key) || _) = true
                rw [this]; simp
              · have := h2 q rfl; omega
            · simp [hq]
        rw [hk, if_pos rfl]
        show vw n last (x :: tr seen (some x) l) = vw n last (x :: l)
        unfold vw
        rw [decide_eq_true hs, hf]
        simp only [Bool.and_self, if_true]
        rw [vw_tr (hn' none) (fun q hq _ => by cases hq; rfl)]
      · have hl : last = some x.key := by
          cases last with
          | none => simp [fresh] at hf
          | some k => unfold fresh at hf; simp at hf; rw [hf]
        have hr : vw n last (x :: l) = vw n last l := by
          show (if decide (x.seq ≤ n) && fresh last x.key then _ else _) = _
          rw [show fresh last x.key = false by simpa using hf]; simp
        rw [hr, ← vw_tr (p := some x) (hn' none) (fun q hq _ => by cases hq; exact hl)]
        split
        · show (if decide (x.seq ≤ n) && fresh last x.key then _ else _) = _
          rw [show fresh last x.key = false by simpa using hf]; simp
        · rfl
    · have hr : ∀ m, vw n last (x :: m) = vw n last m := fun m => by
        show (if decide (x.seq ≤ n) && fresh last x.key then _ else _) = _
        rw [decide_eq_false hs]; simp
      rw [hr, ← vw_tr (p := some x) (hn' none) (fun q hq hqn => by cases hq; exact absurd hqn hs)]
      split
      · exact hr _
      · rfl
/-- No key of the list is a lesser one than the last. -/
def Low (last : Option ByteArray) (l : List En) : Prop := ∀ k, last = some k → ∀ e ∈ l, lt e.key k = false
theorem st_dead : ∀ {l : List En} {k : ByteArray}, (∀ f ∈ l, f.key = k → f.dead = true) → ∀ f ∈ st l, f.key ≠ k
  | [], _, _, f, hf => by cases hf
  | x :: l, k, h, f, hf => by
    unfold st at hf
    split at hf
    · rename_i hc
      rcases List.mem_cons.1 hf with rfl | hf
      · intro hk
        rw [h f List.mem_cons_self hk] at hc
        simp only [Bool.not_true, Bool.false_or, List.any_eq_true, Bool.and_eq_true, decide_eq_true_eq, Bool.not_eq_true'] at hc
        obtain ⟨e, he, h1, h2⟩ := hc
        have := h e (List.mem_cons_of_mem _ he) (h1.trans hk)
        rw [this] at h2; cases h2
      · exact st_dead (fun f hf => h f (List.mem_cons_of_mem _ hf)) f hf
    · exact st_dead (fun f hf => h f (List.mem_cons_of_mem _ hf)) f hf
theorem vw_st {n : Int} : ∀ {l : List En} {last : Option ByteArray}, Sorted l → Low last l → vw n last (st l) = vw n last l
  | [], _, _, _ => rfl
  | x :: l, last, hs, hL => by
    unfold Sorted at hs
    rw [List.pairwise_cons] at hs
    have hlow : Low last l := fun k hk e he => hL k hk e (List.mem_cons_of_mem _ he)
    have hlowx : Low (some x.key) l := fun k hk e he => by
      cases hk
      rcases less_cases (hs.1 e he) with ⟨k1, _⟩ | ⟨_, l1⟩
      · rw [k1, lt_irrefl]
      · exact lt_asymm l1
    unfold st
    split
    · show vw n last (x :: st l) = vw n last (x :: l)
      unfold vw
      rw [vw_st hs.2 hlow, vw_st hs.2 hlowx]
    · rename_i hc
      simp only [Bool.or_eq_true, Bool.not_eq_true', List.any_eq_true, Bool.and_eq_true, decide_eq_true_eq, not_or, not_exists, not_and, Bool.not_eq_false] at hc
      have hd := st_dead (l := l) (k := x.key) fun f hf hk => hc.2 f hf hk
      rw [show vw n last (x :: l) = if decide (x.seq ≤ n) && fresh last x.key then (if x.dead then [] else [x]) ++ vw n (some x.key) l else vw n last l from rfl]
      split
      · rename_i hsh
        rw [hc.1]
        simp only [if_true, List.nil_append]
        rw [← vw_st hs.2 hlowx]
        refine vw_fresh fun y hy => ?_
        simp only [Bool.and_eq_true] at hsh
        have hym : y ∈ l := (st_sub l).subset hy
        have h2 : fresh (some x.key) y.key = true := by unfold fresh; simpa using fun h => hd y hy h.symm
        rw [h2]
        cases last with
        | none => rfl
        | some k =>
          unfold fresh
          have hkx : k ≠ x.key := by have := hsh.2; unfold fresh at this; simpa using this
          have hxk := hL k rfl x List.mem_cons_self
          have h3 : lt k x.key = true := by
            cases h : lt k x.key
            · exact absurd (lt_tri h hxk) hkx
            · rfl
          have h4 : k ≠ y.key := by
            rintro rfl
            rcases less_cases (hs.1 y hym) with ⟨k1, _⟩ | ⟨_, l1⟩
            · exact hkx k1.symm
            · rw [lt_asymm h3] at l1; cases l1
          simpa using h4
      · exact vw_st hs.2 hlow
theorem view_trim (b : Bool) {seen : List Int} {l : List En} {n : Int} (hs : Sorted l) (h : n ∈ seen ∨ ∀ x ∈ l, x.seq ≤ n) : view n (trim b seen l) = view n l := by
  have h1 : vw n none (tr seen none l) = vw n none l := vw_tr (by
    rcases h with h | h
    · exact .inl h
    · exact .inr ⟨h, fun q hq => by cases hq⟩) (fun q hq => by cases hq)
  unfold view trim
  split
  · rw [vw_st (hs.sublist (tr_sub _ _ _)) (fun k hk => by cases hk)]; exact h1
  · exact h1

/-! ### Trimmed again it stays -/
def AllK (seen : List Int) : Option En → List En → Prop
  | _, [] => True
  | p, x :: l => keepB seen p x = true ∧ AllK seen (some x) l
theorem tr_all {seen : List Int} : ∀ {l : List En} {p : Option En}, AllK seen p l → tr seen p l = l
  | [], _, _ => rfl
  | x :: l, p, h => by
    unfold tr
    rw [h.1, if_pos rfl, tr_all h.2]; rfl
/-- The one that stayed last stands at, or ahead of, the one that stood ahead. -/
def Rel (p' p : Option En) : Prop := p' = none ∨ ∃ r q, p' = some r ∧ p = some q ∧ (r = q ∨ less r q = true)
def Ahead (p : Option En) (l : List En) : Prop := ∀ q, p = some q → ∀ e ∈ l, less q e = true
theorem keep_rel {seen : List Int} {p' p : Option En} {x : En} {l : List En} (hr : Rel p' p) (ha : Ahead p (x :: l)) (h : keepB seen p x = true) : keepB seen p' x = true := by
  rcases hr with rfl | ⟨r, q, rfl, rfl, hrq⟩
  · rfl
  · have hqx := ha q rfl x List.mem_cons_self
    rcases hrq with rfl | hrq
    · exact h
    · unfold keepB at h ⊢
      simp only [Bool.or_eq_true, decide_eq_true_eq, List.any_eq_true, Bool.and_eq_true] at h ⊢
      by_cases hk : r.key = x.key
      · obtain ⟨k1, k2⟩ := squeeze hrq hqx hk
        rcases h with h | ⟨n, hn, h1, h2⟩
        · exact absurd k2 h
        · refine .inr ⟨n, hn, h1, ?_⟩
          rcases less_cases hrq with ⟨_, h3⟩ | ⟨h3, _⟩
          · omega
          · exact absurd k1 h3
      · exact .inl hk
theorem Rel.drop {p' p : Option En} {x : En} {l : List En} (hr : Rel p' p) (ha : Ahead p (x :: l)) : Rel p' (some x) := by
  rcases hr with rfl | ⟨r, q, rfl, rfl, hrq⟩
  · exact .inl rfl
  · have hqx := ha q rfl x List.mem_cons_self
    refine .inr ⟨r, x, rfl, rfl, .inr ?_⟩
    rcases hrq with rfl | hrq
    · exact hqx
    · exact less_trans hrq hqx
theorem ahead_cons {x : En} {l : List En} (hs : Sorted (x :: l)) : Ahead (some x) l := fun q hq e he => by
  cases hq; exact (List.pairwise_cons.1 hs).1 e he
theorem allK_tr {seen : List Int} : ∀ {l : List En} {p' p : Option En}, Sorted l → Ahead p l → Rel p' p → AllK seen p' (tr seen p l)
  | [], _, _, _, _, _ => trivial
  | x :: l, p', p, hs, ha, hr => by
    have hs2 := (List.pairwise_cons.1 hs).2
    unfold tr
    split
    · rename_i hk
      exact ⟨keep_rel hr ha hk, allK_tr hs2 (ahead_cons hs) (.inr ⟨x, x, rfl, rfl, .inl rfl⟩)⟩
    · exact allK_tr hs2 (ahead_cons hs) (hr.drop ha)
theorem allK_st {seen : List Int} : ∀ {l : List En} {p' p : Option En}, Sorted l → Ahead p l → Rel p' p → AllK seen p l → AllK seen p' (st l)
  | [], _, _, _, _, _, _ => trivial
  | x :: l, p', p, hs, ha, hr, hk => by
    have hs2 := (List.pairwise_cons.1 hs).2
    unfold st
    split
    · exact ⟨keep_rel hr ha hk.1, allK_st hs2 (ahead_cons hs) (.inr ⟨x, x, rfl, rfl, .inl rfl⟩) hk.2⟩
    · exact allK_st hs2 (ahead_cons hs) (hr.drop ha) hk.2
theorem any_st {k : ByteArray} : ∀ {l : List En}, (st l).any (fun f => decide (f.key = k) && !f.dead) = l.any fun f => decide (f.key = k) && !f.dead
  | [] => rfl
  | x :: l => by
    unfold st
    split
    · rw [List.any_cons, List.any_cons, any_st]
    · rename_i hc
      rw [List.any_cons, any_st]
      simp only [Bool.or_eq_true, not_or, Bool.not_eq_true', Bool.not_eq_false] at hc
      rw [hc.1]; simp
theorem st_st : ∀ (l : List En), st (st l) = st l
  | [] => rfl
  | x :: l => by
    by_cases hc : (!x.dead || l.any (fun f => decide (f.key = x.key) && !f.dead)) = true
    · have h1 : st (x :: l) = x :: st l := by show (if _ then _ else _) = _; rw [if_pos hc]
      rw [h1]
      show (if _ then _ else _) = _
      rw [any_st, if_pos hc, st_st]
    · have h1 : st (x :: l) = st l := by show (if _ then _ else _) = _; rw [if_neg hc]
      rw [h1, st_st]
theorem trim_trim (b : Bool) (seen : List Int) {l : List En} (hs : Sorted l) : trim b seen (trim b seen l) = trim b seen l := by
  have h1 : AllK seen none (tr seen none l) := allK_tr hs (fun q hq => by cases hq) (.inl rfl)
  have h2 : AllK seen none (st (tr seen none l)) := allK_st (hs.sublist (tr_sub _ _ _)) (fun q hq => by cases hq) (.inl rfl) h1
  unfold trim
  cases b
  · exact tr_all h1
  · simp only [if_true]
    rw [tr_all h2, st_st]

/-! ### Group by group -/
def One (g : List En) : Prop := ∀ x ∈ g, ∀ y ∈ g, x.key = y.key
def Apart (a b : List En) : Prop := ∀ x ∈ a, ∀ y ∈ b, x.key ≠ y.key
def Good (gs : List (List En)) : Prop := (∀ g ∈ gs, One g) ∧ gs.Pairwise Apart
theorem Good.tail {g : List En} {gs : List (List En)} (h : Good (g :: gs)) : Good gs ∧ One g ∧ Apart g gs.flatten := by
  have h2 := List.pairwise_cons.1 h.2
  refine ⟨⟨fun a ha => h.1 a (List.mem_cons_of_mem _ ha), h2.2⟩, h.1 g List.mem_cons_self, fun x hx y hy => ?_⟩
  obtain ⟨a, ha, hya⟩ := List.mem_flatten.1 hy
  exact h2.1 a ha x hx y hya
def vg (n : Int) (g : List En) : List En := match g.find? (fun e => decide (e.seq ≤ n)) with
  | none => []
  | some e => if e.dead then [] else [e]
theorem vw_done {n : Int} {k : ByteArray} : ∀ {g rest : List En}, (∀ x ∈ g, x.key = k) → (∀ x ∈ rest, x.key ≠ k) → vw n (some k) (g ++ rest) = vw n none rest
  | [], rest, _, hr => vw_fresh fun x hx => by unfold fresh; simpa using fun h => hr x hx h.symm
  | x :: g, rest, hg, hr => by
    show (if decide (x.seq ≤ n) && fresh (some k) x.key then _ else _) = _
    rw [hg x List.mem_cons_self]
    have : fresh (some k) k = false := by simp [fresh]
    rw [this]
    simp only [Bool.and_false, Bool.false_eq_true, if_false]
    exact vw_done (fun y hy => hg y (List.mem_cons_of_mem _ hy)) hr
theorem vw_group {n : Int} {k : ByteArray} : ∀ {g rest : List En}, (∀ x ∈ g, x.key = k) → (∀ x ∈ rest, x.key ≠ k) → vw n none (g ++ rest) = vg n g ++ vw n none rest
  | [], rest, _, hr => rfl
  | x :: g, rest, hg, hr => by
    show (if decide (x.seq ≤ n) && fresh none x.key then _ else _) = _
    unfold vg
    rw [List.find?_cons]
    by_cases h : x.seq ≤ n
    · rw [decide_eq_true h]
      show (if x.dead then [] else [x]) ++ vw n (some x.key) (g ++ rest) = _
      rw [hg x List.mem_cons_self, vw_done (fun y hy => hg y (List.mem_cons_of_mem _ hy)) hr]
    · rw [decide_eq_false h]
      exact vw_group (fun y hy => hg y (List.mem_cons_of_mem _ hy)) hr
theorem one_key {g : List En} (h : One g) : ∃ k, ∀ x ∈ g, x.key = k := by
  cases g with
  | nil => exact ⟨⟨#[]⟩, fun x hx => by cases hx⟩
  | cons y g => exact ⟨y.key, fun x hx => h x hx y List.mem_cons_self⟩
theorem view_groups {n : Int} : ∀ {gs : List (List En)}, Good gs → view n gs.flatten = gs.flatMap (vg n)
  | [], _ => rfl
  | g :: gs, h => by
    obtain ⟨h1, h2, h3⟩ := h.tail
    rw [List.flatten_cons, List.flatMap_cons]
    cases g with
    | nil => exact view_groups h1
    | cons y g =>
      have hk : ∀ x ∈ y :: g, x.key = y.key := fun x hx => h2 x hx y List.mem_cons_self
      unfold view
      rw [vw_group hk (fun x hx e => h3 y List.mem_cons_self x hx e.symm)]
      exact congrArg _ (view_groups h1)
theorem tr_none {seen : List Int} {q : En} : ∀ {l : List En}, (∀ x ∈ l, q.key ≠ x.key) → tr seen (some q) l = tr seen none l
  | [], _ => rfl
  | x :: l, h => by
    unfold tr
    have : keepB seen (some q) x = keepB seen none x := by unfold keepB; simp [h x List.mem_cons_self]
    rw [this]
theorem tr_group {seen : List Int} {k : ByteArray} : ∀ {g rest : List En} {p : Option En}, (∀ x ∈ g, x.key = k) → (∀ x ∈ rest, x.key ≠ k) → (∀ q, p = some q → q.key = k) → tr seen p (g ++ rest) = tr seen p g ++ tr seen none rest
  | [], rest, p, _, hr, hp => by
    cases p with
    | none => rfl
    | some q => exact tr_none fun x hx e => hr x hx (by rw [← e]; exact hp q rfl)
  | x :: g, rest, p, hg, hr, hp => by
    show (if keepB seen p x then [x] else []) ++ tr seen (some x) (g ++ rest) = ((if keepB seen p x then [x] else []) ++ tr seen (some x) g) ++ tr seen none rest
    rw [tr_group (fun y hy => hg y (List.mem_cons_of_mem _ hy)) hr (fun q hq => by cases hq; exact hg _ List.mem_cons_self), List.append_assoc]
theorem st_append : ∀ {a b : List En}, Apart a b → st (a ++ b) = st a ++ st b
  | [], b, _ => rfl
  | x :: a, b, h => by
    have h0 : b.any (fun f => decide (f.key = x.key) && !f.dead) = false := by
      rw [List.any_eq_false]
      intro f hf
      simp [show f.key ≠ x.key from fun e => h x List.mem_cons_self f hf e.symm]
    rw [List.cons_append]
    show (if !x.dead || (a ++ b).any (fun f => decide (f.key = x.key) && !f.dead) then x :: st (a ++ b) else st (a ++ b)) = (if !x.dead || a.any (fun f => decide (f.key = x.key) && !f.dead) then x :: st a else st a) ++ st b
    rw [List.any_append, h0, Bool.or_false, st_append fun y hy => h y (List.mem_cons_of_mem _ hy)]
    split <;> rfl
def tg (b : Bool) (seen : List Int) (g : List En) : List En := if b then st (tr seen none g) else tr seen none g
theorem trim_groups {b : Bool} {seen : List Int} : ∀ {gs : List (List En)}, Good gs → trim b seen gs.flatten = gs.flatMap (tg b seen)
  | [], _ => by unfold trim; cases b <;> rfl
  | g :: gs, h => by
    obtain ⟨h1, h2, h3⟩ := h.tail
    obtain ⟨k, hk⟩ := one_key h2
    rw [List.flatten_cons, List.flatMap_cons, ← trim_groups h1]
    have e : tr seen none (g ++ gs.flatten) = tr seen none g ++ tr seen none gs.flatten := by
      cases g with
      | nil => rfl
      | cons y g => exact tr_group hk (fun x hx e => h3 y List.mem_cons_self x hx (by rw [e]; exact hk y List.mem_cons_self)) (fun q hq => by cases hq)
    unfold trim tg
    rw [e]
    cases b
    · rfl
    · simp only [if_true]
      exact st_append fun x hx y hy => h3 x ((tr_sub _ _ _).subset hx) y ((tr_sub _ _ _).subset hy)
/-! ### A list cut key by key -/
structure Cut (M : List En) (gs : List (List En)) (s i : Nat) : Prop where
  flat : gs.flatten = M.take s
  le : s ≤ i ∧ i ≤ M.length
  fin : i = M.length → s = i
  same : ∀ j, s ≤ j → j ≤ i → j < M.length → (M.getD j En.zero).key = (M.getD s En.zero).key
  good : Good gs
  apart : ∀ x ∈ gs.flatten, ∀ j, s ≤ j → j < M.length → (M.getD j En.zero).key ≠ x.key
theorem Cut.start (M : List En) : Cut M [] 0 0 := by
  refine ⟨rfl, ⟨Nat.le_refl _, Nat.zero_le _⟩, fun _ => rfl, fun j h1 h2 _ => ?_, ⟨fun g hg => (by cases hg), List.Pairwise.nil⟩, fun x hx => (by cases hx)⟩
  obtain rfl : j = 0 := by omega
  rfl
theorem getD_eq {M : List En} {j : Nat} (h : j < M.length) : M.getD j En.zero = M[j] := by rw [List.getD_eq_getElem?_getD, List.getElem?_eq_getElem h]; rfl
theorem Cut.go {M : List En} {gs : List (List En)} {s i : Nat} (h : Cut M gs s i) (hi : i + 1 < M.length) (hk : (M.getD (i + 1) En.zero).key = (M.getD i En.zero).key) : Cut M gs s (i + 1) := by
  have := h.le
  refine ⟨h.flat, by omega, fun e => by omega, fun j h1 h2 h3 => ?_, h.good, h.apart⟩
  by_cases hj : j = i + 1
  · rw [hj, hk]; exact h.same i (by omega) (Nat.le_refl _) (by omega)
  · exact h.same j h1 (by omega) h3
def seg (M : List En) (s i : Nat) : List En := (M.drop s).take (i + 1 - s)
theorem seg_len {M : List En} {s i : Nat} (h : s ≤ i) (hi : i < M.length) : (seg M s i).length = i + 1 - s := by unfold seg; simp; omega
theorem seg_in {M : List En} {s i : Nat} {x : En} (h : x ∈ seg M s i) : ∃ j, s ≤ j ∧ j ≤ i ∧ j < M.length ∧ M.getD j En.zero = x := by
  obtain ⟨j, hj, rfl⟩ := List.getElem_of_mem h
  unfold seg at hj
  simp only [List.length_take, List.length_drop] at hj
  refine ⟨s + j, by omega, by omega, by omega, ?_⟩
  rw [getD_eq (by omega)]
  unfold seg
  rw [List.getElem_take, List.getElem_drop]
theorem Cut.cut {M : List En} {gs : List (List En)} {s i : Nat} (h : Cut M gs s i) (hs : Sorted M) (hi : i < M.length) (hk : i + 1 = M.length ∨ (M.getD (i + 1) En.zero).key ≠ (M.getD i En.zero).key) : Cut M (gs ++ [seg M s i]) (i + 1) (i + 1) := by
  have hle := h.le
  have hone : One (seg M s i) := fun x hx y hy => by
    obtain ⟨j, j1, j2, j3, rfl⟩ := seg_in hx
    obtain ⟨l, l1, l2, l3, rfl⟩ := seg_in hy
    rw [h.same j j1 j2 j3, h.same l l1 l2 l3]
  refine ⟨?_, by omega, fun _ => rfl, fun j h1 h2 _ => by rw [show j = i + 1 by omega], ⟨fun g hg => ?_, ?_⟩, fun x hx j h1 h2 => ?_⟩
  · rw [List.flatten_append, h.flat]
    unfold seg
    simp only [List.flatten_cons, List.flatten_nil, List.append_nil]
    rw [← List.take_append_drop s (M.take (i + 1)), List.take_take, Nat.min_eq_left (by omega), List.drop_take]
  · rcases List.mem_append.1 hg with hg | hg
    · exact h.good.1 g hg
    · rw [List.mem_singleton.1 hg]; exact hone
  · refine List.pairwise_append.2 ⟨h.good.2, List.pairwise_singleton _ _, fun a ha b hb x hx y hy => ?_⟩
    rw [List.mem_singleton.1 hb] at hy
    obtain ⟨j, j1, j2, j3, rfl⟩ := seg_in hy
    exact fun e => h.apart x (List.mem_flatten.2 ⟨a, ha, hx⟩) j j1 j3 e.symm
  · rw [List.flatten_append] at hx
    rcases List.mem_append.1 hx with hx | hx
    · exact h.apart x hx j (by omega) h2
    · simp only [List.flatten_cons, List.flatten_nil, List.append_nil] at hx
      obtain ⟨l, l1, l2, l3, rfl⟩ := seg_in hx
      rcases hk with hk | hk
      · omega
      · intro e
        have hil : (M.getD l En.zero).key = (M.getD i En.zero).key := by rw [h.same l l1 l2 l3, h.same i (by omega) (Nat.le_refl _) hi]
        by_cases hj : j = i + 1
        · subst hj; exact hk (e.trans hil)
        · have a1 : less (M.getD i En.zero) (M.getD (i + 1) En.zero) = true := by
            rw [getD_eq hi, getD_eq (by omega)]
            exact (List.pairwise_iff_getElem.1 hs) _ _ _ _ (by omega)
          have a2 : less (M.getD (i + 1) En.zero) (M.getD j En.zero) = true := by
            rw [getD_eq (by omega), getD_eq h2]
            exact (List.pairwise_iff_getElem.1 hs) _ _ _ _ (by omega)
          exact hk (squeeze a1 a2 (by rw [e, hil])).1.symm
theorem Cut.done {M : List En} {gs : List (List En)} {s : Nat} (h : Cut M gs s M.length) : gs.flatten = M ∧ Good gs := by
  have := h.fin rfl
  subst this
  exact ⟨by rw [h.flat, List.take_length], h.good⟩
end Go.Proofs.Ytdaibmafnamfgaa.Mg
