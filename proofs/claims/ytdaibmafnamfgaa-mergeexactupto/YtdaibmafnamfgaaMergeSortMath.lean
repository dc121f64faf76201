/-
  The stable order, plainly: two that change places, ranges that do, a rotation, where a merge parts its two lists, runs that are merged.
-/
import Derived.Test.YtdaibmafnamfgaaMergeMath
namespace Go.Proofs.Ytdaibmafnamfgaa.Mg
open Cm Mm
set_option linter.unusedVariables false

/-- Two that change places. -/
def swp (xs : List En) (i j : Nat) : List En := (xs.set i (xs.getD j En.zero)).set j (xs.getD i En.zero)
/-- A range and another one change places, one by one. -/
def swaps (xs : List En) (a b : Nat) : Nat → List En
  | 0 => xs
  | t + 1 => swp (swaps xs a b t) (a + t) (b + t)
theorem getD_app (A B : List En) (x : En) : (A ++ x :: B).getD A.length En.zero = x := by simp [List.getD_eq_getElem?_getD]
theorem set_app : ∀ (A B : List En) (x y : En), (A ++ x :: B).set A.length y = A ++ y :: B
  | [], B, x, y => rfl
  | a :: A, B, x, y => by rw [List.cons_append, List.length_cons, List.set_cons_succ, set_app A B x y]; rfl
theorem swp_app {A M Z : List En} {x y : En} {i j : Nat} (hi : A.length = i) (hj : i + 1 + M.length = j) : swp (A ++ x :: (M ++ y :: Z)) i j = A ++ y :: (M ++ x :: Z) := by
  unfold swp
  have e1 : A ++ x :: (M ++ y :: Z) = (A ++ x :: M) ++ y :: Z := by simp
  have h1 : (A ++ x :: (M ++ y :: Z)).getD i En.zero = x := by rw [← hi]; exact getD_app _ _ _
  have h2 : (A ++ x :: (M ++ y :: Z)).getD j En.zero = y := by
    rw [e1]
    have : j = (A ++ x :: M).length := by simp; omega
    rw [this]; exact getD_app _ _ _
  rw [h1, h2, ← hi, set_app]
  have e2 : A ++ y :: (M ++ y :: Z) = (A ++ y :: M) ++ y :: Z := by simp
  have : j = (A ++ y :: M).length := by simp; omega
  rw [e2, this, set_app]; simp
theorem drop_next {X : List En} {t : Nat} (h : t < X.length) : X.drop t = X.getD t En.zero :: X.drop (t + 1) := by
  rw [List.drop_eq_getElem_cons h, List.getD_eq_getElem?_getD, List.getElem?_eq_getElem h]; rfl
theorem swaps_app {A X M Y Z : List En} {a b : Nat} (ha : A.length = a) (hb : a + X.length + M.length = b) (hl : X.length = Y.length) : ∀ t, t ≤ X.length → swaps (A ++ (X ++ (M ++ (Y ++ Z)))) a b t = A ++ (Y.take t ++ (X.drop t ++ (M ++ (X.take t ++ (Y.drop t ++ Z)))))
  | 0, _ => by simp [swaps]
  | t + 1, ht => by
    unfold swaps
    rw [swaps_app ha hb hl t (by omega), drop_next (X := X) (t := t) (by omega), drop_next (X := Y) (t := t) (by omega), take_next (xs := X) (by omega), take_next (xs := Y) (by omega)]
    have e : A ++ (Y.take t ++ (X.getD t En.zero :: X.drop (t + 1) ++ (M ++ (X.take t ++ (Y.getD t En.zero :: Y.drop (t + 1) ++ Z))))) = (A ++ Y.take t) ++ X.getD t En.zero :: ((X.drop (t + 1) ++ (M ++ X.take t)) ++ Y.getD t En.zero :: (Y.drop (t + 1) ++ Z)) := by simp
    rw [e, swp_app (by simp; omega) (by simp; omega)]
    simp
theorem swaps_all {A X M Y Z : List En} {a b : Nat} (ha : A.length = a) (hb : a + X.length + M.length = b) (hl : X.length = Y.length) : swaps (A ++ (X ++ (M ++ (Y ++ Z)))) a b X.length = A ++ (Y ++ (M ++ (X ++ Z))) := by
  rw [swaps_app ha hb hl _ (Nat.le_refl _)]
  simp [List.take_of_length_le, List.drop_of_length_le, hl]

/-! ### Places in a list that has parts -/
theorem seg_mem {P L Q xs : List En} (hx : xs = P ++ (L ++ Q)) {x : En} (h : x ∈ L) : ∃ i, P.length ≤ i ∧ i < P.length + L.length ∧ xs.getD i En.zero = x := by
  obtain ⟨i, hi, rfl⟩ := List.getElem_of_mem h
  refine ⟨P.length + i, by omega, by omega, ?_⟩
  subst hx
  rw [List.getD_eq_getElem?_getD, List.getElem?_append_right (by omega), Nat.add_sub_cancel_left, List.getElem?_append_left hi, List.getElem?_eq_getElem hi]; rfl
theorem seg_get {P L Q xs : List En} (hx : xs = P ++ (L ++ Q)) {i : Nat} (h1 : P.length ≤ i) (h2 : i < P.length + L.length) : xs.getD i En.zero = L[i - P.length] := by
  subst hx
  rw [List.getD_eq_getElem?_getD, List.getElem?_append_right h1, List.getElem?_append_left (by omega), List.getElem?_eq_getElem (by omega)]; rfl
theorem seg_le {P L Q xs : List En} (hx : xs = P ++ (L ++ Q)) (hw : WS L) {i j : Nat} (h1 : P.length ≤ i) (h2 : i ≤ j) (h3 : j < P.length + L.length) : le (xs.getD i En.zero) (xs.getD j En.zero) = true := by
  by_cases h : i = j
  · subst h; exact le_refl _
  · rw [seg_get hx h1 (by omega), seg_get hx (by omega) h3]
    exact (List.pairwise_iff_getElem.1 hw) _ _ (by omega) (by omega) (by omega)
theorem strictly {A L R Z xs : List En} (hx : xs = A ++ (L ++ (R ++ Z))) (hL : WS L) (hR : WS R) {a m b s e : Nat} (ha : A.length = a) (hm : a + L.length = m) (hb : m + R.length = b) (hs : a ≤ s ∧ s ≤ m) (he : m ≤ e ∧ e ≤ b)
    (h : s = m ∨ e = m ∨ less (xs.getD (e - 1) En.zero) (xs.getD s En.zero) = true) : ∀ x ∈ L.drop (s - a), ∀ y ∈ R.take (e - m), less y x = true := by
  intro x hx1 y hy1
  have hx2 : xs = (A ++ L.take (s - a)) ++ (L.drop (s - a) ++ (R ++ Z)) := by rw [hx, List.append_assoc, ← List.append_assoc (List.take _ _), List.take_append_drop]
  have hy2 : xs = (A ++ L) ++ (R.take (e - m) ++ (R.drop (e - m) ++ Z)) := by rw [hx]; simp; rw [← List.append_assoc (List.take _ _), List.take_append_drop]
  have hL2 : xs = A ++ (L ++ (R ++ Z)) := hx
  have hR2 : xs = (A ++ L) ++ (R ++ Z) := by rw [hx]; simp
  obtain ⟨i, i1, i2, rfl⟩ := seg_mem hx2 hx1
  obtain ⟨j, j1, j2, rfl⟩ := seg_mem hy2 hy1
  simp only [List.length_append, List.length_take, List.length_drop] at i1 i2 j1 j2
  rcases h with h | h | h
  · exfalso; omega
  · exfalso; omega
  · have k1 := seg_le hL2 hL (i := s) (j := i) (by omega) (by omega) (by omega)
    have k2 := seg_le hR2 hR (i := j) (j := e - 1) (by simp; omega) (by omega) (by simp; omega)
    exact lt_of_le_lt k2 (lt_of_lt_le h k1)
theorem weakly {A L R Z xs : List En} (hx : xs = A ++ (L ++ (R ++ Z))) (hL : WS L) (hR : WS R) {a m b s e : Nat} (ha : A.length = a) (hm : a + L.length = m) (hb : m + R.length = b) (hs : a ≤ s ∧ s ≤ m) (he : m ≤ e ∧ e ≤ b)
    (h : s = a ∨ e = b ∨ le (xs.getD (s - 1) En.zero) (xs.getD e En.zero) = true) : ∀ x ∈ L.take (s - a), ∀ y ∈ R.drop (e - m), le x y = true := by
  intro x hx1 y hy1
  have hx2 : xs = A ++ (L.take (s - a) ++ (L.drop (s - a) ++ (R ++ Z))) := by rw [hx, ← List.append_assoc (List.take _ _), List.take_append_drop]
  have hy2 : xs = (A ++ L ++ R.take (e - m)) ++ (R.drop (e - m) ++ Z) := by rw [hx]; simp; rw [← List.append_assoc (List.take _ _), List.take_append_drop]
  have hL2 : xs = A ++ (L ++ (R ++ Z)) := hx
  have hR2 : xs = (A ++ L) ++ (R ++ Z) := by rw [hx]; simp
  obtain ⟨i, i1, i2, rfl⟩ := seg_mem hx2 hx1
  obtain ⟨j, j1, j2, rfl⟩ := seg_mem hy2 hy1
  simp only [List.length_append, List.length_take, List.length_drop] at i1 i2 j1 j2
  rcases h with h | h | h
  · exfalso; omega
  · exfalso; omega
  · have k1 := seg_le hL2 hL (i := i) (j := s - 1) (by omega) (by omega) (by omega)
    have k2 := seg_le hR2 hR (i := e) (j := j) (by simp; omega) (by omega) (by simp; omega)
    exact le_trans k1 (le_trans h k2)
theorem WS.append {a b : List En} (h : WS (a ++ b)) : WS a ∧ WS b ∧ ∀ x ∈ a, ∀ y ∈ b, le x y = true := List.pairwise_append.1 h
theorem WS.mk {a b : List En} (h1 : WS a) (h2 : WS b) (h3 : ∀ x ∈ a, ∀ y ∈ b, le x y = true) : WS (a ++ b) := List.pairwise_append.2 ⟨h1, h2, h3⟩
theorem WS.one (x : En) : WS [x] := List.pairwise_singleton _ _
theorem WS.nil : WS [] := List.Pairwise.nil
/-- A merge is done when its two halves are. -/
theorem merge_done {L1 L2 R1 R2 M1 M2 : List En} (hL : WS (L1 ++ L2)) (hR : WS (R1 ++ R2)) (hs : ∀ x ∈ L2, ∀ y ∈ R1, less y x = true) (hw : ∀ x ∈ L1, ∀ y ∈ R2, le x y = true)
    (h1 : WS M1) (h2 : WS M2) (s1 : Stab (L1 ++ R1) M1) (s2 : Stab (L2 ++ R2) M2) : WS (M1 ++ M2) ∧ Stab ((L1 ++ L2) ++ (R1 ++ R2)) (M1 ++ M2) := by
  refine ⟨WS.mk h1 h2 fun x hx y hy => ?_, Stab.trans ?_ (s1.append s2)⟩
  · have hx' := s1.1.mem_iff.1 hx
    have hy' := s2.1.mem_iff.1 hy
    rcases List.mem_append.1 hx' with hx' | hx' <;> rcases List.mem_append.1 hy' with hy' | hy'
    · exact hL.append.2.2 x hx' y hy'
    · exact hw x hx' y hy'
    · exact le_of_less (hs y hy' x hx')
    · exact hR.append.2.2 x hx' y hy'
  · have h := (Stab.rot hs).mid L1 R2
    simp only [List.append_assoc] at h ⊢
    exact h
theorem ws_two {u v : List En} (hu : WS u) (hv : WS v) (h : u = [] ∨ v = []) : WS (u ++ v) := by
  rcases h with rfl | rfl
  · exact hv
  · rw [List.append_nil]; exact hu

/-! ### A version put among those ahead of it -/
structure Among (X M1 M2 Y : List En) (x : En) : Prop where
  ws : WS (M1 ++ M2)
  lt : ∀ y ∈ M2, less x y = true
  stab : Stab X (M1 ++ (x :: (M2 ++ Y)))
theorem Among.new {X M Y : List En} {x : En} (h : WS M) (hs : Stab X (M ++ (x :: Y))) : Among X M [] Y x := ⟨by rw [List.append_nil]; exact h, fun y hy => by simp at hy, hs⟩
theorem Among.step {X M1 M2 Y : List En} {x y : En} (h : Among X (M1 ++ [y]) M2 Y x) (hl : less x y = true) : Among X M1 (y :: M2) Y x := by
  refine ⟨by have := h.ws; simpa using this, fun z hz => ?_, h.stab.trans ?_⟩
  · rcases List.mem_cons.1 hz with rfl | hz
    · exact hl
    · exact h.lt z hz
  · have := (Stab.rot (u := [y]) (v := [x]) (by intro a ha b hb; rw [List.mem_singleton.1 ha, List.mem_singleton.1 hb]; exact hl)).mid M1 (M2 ++ Y)
    simpa using this
theorem Among.done {X M1 M2 Y : List En} {x : En} (h : Among X M1 M2 Y x) (hl : M1 = [] ∨ ∃ M y, M1 = M ++ [y] ∧ less x y = false) : WS (M1 ++ x :: M2) ∧ Stab X ((M1 ++ x :: M2) ++ Y) := by
  refine ⟨?_, by have := h.stab; simpa using this⟩
  obtain ⟨w1, w2, w3⟩ := h.ws.append
  refine WS.mk w1 (List.pairwise_cons.2 ⟨fun y hy => le_of_less (h.lt y hy), w2⟩) fun a ha b hb => ?_
  rcases List.mem_cons.1 hb with rfl | hb
  · rcases hl with rfl | ⟨M, y, rfl, hy⟩
    · cases ha
    · rcases List.mem_append.1 ha with ha | ha
      · exact le_trans (w1.append.2.2 a ha y List.mem_cons_self) (le_iff.2 hy)
      · rw [List.mem_singleton.1 ha]; exact le_iff.2 hy
  · exact w3 a ha b hb

/-! ### Runs -/
/-- Runs in order, each of s. -/
def Full (s : Nat) : List En → List (List En) → Prop := fun P ps => P = ps.flatten ∧ ∀ p ∈ ps, p.length = s ∧ WS p
theorem Full.len {s : Nat} {P : List En} {ps : List (List En)} (h : Full s P ps) : P.length = ps.length * s := by
  obtain ⟨rfl, h⟩ := h
  induction ps with
  | nil => simp
  | cons p ps ih =>
    rw [List.flatten_cons, List.length_append, (h p List.mem_cons_self).1, ih (fun q hq => h q (List.mem_cons_of_mem _ hq)), List.length_cons, Nat.add_mul]; omega
theorem Full.snoc {s : Nat} {P q : List En} {ps : List (List En)} (h : Full s P ps) (hq : q.length = s) (hw : WS q) : Full s (P ++ q) (ps ++ [q]) := by
  obtain ⟨rfl, h⟩ := h
  refine ⟨by simp, fun p hp => ?_⟩
  rcases List.mem_append.1 hp with hp | hp
  · exact h p hp
  · rw [List.mem_singleton.1 hp]; exact ⟨hq, hw⟩
theorem Full.nil (s : Nat) : Full s [] [] := ⟨rfl, fun p hp => by cases hp⟩
def Runs (s : Nat) (xs : List En) : Prop := ∃ P ps R, xs = P ++ R ∧ Full s P ps ∧ R.length < s ∧ WS R
theorem Runs.done {s : Nat} {xs : List En} (h : Runs s xs) (hl : xs.length ≤ s) : WS xs := by
  obtain ⟨P, ps, R, rfl, hf, hR, hw⟩ := h
  have hlen := hf.len
  rw [List.length_append] at hl
  cases ps with
  | nil =>
    obtain ⟨rfl, _⟩ := hf
    exact hw
  | cons p ps =>
    have h1 : (ps.length + 1) * s = ps.length * s + s := by rw [Nat.add_mul]; omega
    rw [List.length_cons, h1] at hlen
    have hR0 : R = [] := List.length_eq_zero_iff.1 (by omega)
    have hs : 0 < s := by omega
    have hps : ps = [] := by
      cases ps with
      | nil => rfl
      | cons q qs => 
        exfalso
        have h2 : (qs.length + 1) * s = qs.length * s + s := by rw [Nat.add_mul]; omega
        rw [List.length_cons, h2] at hlen
        omega
    subst hR0 hps
    obtain ⟨rfl, hf⟩ := hf
    simp only [List.flatten_cons, List.flatten_nil, List.append_nil]
    exact (hf p List.mem_cons_self).2
/-- A round of merges: P is merged, Q and R are to be. -/
structure Going (s : Nat) (xs0 xs P : List En) (Q : List (List En)) (R : List En) : Prop where
  eq : xs = P ++ (Q.flatten ++ R)
  done : ∃ ps, Full (2 * s) P ps
  todo : ∀ q ∈ Q, q.length = s ∧ WS q
  rest : R.length < s ∧ WS R
  stab : Stab xs0 xs
theorem flat_len {s : Nat} {Q : List (List En)} (h : ∀ q ∈ Q, q.length = s ∧ WS q) : Q.flatten.length = Q.length * s := Full.len (P := Q.flatten) ⟨rfl, h⟩
theorem Runs.going {s : Nat} {xs0 xs : List En} (h : Runs s xs) (hs : Stab xs0 xs) : ∃ Q R, Going s xs0 xs [] Q R := by
  obtain ⟨P, ps, R, rfl, hf, hR, hw⟩ := h
  obtain ⟨rfl, hf⟩ := hf
  exact ⟨ps, R, ⟨rfl, ⟨[], Full.nil _⟩, hf, ⟨hR, hw⟩, hs⟩⟩
theorem Going.two {s : Nat} {xs0 xs P R : List En} {Q : List (List En)} (h : Going s xs0 xs P Q R) (hl : P.length + 2 * s ≤ xs.length) : ∃ q1 q2 Q', Q = q1 :: q2 :: Q' := by
  have h1 := flat_len h.todo
  have h2 := h.rest.1
  have h3 := congrArg List.length h.eq
  simp only [List.length_append] at h3
  match Q, h1, h3 with
  | [], h1, h3 => simp at h1 h3; omega
  | [q], h1, h3 => simp at h1 h3; omega
  | q1 :: q2 :: Q', _, _ => exact ⟨q1, q2, Q', rfl⟩
theorem Going.step {s : Nat} {xs0 xs P R q1 q2 M : List En} {Q : List (List En)} (h : Going s xs0 xs P (q1 :: q2 :: Q) R) (hw : WS M) (hs : Stab (q1 ++ q2) M) : Going s xs0 (P ++ (M ++ (Q.flatten ++ R))) (P ++ M) Q R := by
  obtain ⟨ps, hp⟩ := h.done
  have hl := hs.len
  rw [List.length_append, (h.todo q1 (by simp)).1, (h.todo q2 (by simp)).1] at hl
  refine ⟨by simp, ⟨_, hp.snoc (q := M) (by omega) hw⟩, fun q hq => h.todo q (by simp [hq]), h.rest, h.stab.trans ?_⟩
  rw [h.eq]
  have := hs.mid P (Q.flatten ++ R)
  simpa using this
theorem Going.last {s : Nat} {xs0 xs P R : List En} {Q : List (List En)} (h : Going s xs0 xs P Q R) (hl : xs.length < P.length + 2 * s) (hm : P.length + s < xs.length) : ∃ q, Q = [q] ∧ R ≠ [] := by
  have h1 := flat_len h.todo
  have h2 := h.rest.1
  have h3 := congrArg List.length h.eq
  simp only [List.length_append] at h3
  match Q, h1, h3 with
  | [], h1, h3 => simp at h1 h3; omega
  | [q], h1, h3 =>
    refine ⟨q, rfl, ?_⟩
    rintro rfl
    simp at h1 h3; omega
  | q1 :: q2 :: Q', h1, h3 =>
    exfalso
    simp only [List.length_cons, Nat.add_mul] at h1
    omega
theorem Going.ends {s : Nat} {xs0 xs P R q M : List En} (h : Going s xs0 xs P [q] R) (hw : WS M) (hs : Stab (q ++ R) M) : Runs (2 * s) (P ++ M) ∧ Stab xs0 (P ++ M) := by
  obtain ⟨ps, hp⟩ := h.done
  have hl := hs.len
  have h2 := h.rest.1
  rw [List.length_append, (h.todo q (by simp)).1] at hl
  refine ⟨⟨P, ps, M, rfl, hp, by omega, hw⟩, h.stab.trans ?_⟩
  rw [h.eq]
  have := hs.mid P []
  simpa using this
theorem Going.idle {s : Nat} {xs0 xs P R : List En} {Q : List (List En)} (h : Going s xs0 xs P Q R) (hl : xs.length < P.length + 2 * s) (hm : xs.length ≤ P.length + s) (hs : 0 < s) : Runs (2 * s) xs := by
  have h1 := flat_len h.todo
  have h2 := h.rest.1
  have h3 := congrArg List.length h.eq
  simp only [List.length_append] at h3
  obtain ⟨ps, hp⟩ := h.done
  match Q, h1, h3, h with
  | [], h1, h3, h => exact ⟨P, ps, R, by rw [h.eq]; simp, hp, by omega, h.rest.2⟩
  | [q], h1, h3, h =>
    have hR0 : R = [] := List.length_eq_zero_iff.1 (by simp at h1 h3; omega)
    subst hR0
    exact ⟨P, ps, q, by rw [h.eq]; simp, hp, by rw [(h.todo q (by simp)).1]; omega, (h.todo q (by simp)).2⟩
  | q1 :: q2 :: Q', h1, h3, h =>
    exfalso
    simp only [List.length_cons, Nat.add_mul] at h1
    omega
end Go.Proofs.Ytdaibmafnamfgaa.Mg
