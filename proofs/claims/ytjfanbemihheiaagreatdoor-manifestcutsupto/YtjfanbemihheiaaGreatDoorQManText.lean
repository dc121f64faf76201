/-
  Layer 11, plainly: an edit's bytes; what the frames of a text come to.
-/
import Derived.Test.YtjfanbemihheiaaGreatDoorQManMath
import Derived.Test.YtjfanbemihheiaaGreatDoorPart1
import Derived.Test.YtjfanbemihheiaaGreatDoorPart3
namespace Go.Proofs.YtjfanbemihheiaaGreatDoor.Ma
open Pk (enc enc_len dnum dnum_enc dnum_some fold unfold unfold_fold fold_unfold fold_lt)
set_option linter.unusedVariables false

/-! ### An edit's bytes -/
def intB (n : Int) : List UInt8 := enc (fold n)
def fiB (f : Fi) : List UInt8 := intB f.1 ++ intB f.2
def filesB (l : List Fi) : List UInt8 := l.flatMap fiB
def intsB (l : List Int) : List UInt8 := l.flatMap intB
def encE (e : Ed) : List UInt8 := enc e.add.length ++ (filesB e.add ++ (enc e.del.length ++ (intsB e.del ++ (intB e.wal ++ (intB e.next ++ intB e.seq)))))
structure Ed.Ok (e : Ed) : Prop where
  add : ∀ f ∈ e.add, OkF f
  del : ∀ n ∈ e.del, OkI n
  wal : OkI e.wal
  next : OkI e.next
  seq : OkI e.seq
  la : e.add.length < 18446744073709551616
  ld : e.del.length < 18446744073709551616
theorem enc_free {a b : Nat} {t u : List UInt8} (ha : a < 18446744073709551616) (hb : b < 18446744073709551616) (h : enc a ++ t = enc b ++ u) : a = b ∧ t = u := by
  have h1 := dnum_enc a t ha
  rw [h, dnum_enc b u hb] at h1
  simp only [Option.some.injEq, Prod.mk.injEq] at h1
  obtain ⟨rfl, _⟩ := h1
  exact ⟨rfl, List.append_cancel_left h⟩
theorem intB_free {a b : Int} {t u : List UInt8} (ha : OkI a) (hb : OkI b) (h : intB a ++ t = intB b ++ u) : a = b ∧ t = u := by
  obtain ⟨h1, h2⟩ := enc_free (fold_lt ha.1 ha.2) (fold_lt hb.1 hb.2) h
  exact ⟨by rw [← unfold_fold a, h1, unfold_fold], h2⟩
theorem fiB_free {a b : Fi} {t u : List UInt8} (ha : OkF a) (hb : OkF b) (h : fiB a ++ t = fiB b ++ u) : a = b ∧ t = u := by
  unfold fiB at h
  rw [List.append_assoc, List.append_assoc] at h
  obtain ⟨h1, h⟩ := intB_free ha.1 hb.1 h
  obtain ⟨h2, h⟩ := intB_free ha.2 hb.2 h
  exact ⟨Prod.ext h1 h2, h⟩
theorem flat_free {α : Type} {g : α → List UInt8} {ok : α → Prop} (hg : ∀ {a b : α} {t u : List UInt8}, ok a → ok b → g a ++ t = g b ++ u → a = b ∧ t = u) :
    ∀ {a b : List α} {t u : List UInt8}, (∀ x ∈ a, ok x) → (∀ x ∈ b, ok x) → a.length = b.length → a.flatMap g ++ t = b.flatMap g ++ u → a = b ∧ t = u
  | [], [], t, u, _, _, _, h => ⟨rfl, h⟩
  | [], y :: b, _, _, _, _, hl, _ => by simp at hl
  | x :: a, [], _, _, _, _, hl, _ => by simp at hl
  | x :: a, y :: b, t, u, ha, hb, hl, h => by
    rw [List.flatMap_cons, List.flatMap_cons, List.append_assoc, List.append_assoc] at h
    obtain ⟨e1, h1⟩ := hg (ha x (by simp)) (hb y (by simp)) h
    obtain ⟨e2, h2⟩ := flat_free hg (fun z hz => ha z (List.mem_cons_of_mem _ hz)) (fun z hz => hb z (List.mem_cons_of_mem _ hz)) (by simpa using hl) h1
    exact ⟨by rw [e1, e2], h2⟩
theorem files_free {a b : List Fi} {t u : List UInt8} (ha : ∀ x ∈ a, OkF x) (hb : ∀ x ∈ b, OkF x) (hl : a.length = b.length) (h : filesB a ++ t = filesB b ++ u) : a = b ∧ t = u := flat_free fiB_free ha hb hl h
theorem ints_free {a b : List Int} {t u : List UInt8} (ha : ∀ x ∈ a, OkI x) (hb : ∀ x ∈ b, OkI x) (hl : a.length = b.length) (h : intsB a ++ t = intsB b ++ u) : a = b ∧ t = u := flat_free intB_free ha hb hl h
theorem encE_free {e d : Ed} {t u : List UInt8} (he : e.Ok) (hd : d.Ok) (h : encE e ++ t = encE d ++ u) : e = d ∧ t = u := by
  unfold encE at h
  simp only [List.append_assoc] at h
  obtain ⟨h1, h⟩ := enc_free he.la hd.la h
  obtain ⟨h2, h⟩ := files_free he.add hd.add h1 h
  obtain ⟨h3, h⟩ := enc_free he.ld hd.ld h
  obtain ⟨h4, h⟩ := ints_free he.del hd.del h3 h
  obtain ⟨h5, h⟩ := intB_free he.wal hd.wal h
  obtain ⟨h6, h⟩ := intB_free he.next hd.next h
  obtain ⟨h7, h8⟩ := intB_free he.seq hd.seq h
  clear h
  obtain ⟨a, b, c, x, y⟩ := e
  obtain ⟨a', b', c', x', y'⟩ := d
  simp only at h2 h4 h5 h6 h7
  subst h2 h4 h5 h6 h7
  exact ⟨rfl, h8⟩
/-- The text is the right edit's bytes. -/
structure IsEd (l : List UInt8) (e : Ed) : Prop where
  ok : e.Ok
  right : right e = true
  eq : l = encE e
theorem IsEd.unique {l : List UInt8} {e d : Ed} (h : IsEd l e) (k : IsEd l d) : e = d :=
  (encE_free (t := []) (u := []) h.ok k.ok (by rw [← h.eq, ← k.eq])).1
theorem intB_len (n : Int) : 1 ≤ (intB n).length ∧ (intB n).length ≤ 10 := enc_len _
theorem filesB_len (l : List Fi) : 2 * l.length ≤ (filesB l).length ∧ (filesB l).length ≤ 20 * l.length := by
  induction l with
  | nil => simp [filesB]
  | cons f l ih =>
    have h1 := intB_len f.1
    have h2 := intB_len f.2
    simp only [filesB, List.flatMap_cons, List.length_append, List.length_cons, fiB] at ih ⊢
    omega
theorem intsB_len (l : List Int) : l.length ≤ (intsB l).length ∧ (intsB l).length ≤ 10 * l.length := by
  induction l with
  | nil => simp [intsB]
  | cons f l ih =>
    have h1 := intB_len f
    simp only [intsB, List.flatMap_cons, List.length_append, List.length_cons] at ih ⊢
    omega
theorem encE_len (e : Ed) : (encE e).length ≤ 20 * e.add.length + 10 * e.del.length + 50 ∧ e.add.length + e.del.length ≤ (encE e).length := by
  have h1 := enc_len e.add.length
  have h2 := enc_len e.del.length
  have h3 := filesB_len e.add
  have h4 := intsB_len e.del
  have h5 := intB_len e.wal
  have h6 := intB_len e.next
  have h7 := intB_len e.seq
  unfold encE
  simp only [List.length_append]
  omega

/-! ### What the frames of a text come to -/
/-- The payload is an edit that can be applied. -/
def Takes (v : Ve) (p : List UInt8) (e : Ed) (u : Ve) : Prop := IsEd p e ∧ one v e = some u
def bytesOf (es : List Ed) : List UInt8 := Fr.frames (es.map encE)
structure Way (l : List UInt8) (v : Ve) (n : Nat) (es : List Ed) (rest : List UInt8) : Prop where
  whole : l = bytesOf es ++ rest
  eds : ∀ e ∈ es, IsEd (encE e) e ∧ (encE e).length ≤ 65536
  at_ : n = (bytesOf es).length
  led : app Ve.zero es = some v
/-- The text comes to v, its first n bytes taken. -/
structure Comes (l : List UInt8) (v : Ve) (n : Nat) : Prop where
  way : ∃ es rest, Way l v n es rest ∧ ∀ p r e u, p.length ≤ 65536 → rest = Fr.frame p ++ r → ¬ Takes v p e u
theorem bytesOf_nil : bytesOf [] = [] := rfl
theorem bytesOf_cons (e : Ed) (es : List Ed) : bytesOf (e :: es) = Fr.frame (encE e) ++ bytesOf es := rfl
theorem bytesOf_append (a b : List Ed) : bytesOf (a ++ b) = bytesOf a ++ bytesOf b := by unfold bytesOf Fr.frames; rw [List.map_append, List.flatMap_append]
theorem bytesOf_snoc (a : List Ed) (e : Ed) : bytesOf (a ++ [e]) = bytesOf a ++ Fr.frame (encE e) := by
  rw [bytesOf_append, bytesOf_cons, bytesOf_nil, List.append_nil]
theorem Way.start (l : List UInt8) : Way l Ve.zero 0 [] l := ⟨rfl, fun e h => (by cases h), rfl, rfl⟩
theorem Way.next {l p r : List UInt8} {v u : Ve} {n : Nat} {es : List Ed} {rest : List UInt8} {e : Ed} (h : Way l v n es rest) (hp : p.length ≤ 65536) (hr : rest = Fr.frame p ++ r) (ht : Takes v p e u) : Way l u (n + 8 + p.length) (es ++ [e]) r := by
  obtain ⟨⟨h1, h2, rfl⟩, h3⟩ := ht
  refine ⟨?_, fun d hd => ?_, ?_, ?_⟩
  · rw [bytesOf_snoc, List.append_assoc, ← hr]; exact h.whole
  · rcases List.mem_append.1 hd with hd | hd
    · exact h.eds d hd
    · obtain rfl : d = e := by simpa using hd
      exact ⟨⟨h1, h2, rfl⟩, hp⟩
  · rw [bytesOf_snoc, List.length_append, Fr.frame_len, ← h.at_]; omega
  · rw [app_snoc h.led, h3]
theorem Way.stop {l : List UInt8} {v : Ve} {n : Nat} {es : List Ed} {rest : List UInt8} (h : Way l v n es rest) (hs : ∀ p r e u, p.length ≤ 65536 → rest = Fr.frame p ++ r → ¬ Takes v p e u) : Comes l v n := ⟨es, rest, h, hs⟩
theorem Way.drop {l : List UInt8} {v : Ve} {n : Nat} {es : List Ed} {rest : List UInt8} (h : Way l v n es rest) : l.drop n = rest ∧ l.take n = bytesOf es ∧ n ≤ l.length := by
  rw [h.at_, h.whole]
  exact ⟨List.drop_left, List.take_left, by simp⟩
theorem led_unique {v : Ve} {es fs : List Ed} {r s : List UInt8} {x y : Ve} (he : ∀ e ∈ es, IsEd (encE e) e ∧ (encE e).length ≤ 65536) (hf : ∀ e ∈ fs, IsEd (encE e) e ∧ (encE e).length ≤ 65536) (h : bytesOf es ++ r = bytesOf fs ++ s)
    (hx : app v es = some x) (hy : app v fs = some y) (sx : ∀ p t e u, p.length ≤ 65536 → r = Fr.frame p ++ t → ¬ Takes x p e u) (sy : ∀ p t e u, p.length ≤ 65536 → s = Fr.frame p ++ t → ¬ Takes y p e u) : es = fs := by
  induction es generalizing v fs with
  | nil =>
    cases fs with
    | nil => rfl
    | cons f fs =>
      obtain rfl : v = x := Option.some.inj hx
      rw [app_cons] at hy
      cases h1 : one v f with
      | none => rw [h1] at hy; cases hy
      | some u =>
        have := hf f (by simp)
        exact absurd ⟨this.1, h1⟩ (sx (encE f) (bytesOf fs ++ s) f u this.2 (by rw [bytesOf_nil, List.nil_append, bytesOf_cons, List.append_assoc] at h; exact h))
  | cons e es ih =>
    cases fs with
    | nil =>
      obtain rfl : v = y := Option.some.inj hy
      rw [app_cons] at hx
      cases h1 : one v e with
      | none => rw [h1] at hx; cases hx
      | some u =>
        have := he e (by simp)
        exact absurd ⟨this.1, h1⟩ (sy (encE e) (bytesOf es ++ r) e u this.2 (by rw [bytesOf_nil, List.nil_append, bytesOf_cons, List.append_assoc] at h; exact h.symm))
    | cons f fs =>
      rw [bytesOf_cons, bytesOf_cons, List.append_assoc, List.append_assoc] at h
      have h1 := he e (by simp)
      have h2 := hf f (by simp)
      obtain ⟨h3, h4⟩ := Fr.frame_first h1.2 h2.2 h
      have h5 := h2.1
      rw [← h3] at h5
      obtain rfl := h1.1.unique h5
      rw [app_cons] at hx hy
      cases h6 : one v e with
      | none => rw [h6] at hx; cases hx
      | some u =>
        rw [h6] at hx hy
        rw [ih (v := u) (fun d hd => he d (by simp [hd])) (fun d hd => hf d (by simp [hd])) h4 hx hy]
theorem Comes.unique {l : List UInt8} {v u : Ve} {n m : Nat} (h : Comes l v n) (k : Comes l u m) : v = u ∧ n = m := by
  obtain ⟨es, r, h1, h2⟩ := h.way
  obtain ⟨fs, s, k1, k2⟩ := k.way
  obtain rfl := led_unique h1.eds k1.eds (h1.whole.symm.trans k1.whole) h1.led k1.led h2 k2
  exact ⟨Option.some.inj (h1.led.symm.trans k1.led), by rw [h1.at_, k1.at_]⟩
/-- What was taken, alone, comes to the same. -/
theorem Comes.again {l : List UInt8} {v : Ve} {n : Nat} (h : Comes l v n) : n ≤ l.length ∧ Comes (l.take n) v n := by
  obtain ⟨es, r, h1, h2⟩ := h.way
  refine ⟨h1.drop.2.2, es, [], ⟨by rw [List.append_nil]; exact h1.drop.2.1, h1.eds, h1.at_, h1.led⟩, fun p t e u hp hr => ?_⟩
  have := congrArg List.length hr
  rw [List.length_append, Fr.frame_len] at this
  simp at this
  omega
/-- A manifest's text that was cut off within the frame of an edit. -/
theorem comes_cut {es : List Ed} {v : Ve} {k n : Nat} (he : ∀ e ∈ es, IsEd (encE e) e ∧ (encE e).length ≤ 65536) (hv : app Ve.zero (es.take k) = some v) (h1 : (bytesOf (es.take k)).length ≤ n) (h2 : k < es.length → n < (bytesOf (es.take (k + 1))).length) (hn : n ≤ (bytesOf es).length) :
    Comes ((bytesOf es).take n) v (bytesOf (es.take k)).length := by
  have hs : bytesOf es = bytesOf (es.take k) ++ bytesOf (es.drop k) := by rw [← bytesOf_append, List.take_append_drop]
  refine ⟨es.take k, (bytesOf (es.drop k)).take (n - (bytesOf (es.take k)).length), ⟨?_, fun e h => he e (List.mem_of_mem_take h), rfl, hv⟩, fun p r e u hp hr => ?_⟩
  · rw [hs, List.take_append, List.take_of_length_le h1]
  · exfalso
    have hf := Fr.first_frame p r hp
    rw [← hr] at hf
    by_cases hk : k < es.length
    · have h3 := h2 hk
      rw [List.take_succ_eq_append_getElem hk, bytesOf_snoc, List.length_append, Fr.frame_len] at h3
      have h4 := (he _ (List.getElem_mem hk)).2
      rw [List.drop_eq_getElem_cons hk, bytesOf_cons, List.take_append_of_le_length (by rw [Fr.frame_len]; omega), Fr.first_cut _ h4 _ (by omega)] at hf
      cases hf
    · have : es.drop k = [] := List.drop_eq_nil_of_le (by omega)
      rw [this, bytesOf_nil, List.take_nil] at hr
      have := congrArg List.length hr
      rw [List.length_append, Fr.frame_len] at this
      simp at this
      omega
end Go.Proofs.YtjfanbemihheiaaGreatDoor.Ma
