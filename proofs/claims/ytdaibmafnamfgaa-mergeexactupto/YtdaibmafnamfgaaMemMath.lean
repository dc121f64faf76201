/-
  Layer 6, plainly: versions, their order, a sorted list of them; what is added, found, taken from a key on.
-/
import Derived.Test.YtdaibmafnamfgaaCmRows
namespace Go.Proofs.Ytdaibmafnamfgaa.Mm
open Cm
set_option linter.unusedVariables false

/-- A version. -/
structure En where
  key : ByteArray
  seq : Int
  dead : Bool
  val : ByteArray
def En.zero : En := ⟨⟨#[]⟩, 0, false, ⟨#[]⟩⟩
def En.ok (e : En) : Prop := -9223372036854775808 ≤ e.seq ∧ e.seq ≤ 9223372036854775807
/-- Does text a stand ahead of text b? -/
def lt (a b : ByteArray) : Bool := Op.bytesLess a.toList b.toList
theorem toList_inj {a b : ByteArray} (h : a.toList = b.toList) : a = b := by
  have h1 : a.data.toList = b.data.toList := by rw [← ByteArray.toList_eq, ← ByteArray.toList_eq]; exact h
  cases a; cases b; simp_all
theorem beq_toList (a b : ByteArray) : (a.toList == b.toList) = decide (a = b) := by
  by_cases h : a = b
  · subst h; simp
  · rw [decide_eq_false h]
    simp only [beq_eq_false_iff_ne, ne_eq]
    exact fun e => h (toList_inj e)
theorem bytesLess_eq : ∀ (x y : List UInt8), Op.bytesLess x y = decide (x < y)
  | [], [] => by simp [Op.bytesLess]
  | _ :: _, [] => by simp [Op.bytesLess]
  | [], _ :: _ => by simp [Op.bytesLess]
  | a :: x, b :: y => by
    rw [Op.bytesLess, bytesLess_eq x y]
    simp only [List.cons_lt_cons_iff]
    by_cases h1 : a < b <;> by_cases h2 : a = b <;> by_cases h3 : x < y <;> simp [h1, h2, h3]
theorem lt_iff (a b : ByteArray) : lt a b = true ↔ a.toList < b.toList := by unfold lt; rw [bytesLess_eq]; simp
theorem lt_irrefl (a : ByteArray) : lt a a = false := by
  cases h : lt a a
  · rfl
  · exact absurd ((lt_iff a a).1 h) (List.lt_irrefl _)
theorem lt_trans {a b c : ByteArray} (h1 : lt a b = true) (h2 : lt b c = true) : lt a c = true :=
  (lt_iff a c).2 (List.lt_trans ((lt_iff a b).1 h1) ((lt_iff b c).1 h2))
theorem lt_tri {a b : ByteArray} (h1 : lt a b = false) (h2 : lt b a = false) : a = b := by
  apply toList_inj
  have e1 : ¬ a.toList < b.toList := fun h => by rw [(lt_iff a b).2 h] at h1; cases h1
  have e2 : ¬ b.toList < a.toList := fun h => by rw [(lt_iff b a).2 h] at h2; cases h2
  exact List.le_antisymm (List.not_lt.1 e2) (List.not_lt.1 e1)
theorem lt_asymm {a b : ByteArray} (h : lt a b = true) : lt b a = false := by
  cases h2 : lt b a
  · rfl
  · have := lt_trans h h2
    rw [lt_irrefl] at this; cases this

/-- Does the version stand ahead of where one of this key and number would? -/
def En.ahead (e : En) (k : ByteArray) (s : Int) : Bool := if e.key = k then decide (s < e.seq) else lt e.key k
def less (a b : En) : Bool := a.ahead b.key b.seq
theorem ahead_le {e f : En} {k : ByteArray} {s : Int} (h1 : less e f = true) (h2 : f.ahead k s = true) : e.ahead k s = true := by
  unfold less En.ahead at *
  by_cases a1 : e.key = f.key
  · rw [if_pos a1] at h1
    by_cases a2 : f.key = k
    · rw [if_pos a2] at h2
      rw [if_pos (a1.trans a2)]
      simp at h1 h2 ⊢; omega
    · rw [if_neg a2] at h2
      rw [if_neg (by rw [a1]; exact a2), a1]; exact h2
  · rw [if_neg a1] at h1
    by_cases a2 : f.key = k
    · rw [if_neg (by rw [← a2]; exact a1), ← a2]; exact h1
    · rw [if_neg a2] at h2
      have h3 := lt_trans h1 h2
      rw [if_neg (by rintro e1; rw [e1, lt_irrefl] at h3; cases h3)]
      exact h3
theorem less_trans {a b c : En} (h1 : less a b = true) (h2 : less b c = true) : less a c = true := ahead_le h1 h2
theorem less_irrefl (a : En) : less a a = false := by unfold less En.ahead; simp
/-- Neither ahead of the other: one key, one number. -/
theorem ahead_tri {e : En} {k : ByteArray} {s : Int} {f : En} (hk : f.key = k) (hs : f.seq = s) (h1 : e.ahead k s = false) (h2 : less f e = false) : e.key = k ∧ e.seq = s := by
  subst hk hs
  unfold less En.ahead at *
  by_cases a1 : e.key = f.key
  · rw [if_pos a1] at h1
    rw [if_pos a1.symm] at h2
    simp at h1 h2
    exact ⟨a1, by omega⟩
  · rw [if_neg a1] at h1
    rw [if_neg (fun h => a1 h.symm)] at h2
    exact absurd (lt_tri h1 h2) a1
theorem less_of_not {e x : En} (h1 : e.ahead x.key x.seq = false) (h2 : ¬ (e.key = x.key ∧ e.seq = x.seq)) : less x e = true := by
  cases h : less x e
  · exact absurd (ahead_tri rfl rfl h1 h) h2
  · rfl

def Sorted (vs : List En) : Prop := vs.Pairwise fun a b => less a b = true
def pre (vs : List En) (k : ByteArray) (s : Int) : List En := vs.takeWhile (·.ahead k s)
def post (vs : List En) (k : ByteArray) (s : Int) : List En := vs.dropWhile (·.ahead k s)
theorem pre_post (vs : List En) (k : ByteArray) (s : Int) : pre vs k s ++ post vs k s = vs := List.takeWhile_append_dropWhile
theorem pre_ahead {vs : List En} {k : ByteArray} {s : Int} : ∀ e ∈ pre vs k s, e.ahead k s = true := by
  induction vs with
  | nil => intro e he; simp [pre] at he
  | cons v vs ih =>
    intro e he
    unfold pre at he
    rw [List.takeWhile_cons] at he
    split at he
    · rcases List.mem_cons.1 he with rfl | he
      · assumption
      · exact ih e he
    · simp at he
theorem post_not {vs : List En} {k : ByteArray} {s : Int} (h : Sorted vs) : ∀ e ∈ post vs k s, e.ahead k s = false := by
  induction vs with
  | nil => intro e he; simp [post] at he
  | cons v vs ih =>
    intro e he
    unfold post at he
    rw [List.dropWhile_cons] at he
    unfold Sorted at h
    rw [List.pairwise_cons] at h
    split at he
    · exact ih h.2 e he
    · rename_i hv
      rcases List.mem_cons.1 he with rfl | he
      · simpa using hv
      · cases h3 : e.ahead k s
        · rfl
        · exact absurd (ahead_le (h.1 e he) h3) hv
theorem Sorted.append {a b : List En} (h : Sorted (a ++ b)) : Sorted a ∧ Sorted b ∧ ∀ x ∈ a, ∀ y ∈ b, less x y = true := List.pairwise_append.1 h

def clean (x : En) : En := if x.dead then { x with val := ⟨#[]⟩ } else x
theorem clean_key (x : En) : (clean x).key = x.key := by unfold clean; split <;> rfl
theorem clean_seq (x : En) : (clean x).seq = x.seq := by unfold clean; split <;> rfl
/-- A list but for its first, if that one has this key and number. -/
def without (k : ByteArray) (s : Int) : List En → List En
  | [] => []
  | p :: r => if p.key = k ∧ p.seq = s then r else p :: r
theorem without_cons (k : ByteArray) (s : Int) (p : En) (r : List En) : without k s (p :: r) = if p.key = k ∧ p.seq = s then r else p :: r := rfl
def addOne (vs : List En) (x : En) : List En := pre vs x.key x.seq ++ clean x :: without x.key x.seq (post vs x.key x.seq)
theorem without_sub {k : ByteArray} {s : Int} {l : List En} : (without k s l).Sublist l := by
  cases l with
  | nil => exact List.Sublist.refl _
  | cons p r =>
    rw [without_cons]
    split
    · exact List.sublist_cons_self _ _
    · exact List.Sublist.refl _
theorem without_less {x : En} {l : List En} (hs : Sorted l) (h : ∀ e ∈ l, e.ahead x.key x.seq = false) : ∀ e ∈ without x.key x.seq l, less x e = true := by
  cases l with
  | nil => intro e he; simp [without] at he
  | cons p r =>
    unfold Sorted at hs
    rw [List.pairwise_cons] at hs
    intro e he
    rw [without_cons] at he
    split at he
    · rename_i hp
      have := hs.1 e he
      unfold less at this ⊢
      unfold En.ahead at this ⊢
      rw [hp.1, hp.2] at this
      exact this
    · rename_i hp
      have hxp : less x p = true := less_of_not (h p List.mem_cons_self) hp
      rcases List.mem_cons.1 he with rfl | he
      · exact hxp
      · exact less_trans hxp (hs.1 e he)
theorem less_clean_l (x e : En) : less (clean x) e = less x e := by unfold less En.ahead; rw [clean_key, clean_seq]
theorem less_clean_r (x e : En) : less e (clean x) = less e x := by unfold less; rw [clean_key, clean_seq]
theorem Sorted.add {vs : List En} (h : Sorted vs) (x : En) : Sorted (addOne vs x) := by
  have h0 := h
  rw [← pre_post vs x.key x.seq] at h
  obtain ⟨h1, h2, h3⟩ := h.append
  have hn := post_not (k := x.key) (s := x.seq) h0
  unfold addOne Sorted
  rw [List.pairwise_append, List.pairwise_cons]
  refine ⟨h1, ⟨fun e he => by rw [less_clean_l]; exact without_less h2 hn e he, List.Pairwise.sublist without_sub h2⟩, fun a ha b hb => ?_⟩
  rcases List.mem_cons.1 hb with rfl | hb
  · rw [less_clean_r]; exact pre_ahead a ha
  · exact h3 a ha b (without_sub.subset hb)
def addAll (vs : List En) (xs : List En) : List En := xs.foldl addOne vs
theorem addAll_snoc (vs xs : List En) (x : En) : addAll vs (xs ++ [x]) = addOne (addAll vs xs) x := by unfold addAll; rw [List.foldl_append]; rfl
theorem Sorted.addAll {vs : List En} (h : Sorted vs) (xs : List En) : Sorted (addAll vs xs) := by
  induction xs generalizing vs with
  | nil => exact h
  | cons x xs ih => exact ih (h.add x)
theorem sorted_nil : Sorted [] := List.Pairwise.nil

def sizeE (e : En) : Nat := e.key.size + e.val.size
def bytesE (vs : List En) : Nat := (vs.map sizeE).sum
theorem bytesE_append (a b : List En) : bytesE (a ++ b) = bytesE a + bytesE b := by unfold bytesE; rw [List.map_append, List.sum_append]
theorem bytesE_cons (a : En) (b : List En) : bytesE (a :: b) = sizeE a + bytesE b := rfl
theorem sizeE_clean (x : En) : sizeE (clean x) ≤ sizeE x := by
  unfold clean sizeE
  split
  · show x.key.size + 0 ≤ _; omega
  · exact Nat.le_refl _
theorem without_len {k : ByteArray} {s : Int} {l : List En} : (without k s l).length ≤ l.length ∧ bytesE (without k s l) ≤ bytesE l := by
  cases l with
  | nil => exact ⟨Nat.le_refl _, Nat.le_refl _⟩
  | cons p r =>
    rw [without_cons]
    split
    · rw [bytesE_cons]; exact ⟨by simp, by omega⟩
    · exact ⟨Nat.le_refl _, Nat.le_refl _⟩
theorem add_len (vs : List En) (x : En) : (addOne vs x).length ≤ vs.length + 1 ∧ bytesE (addOne vs x) ≤ bytesE vs + sizeE x := by
  have h := pre_post vs x.key x.seq
  have hw := without_len (k := x.key) (s := x.seq) (l := post vs x.key x.seq)
  have h1 : vs.length = (pre vs x.key x.seq).length + (post vs x.key x.seq).length := by rw [← List.length_append, h]
  have h2 : bytesE vs = bytesE (pre vs x.key x.seq) + bytesE (post vs x.key x.seq) := by rw [← bytesE_append, h]
  unfold addOne
  rw [bytesE_append, bytesE_cons, List.length_append, List.length_cons]
  have := sizeE_clean x
  omega
theorem addAll_len (vs xs : List En) : (addAll vs xs).length ≤ vs.length + xs.length ∧ bytesE (addAll vs xs) ≤ bytesE vs + bytesE xs := by
  induction xs generalizing vs with
  | nil => exact ⟨by simp [addAll], by simp [addAll, bytesE]⟩
  | cons x xs ih =>
    have h := ih (addOne vs x)
    have h2 := add_len vs x
    rw [bytesE_cons, List.length_cons]
    show (addAll (addOne vs x) xs).length ≤ _ ∧ bytesE (addAll (addOne vs x) xs) ≤ _
    omega
def AllOk (vs : List En) : Prop := ∀ e ∈ vs, e.ok
theorem clean_ok {x : En} (h : x.ok) : (clean x).ok := by unfold En.ok; rw [clean_seq]; exact h
theorem AllOk.add {vs : List En} (h : AllOk vs) {x : En} (hx : x.ok) : AllOk (addOne vs x) := by
  intro e he
  unfold addOne at he
  rcases List.mem_append.1 he with he | he
  · exact h e ((List.takeWhile_sublist _).subset he)
  · rcases List.mem_cons.1 he with rfl | he
    · exact clean_ok hx
    · exact h e ((List.dropWhile_sublist _).subset (without_sub.subset he))
theorem AllOk.addAll {vs : List En} (h : AllOk vs) {xs : List En} (hx : AllOk xs) : AllOk (addAll vs xs) := by
  induction xs generalizing vs with
  | nil => exact h
  | cons x xs ih => exact ih (h.add (hx x List.mem_cons_self)) fun e he => hx e (List.mem_cons_of_mem _ he)

/-- The first of that key that isn't too new. -/
def getE (vs : List En) (k : ByteArray) (s : Int) : Option En := vs.find? fun e => decide (e.key = k) && decide (e.seq ≤ s)
def getP (vs : List En) (k : ByteArray) (s : Int) : Option En :=
  match post vs k s with
  | [] => none
  | p :: _ => if p.key = k then some p else none
theorem ahead_no_get {e : En} {k : ByteArray} {s : Int} (h : e.ahead k s = true) : (decide (e.key = k) && decide (e.seq ≤ s)) = false := by
  unfold En.ahead at h
  split at h
  · rename_i hk
    simp at h
    simp [hk]; omega
  · rename_i hk
    simp [hk]
theorem getP_eq {vs : List En} (h : Sorted vs) (k : ByteArray) (s : Int) : getP vs k s = getE vs k s := by
  induction vs with
  | nil => rfl
  | cons v vs ih =>
    have h' := h
    unfold Sorted at h
    rw [List.pairwise_cons] at h
    unfold getE getP post
    rw [List.find?_cons, List.dropWhile_cons]
    cases hv : v.ahead k s
    · simp only [Bool.false_eq_true, if_false]
      by_cases hk : v.key = k
      · have : v.seq ≤ s := by unfold En.ahead at hv; rw [if_pos hk] at hv; simpa using hv
        simp [hk, this]
      · have hl : lt v.key k = false := by unfold En.ahead at hv; rw [if_neg hk] at hv; exact hv
        rw [if_neg hk]
        simp only [hk, decide_false, Bool.false_and]
        refine (List.find?_eq_none.2 fun e he => ?_).symm
        simp only [Bool.and_eq_true, decide_eq_true_eq, not_and]
        intro hek
        have := h.1 e he
        unfold less En.ahead at this
        rw [hek, if_neg hk, hl] at this
        cases this
    · rw [ahead_no_get hv]
      exact ih h.2
def fromE (vs : List En) (k : ByteArray) : List En := vs.dropWhile fun e => lt e.key k
theorem ahead_max {e : En} (h : e.ok) (k : ByteArray) : e.ahead k 9223372036854775807 = lt e.key k := by
  unfold En.ahead
  split
  · rename_i hk
    rw [hk, lt_irrefl]
    have := h.2
    simp; omega
  · rfl
theorem post_max {vs : List En} (h : AllOk vs) (k : ByteArray) : post vs k 9223372036854775807 = fromE vs k := by
  induction vs with
  | nil => rfl
  | cons v vs ih =>
    unfold post fromE
    rw [List.dropWhile_cons, List.dropWhile_cons, ahead_max (h v List.mem_cons_self)]
    split
    · exact ih fun e he => h e (List.mem_cons_of_mem _ he)
    · rfl

/-! ### Sorted lists with the same members -/
theorem sorted_ext {a b : List En} (ha : Sorted a) (hb : Sorted b) (h : ∀ e, e ∈ a ↔ e ∈ b) : a = b := by
  induction a generalizing b with
  | nil =>
    cases b with
    | nil => rfl
    | cons y b => exact absurd ((h y).2 List.mem_cons_self) (by simp)
  | cons x a ih =>
    cases b with
    | nil => exact absurd ((h x).1 List.mem_cons_self) (by simp)
    | cons y b =>
      unfold Sorted at ha hb
      rw [List.pairwise_cons] at ha hb
      have hxy : x = y := by
        rcases List.mem_cons.1 ((h x).1 List.mem_cons_self) with e | e
        · exact e
        · rcases List.mem_cons.1 ((h y).2 List.mem_cons_self) with e2 | e2
          · exact e2.symm
          · have h1 := less_trans (hb.1 x e) (ha.1 y e2)
            rw [less_irrefl] at h1; cases h1
      subst hxy
      rw [ih ha.2 hb.2 fun e => ?_]
      constructor
      · intro he
        rcases List.mem_cons.1 ((h e).1 (List.mem_cons_of_mem _ he)) with rfl | e2
        · have := ha.1 e he; rw [less_irrefl] at this; cases this
        · exact e2
      · intro he
        rcases List.mem_cons.1 ((h e).2 (List.mem_cons_of_mem _ he)) with rfl | e2
        · have := hb.1 e he; rw [less_irrefl] at this; cases this
        · exact e2

/-! ### In memory -/
def enShape : Shape En := ⟨4, fun e => [.string e.key, .int .i64 e.seq, .bool e.dead, .string e.val], by decide, fun _ => rfl, fun a u hu => by simp at hu; rcases hu with rfl | rfl | rfl | rfl <;> rfl⟩
def env (e : En) : Value := .agg #[.string e.key, .int .i64 e.seq, .bool e.dead, .string e.val]
end Go.Proofs.Ytdaibmafnamfgaa.Mm
