/-
  The texts MemMath, BlockMath, EnHeap, CmClone, PackPut, joined.
-/
import Derived.Test.YtedjohkdfchocaaPart1
import Derived.Deep.RegionHeld3
import Derived.BigQuiet
import Derived.Deep.RegionWith
import Derived.Shelf.LaysM
import Derived.Shelf.Strconv.Clone
import Derived.Laws.BitsAllLaws

/-
  Layer 6, plainly: versions, their order, a sorted list of them; what is added, found, taken from a key on.
-/
namespace Go.Proofs.Ytedjohkdfchocaa.Mm
open Cm
set_option linter.unusedVariables false

/-- A version. -/
structure En where
  key : ByteArray
  seq : Int
  dead : Bool
  val : ByteArray
def En.zero : En := ⟨⟨#[]⟩, 0, false, ⟨#[]⟩⟩
def En.ok (e : En) : Prop := -9223372036854775808 ≤ e.seq ∧ e.seq ≤ 9223372036854775807
/-- Does text a stand ahead of text b? -/
def lt (a b : ByteArray) : Bool := Op.bytesLess a.toList b.toList
theorem toList_inj {a b : ByteArray} (h : a.toList = b.toList) : a = b := by
  have h1 : a.data.toList = b.data.toList := by rw [← ByteArray.toList_eq, ← ByteArray.toList_eq]; exact h
  cases a; cases b; simp_all
theorem beq_toList (a b : ByteArray) : (a.toList == b.toList) = decide (a = b) := by
  by_cases h : a = b
  · subst h; simp
  · rw [decide_eq_false h]
    simp only [beq_eq_false_iff_ne, ne_eq]
    exact fun e => h (toList_inj e)
theorem bytesLess_eq : ∀ (x y : List UInt8), Op.bytesLess x y = decide (x < y)
  | [], [] => by simp [Op.bytesLess]
  | _ :: _, [] => by simp [Op.bytesLess]
  | [], _ :: _ => by simp [Op.bytesLess]
  | a :: x, b :: y => by
    rw [Op.bytesLess, bytesLess_eq x y]
    simp only [List.cons_lt_cons_iff]
    by_cases h1 : a < b <;> by_cases h2 : a = b <;> by_cases h3 : x < y <;> simp [h1, h2, h3]
theorem lt_iff (a b : ByteArray) : lt a b = true ↔ a.toList < b.toList := by unfold lt; rw [bytesLess_eq]; simp
theorem lt_irrefl (a : ByteArray) : lt a a = false := by
  cases h : lt a a
  · rfl
  · exact absurd ((lt_iff a a).1 h) (List.lt_irrefl _)
theorem lt_trans {a b c : ByteArray} (h1 : lt a b = true) (h2 : lt b c = true) : lt a c = true :=
  (lt_iff a c).2 (List.lt_trans ((lt_iff a b).1 h1) ((lt_iff b c).1 h2))
theorem lt_tri {a b : ByteArray} (h1 : lt a b = false) (h2 : lt b a = false) : a = b := by
  apply toList_inj
  have e1 : ¬ a.toList < b.toList := fun h => by rw [(lt_iff a b).2 h] at h1; cases h1
  have e2 : ¬ b.toList < a.toList := fun h => by rw [(lt_iff b a).2 h] at h2; cases h2
  exact List.le_antisymm (List.not_lt.1 e2) (List.not_lt.1 e1)
theorem lt_asymm {a b : ByteArray} (h : lt a b = true) : lt b a = false := by
  cases h2 : lt b a
  · rfl
  · have := lt_trans h h2
    rw [lt_irrefl] at this; cases this

/-- Does the version stand ahead of where one of this key and number would? -/
def En.ahead (e : En) (k : ByteArray) (s : Int) : Bool := if e.key = k then decide (s < e.seq) else lt e.key k
def less (a b : En) : Bool := a.ahead b.key b.seq
theorem ahead_le {e f : En} {k : ByteArray} {s : Int} (h1 : less e f = true) (h2 : f.ahead k s = true) : e.ahead k s = true := by
  unfold less En.ahead at *
  by_cases a1 : e.key = f.key
  · rw [if_pos a1] at h1
    by_cases a2 : f.key = k
    · rw [if_pos a2] at h2
      rw [if_pos (a1.trans a2)]
      simp at h1 h2 ⊢; omega
    · rw [if_neg a2] at h2
      rw [if_neg (by rw [a1]; exact a2), a1]; exact h2
  · rw [if_neg a1] at h1
    by_cases a2 : f.key = k
    · rw [if_neg (by rw [← a2]; exact a1), ← a2]; exact h1
    · rw [if_neg a2] at h2
      have h3 := lt_trans h1 h2
      rw [if_neg (by rintro e1; rw [e1, lt_irrefl] at h3; cases h3)]
      exact h3
theorem less_trans {a b c : En} (h1 : less a b = true) (h2 : less b c = true) : less a c = true := ahead_le h1 h2
theorem less_irrefl (a : En) : less a a = false := by unfold less En.ahead; simp
/-- Neither ahead of the other: one key, one number. -/
theorem ahead_tri {e : En} {k : ByteArray} {s : Int} {f : En} (hk : f.key = k) (hs : f.seq = s) (h1 : e.ahead k s = false) (h2 : less f e = false) : e.key = k ∧ e.seq = s := by
  subst hk hs
  unfold less En.ahead at *
  by_cases a1 : e.key = f.key
  · rw [if_pos a1] at h1
    rw [if_pos a1.symm] at h2
    simp at h1 h2
    exact ⟨a1, by omega⟩
  · rw [if_neg a1] at h1
    rw [if_neg (fun h => a1 h.symm)] at h2
    exact absurd (lt_tri h1 h2) a1
theorem less_of_not {e x : En} (h1 : e.ahead x.key x.seq = false) (h2 : ¬ (e.key = x.key ∧ e.seq = x.seq)) : less x e = true := by
  cases h : less x e
  · exact absurd (ahead_tri rfl rfl h1 h) h2
  · rfl

def Sorted (vs : List En) : Prop := vs.Pairwise fun a b => less a b = true
def pre (vs : List En) (k : ByteArray) (s : Int) : List En := vs.takeWhile (·.ahead k s)
def post (vs : List En) (k : ByteArray) (s : Int) : List En := vs.dropWhile (·.ahead k s)
theorem pre_post (vs : List En) (k : ByteArray) (s : Int) : pre vs k s ++ post vs k s = vs := List.takeWhile_append_dropWhile
theorem pre_ahead {vs : List En} {k : ByteArray} {s : Int} : ∀ e ∈ pre vs k s, e.ahead k s = true := by
  induction vs with
  | nil => intro e he; simp [pre] at he
  | cons v vs ih =>
    intro e he
    unfold pre at he
    rw [List.takeWhile_cons] at he
    split at he
    · rcases List.mem_cons.1 he with rfl | he
      · assumption
      · exact ih e he
    · simp at he
theorem post_not {vs : List En} {k : ByteArray} {s : Int} (h : Sorted vs) : ∀ e ∈ post vs k s, e.ahead k s = false := by
  induction vs with
  | nil => intro e he; simp [post] at he
  | cons v vs ih =>
    intro e he
    unfold post at he
    rw [List.dropWhile_cons] at he
    unfold Sorted at h
    rw [List.pairwise_cons] at h
    split at he
    · exact ih h.2 e he
    · rename_i hv
      rcases List.mem_cons.1 he with rfl | he
      · simpa using hv
      · cases h3 : e.ahead k s
        · rfl
        · exact absurd (ahead_le (h.1 e he) h3) hv
theorem Sorted.append {a b : List En} (h : Sorted (a ++ b)) : Sorted a ∧ Sorted b ∧ ∀ x ∈ a, ∀ y ∈ b, less x y = true := List.pairwise_append.1 h

def clean (x : En) : En := if x.dead then { x with val := ⟨#[]⟩ } else x
theorem clean_key (x : En) : (clean x).key = x.key := by unfold clean; split <;> rfl
theorem clean_seq (x : En) : (clean x).seq = x.seq := by unfold clean; split <;> rfl
/-- A list but for its first, if that one has this key and number. -/
def without (k : ByteArray) (s : Int) : List En → List En
  | [] => []
  | p :: r => if p.key = k ∧ p.seq = s then r else p :: r
theorem without_cons (k : ByteArray) (s : Int) (p : En) (r : List En) : without k s (p :: r) = if p.key = k ∧ p.seq = s then r else p :: r := rfl
def addOne (vs : List En) (x : En) : List En := pre vs x.key x.seq ++ clean x :: without x.key x.seq (post vs x.key x.seq)
theorem without_sub {k : ByteArray} {s : Int} {l : List En} : (without k s l).Sublist l := by
  cases l with
  | nil => exact List.Sublist.refl _
  | cons p r =>
    rw [without_cons]
    split
    · exact List.sublist_cons_self _ _
    · exact List.Sublist.refl _
theorem without_less {x : En} {l : List En} (hs : Sorted l) (h : ∀ e ∈ l, e.ahead x.key x.seq = false) : ∀ e ∈ without x.key x.seq l, less x e = true := by
  cases l with
  | nil => intro e he; simp [without] at he
  | cons p r =>
    unfold Sorted at hs
    rw [List.pairwise_cons] at hs
    intro e he
    rw [without_cons] at he
    split at he
    · rename_i hp
      have := hs.1 e he
      unfold less at this ⊢
      unfold En.ahead at this ⊢
      rw [hp.1, hp.2] at this
      exact this
    · rename_i hp
      have hxp : less x p = true := less_of_not (h p List.mem_cons_self) hp
      rcases List.mem_cons.1 he with rfl | he
      · exact hxp
      · exact less_trans hxp (hs.1 e he)
theorem less_clean_l (x e : En) : less (clean x) e = less x e := by unfold less En.ahead; rw [clean_key, clean_seq]
theorem less_clean_r (x e : En) : less e (clean x) = less e x := by unfold less; rw [clean_key, clean_seq]
theorem Sorted.add {vs : List En} (h : Sorted vs) (x : En) : Sorted (addOne vs x) := by
  have h0 := h
  rw [← pre_post vs x.key x.seq] at h
  obtain ⟨h1, h2, h3⟩ := h.append
  have hn := post_not (k := x.key) (s := x.seq) h0
  unfold addOne Sorted
  rw [List.pairwise_append, List.pairwise_cons]
  refine ⟨h1, ⟨fun e he => by rw [less_clean_l]; exact without_less h2 hn e he, List.Pairwise.sublist without_sub h2⟩, fun a ha b hb => ?_⟩
  rcases List.mem_cons.1 hb with rfl | hb
  · rw [less_clean_r]; exact pre_ahead a ha
  · exact h3 a ha b (without_sub.subset hb)
def addAll (vs : List En) (xs : List En) : List En := xs.foldl addOne vs
theorem addAll_snoc (vs xs : List En) (x : En) : addAll vs (xs ++ [x]) = addOne (addAll vs xs) x := by unfold addAll; rw [List.foldl_append]; rfl
theorem Sorted.addAll {vs : List En} (h : Sorted vs) (xs : List En) : Sorted (addAll vs xs) := by
  induction xs generalizing vs with
  | nil => exact h
  | cons x xs ih => exact ih (h.add x)
theorem sorted_nil : Sorted [] := List.Pairwise.nil

def sizeE (e : En) : Nat := e.key.size + e.val.size
def bytesE (vs : List En) : Nat := (vs.map sizeE).sum
theorem bytesE_append (a b : List En) : bytesE (a ++ b) = bytesE a + bytesE b := by unfold bytesE; rw [List.map_append, List.sum_append]
theorem bytesE_cons (a : En) (b : List En) : bytesE (a :: b) = sizeE a + bytesE b := rfl
theorem sizeE_clean (x : En) : sizeE (clean x) ≤ sizeE x := by
  unfold clean sizeE
  split
  · show x.key.size + 0 ≤ _; omega
  · exact Nat.le_refl _
theorem without_len {k : ByteArray} {s : Int} {l : List En} : (without k s l).length ≤ l.length ∧ bytesE (without k s l) ≤ bytesE l := by
  cases l with
  | nil => exact ⟨Nat.le_refl _, Nat.le_refl _⟩
  | cons p r =>
    rw [without_cons]
    split
    · rw [bytesE_cons]; exact ⟨by simp, by omega⟩
    · exact ⟨Nat.le_refl _, Nat.le_refl _⟩
theorem add_len (vs : List En) (x : En) : (addOne vs x).length ≤ vs.length + 1 ∧ bytesE (addOne vs x) ≤ bytesE vs + sizeE x := by
  have h := pre_post vs x.key x.seq
  have hw := without_len (k := x.key) (s := x.seq) (l := post vs x.key x.seq)
  have h1 : vs.length = (pre vs x.key x.seq).length + (post vs x.key x.seq).length := by rw [← List.length_append, h]
  have h2 : bytesE vs = bytesE (pre vs x.key x.seq) + bytesE (post vs x.key x.seq) := by rw [← bytesE_append, h]
  unfold addOne
  rw [bytesE_append, bytesE_cons, List.length_append, List.length_cons]
  have := sizeE_clean x
  omega
theorem addAll_len (vs xs : List En) : (addAll vs xs).length ≤ vs.length + xs.length ∧ bytesE (addAll vs xs) ≤ bytesE vs + bytesE xs := by
  induction xs generalizing vs with
  | nil => exact ⟨by simp [addAll], by simp [addAll, bytesE]⟩
  | cons x xs ih =>
    have h := ih (addOne vs x)
    have h2 := add_len vs x
    rw [bytesE_cons, List.length_cons]
    show (addAll (addOne vs x) xs).length ≤ _ ∧ bytesE (addAll (addOne vs x) xs) ≤ _
    omega
def AllOk (vs : List En) : Prop := ∀ e ∈ vs, e.ok
theorem clean_ok {x : En} (h : x.ok) : (clean x).ok := by unfold En.ok; rw [clean_seq]; exact h
theorem AllOk.add {vs : List En} (h : AllOk vs) {x : En} (hx : x.ok) : AllOk (addOne vs x) := by
  intro e he
  unfold addOne at he
  rcases List.mem_append.1 he with he | he
  · exact h e ((List.takeWhile_sublist _).subset he)
  · rcases List.mem_cons.1 he with rfl | he
    · exact clean_ok hx
    · exact h e ((List.dropWhile_sublist _).subset (without_sub.subset he))
theorem AllOk.addAll {vs : List En} (h : AllOk vs) {xs : List En} (hx : AllOk xs) : AllOk (addAll vs xs) := by
  induction xs generalizing vs with
  | nil => exact h
  | cons x xs ih => exact ih (h.add (hx x List.mem_cons_self)) fun e he => hx e (List.mem_cons_of_mem _ he)

/-- The first of that key that isn't too new. -/
def getE (vs : List En) (k : ByteArray) (s : Int) : Option En := vs.find? fun e => decide (e.key = k) && decide (e.seq ≤ s)
def getP (vs : List En) (k : ByteArray) (s : Int) : Option En :=
  match post vs k s with
  | [] => none
  | p :: _ => if p.key = k then some p else none
theorem ahead_no_get {e : En} {k : ByteArray} {s : Int} (h : e.ahead k s = true) : (decide (e.key = k) && decide (e.seq ≤ s)) = false := by
  unfold En.ahead at h
  split at h
  · rename_i hk
    simp at h
    simp [hk]; omega
  · rename_i hk
    simp [hk]
theorem getP_eq {vs : List En} (h : Sorted vs) (k : ByteArray) (s : Int) : getP vs k s = getE vs k s := by
  induction vs with
  | nil => rfl
  | cons v vs ih =>
    have h' := h
    unfold Sorted at h
    rw [List.pairwise_cons] at h
    unfold getE getP post
    rw [List.find?_cons, List.dropWhile_cons]
    cases hv : v.ahead k s
    · simp only [Bool.false_eq_true, if_false]
      by_cases hk : v.key = k
      · have : v.seq ≤ s := by unfold En.ahead at hv; rw [if_pos hk] at hv; simpa using hv
        simp [hk, this]
      · have hl : lt v.key k = false := by unfold En.ahead at hv; rw [if_neg hk] at hv; exact hv
        rw [if_neg hk]
        simp only [hk, decide_false, Bool.false_and]
        refine (List.find?_eq_none.2 fun e he => ?_).symm
        simp only [Bool.and_eq_true, decide_eq_true_eq, not_and]
        intro hek
        have := h.1 e he
        unfold less En.ahead at this
        rw [hek, if_neg hk, hl] at this
        cases this
    · rw [ahead_no_get hv]
      exact ih h.2
def fromE (vs : List En) (k : ByteArray) : List En := vs.dropWhile fun e => lt e.key k
theorem ahead_max {e : En} (h : e.ok) (k : ByteArray) : e.ahead k 9223372036854775807 = lt e.key k := by
  unfold En.ahead
  split
  · rename_i hk
    rw [hk, lt_irrefl]
    have := h.2
    simp; omega
  · rfl
theorem post_max {vs : List En} (h : AllOk vs) (k : ByteArray) : post vs k 9223372036854775807 = fromE vs k := by
  induction vs with
  | nil => rfl
  | cons v vs ih =>
    unfold post fromE
    rw [List.dropWhile_cons, List.dropWhile_cons, ahead_max (h v List.mem_cons_self)]
    split
    · exact ih fun e he => h e (List.mem_cons_of_mem _ he)
    · rfl

/-! ### Sorted lists with the same members -/
theorem sorted_ext {a b : List En} (ha : Sorted a) (hb : Sorted b) (h : ∀ e, e ∈ a ↔ e ∈ b) : a = b := by
  induction a generalizing b with
  | nil =>
    cases b with
    | nil => rfl
    | cons y b => exact absurd ((h y).2 List.mem_cons_self) (by simp)
  | cons x a ih =>
    cases b with
    | nil => exact absurd ((h x).1 List.mem_cons_self) (by simp)
    | cons y b =>
      unfold Sorted at ha hb
      rw [List.pairwise_cons] at ha hb
      have hxy : x = y := by
        rcases List.mem_cons.1 ((h x).1 List.mem_cons_self) with e | e
        · exact e
        · rcases List.mem_cons.1 ((h y).2 List.mem_cons_self) with e2 | e2
          · exact e2.symm
          · have h1 := less_trans (hb.1 x e) (ha.1 y e2)
            rw [less_irrefl] at h1; cases h1
      subst hxy
      rw [ih ha.2 hb.2 fun e => ?_]
      constructor
      · intro he
        rcases List.mem_cons.1 ((h e).1 (List.mem_cons_of_mem _ he)) with rfl | e2
        · have := ha.1 e he; rw [less_irrefl] at this; cases this
        · exact e2
      · intro he
        rcases List.mem_cons.1 ((h e).2 (List.mem_cons_of_mem _ he)) with rfl | e2
        · have := hb.1 e he; rw [less_irrefl] at this; cases this
        · exact e2

/-! ### In memory -/
def enShape : Shape En := ⟨4, fun e => [.string e.key, .int .i64 e.seq, .bool e.dead, .string e.val], by decide, fun _ => rfl, fun a u hu => by simp at hu; rcases hu with rfl | rfl | rfl | rfl <;> rfl⟩
def env (e : En) : Value := .agg #[.string e.key, .int .i64 e.seq, .bool e.dead, .string e.val]
end Go.Proofs.Ytedjohkdfchocaa.Mm

/-
  Layer 8, plainly: a block's bytes as a function of its versions; what reads a piece of it; no block is a beginning of another.
-/
namespace Go.Proofs.Ytedjohkdfchocaa.Bk
open Mm
open Pk (enc enc_len dnum dnum_enc dnum_some fold unfold unfold_fold fold_unfold fold_lt text dtext)
set_option linter.unusedVariables false

def bs (b : ByteArray) : List UInt8 := b.data.toList
theorem bs_inj {a b : ByteArray} (h : bs a = bs b) : a = b := by
  unfold bs at h; cases a; cases b; simp_all
theorem bs_len (b : ByteArray) : (bs b).length = b.size := by unfold bs; rw [Lib.size_eq]
theorem bs_mk (l : List UInt8) : bs ⟨l.toArray⟩ = l := by simp [bs]
theorem bs_toList (b : ByteArray) : b.toList = bs b := by unfold bs; rw [ByteArray.toList_eq]

/-! ### What two texts share -/
def share : List UInt8 → List UInt8 → Nat
  | a :: x, b :: y => if a = b then share x y + 1 else 0
  | _, _ => 0
theorem share_le : ∀ (x y : List UInt8), share x y ≤ x.length ∧ share x y ≤ y.length
  | [], y => by simp [share]
  | a :: x, [] => by simp [share]
  | a :: x, b :: y => by
    have := share_le x y
    simp only [share]
    split <;> simp <;> omega
theorem share_take : ∀ (x y : List UInt8), x.take (share x y) = y.take (share x y)
  | [], y => by simp [share]
  | a :: x, [] => by simp [share]
  | a :: x, b :: y => by
    simp only [share]
    split
    · rename_i h; subst h; simp [share_take x y]
    · simp
theorem share_is : ∀ {x y : List UInt8} {k : Nat}, k ≤ x.length → k ≤ y.length → (∀ j, j < k → x[j]? = y[j]?) → (k = x.length ∨ k = y.length ∨ x[k]? ≠ y[k]?) → share x y = k
  | [], y, k, h1, _, _, _ => by simp at h1; subst h1; simp [share]
  | a :: x, [], k, _, h2, _, _ => by simp at h2; subst h2; simp [share]
  | a :: x, b :: y, 0, _, _, _, hs => by
    simp at hs
    simp [share, hs]
  | a :: x, b :: y, k + 1, h1, h2, h, hs => by
    have h0 := h 0 (by omega)
    simp at h0
    have := share_is (x := x) (y := y) (k := k) (by simpa using h1) (by simpa using h2) (fun j hj => by simpa using h (j + 1) (by omega)) (by simpa using hs)
    simp [share, h0, this]
theorem share_nil (y : List UInt8) : share [] y = 0 := rfl

/-! ### A block -/
def mark (d : Bool) (v : List UInt8) : List UInt8 := if d then [1] else 0 :: text v
/-- A version as it stands in a block: how much of the key before it shares, the rest of its key. -/
structure Pc where
  share : Nat
  rest : ByteArray
  seq : Int
  dead : Bool
  val : ByteArray
def Pc.zero : Pc := ⟨0, ⟨#[]⟩, 0, false, ⟨#[]⟩⟩
def Pc.bytes (p : Pc) : List UInt8 := enc p.share ++ (text (bs p.rest) ++ (enc (fold p.seq) ++ mark p.dead (bs p.val)))
structure Pc.Ok (p : Pc) : Prop where
  lo : -9223372036854775808 ≤ p.seq
  hi : p.seq ≤ 9223372036854775807
  share : p.share < 9223372036854775808
  rest : p.rest.size < 9223372036854775808
  val : p.val.size < 9223372036854775808
  dead : p.dead = true → p.val = ⟨#[]⟩
def pc (last : List UInt8) (e : En) : Pc := ⟨share last (bs e.key), ⟨((bs e.key).drop (share last (bs e.key))).toArray⟩, e.seq, e.dead, e.val⟩
/-- The version that a piece stands for. -/
def glue (last : List UInt8) (p : Pc) : En := ⟨⟨(last.take p.share ++ bs p.rest).toArray⟩, p.seq, p.dead, p.val⟩
theorem glue_pc (last : List UInt8) (e : En) : glue last (pc last e) = e := by
  unfold glue pc
  simp only [bs_mk]
  have : last.take (share last (bs e.key)) ++ (bs e.key).drop (share last (bs e.key)) = bs e.key := by rw [share_take, List.take_append_drop]
  rw [this]
  cases e with
  | mk k s d v =>
    congr 1
def piece (last : List UInt8) (e : En) : List UInt8 := (pc last e).bytes
def body : List UInt8 → List En → List UInt8
  | _, [] => []
  | last, e :: r => piece last e ++ body (bs e.key) r
def lastKey : List UInt8 → List En → List UInt8
  | last, [] => last
  | _, e :: r => lastKey (bs e.key) r
def block (es : List En) : List UInt8 := enc es.length ++ body [] es
def pcs : List UInt8 → List En → List Pc
  | _, [] => []
  | last, e :: r => pc last e :: pcs (bs e.key) r
theorem pcs_len (last : List UInt8) (es : List En) : (pcs last es).length = es.length := by
  induction es generalizing last with
  | nil => rfl
  | cons e r ih => simp [pcs, ih]
theorem body_append (last : List UInt8) (a b : List En) : body last (a ++ b) = body last a ++ body (lastKey last a) b := by
  induction a generalizing last with
  | nil => rfl
  | cons e r ih => simp only [List.cons_append, body, lastKey, ih, List.append_assoc]
theorem body_snoc (last : List UInt8) (a : List En) (e : En) : body last (a ++ [e]) = body last a ++ piece (lastKey last a) e := by
  rw [body_append]; simp [body]
theorem lastKey_snoc (last : List UInt8) (a : List En) (e : En) : lastKey last (a ++ [e]) = bs e.key := by
  induction a generalizing last with
  | nil => rfl
  | cons x r ih => simp only [List.cons_append, lastKey, ih]
theorem pcs_snoc (last : List UInt8) (a : List En) (e : En) : pcs last (a ++ [e]) = pcs last a ++ [pc (lastKey last a) e] := by
  induction a generalizing last with
  | nil => rfl
  | cons x r ih => simp only [List.cons_append, pcs, lastKey, ih]
theorem lastKey_last {es : List En} (h : 0 < es.length) (last : List UInt8) : lastKey last es = bs (es.getD (es.length - 1) En.zero).key := by
  induction es generalizing last with
  | nil => simp at h
  | cons e r ih =>
    cases r with
    | nil => simp [lastKey]
    | cons x r =>
      have := ih (by simp) (bs e.key)
      simp only [lastKey, List.length_cons] at this ⊢
      rw [this]
      simp

/-! ### The order -/
theorem getD_front {a b : List En} {i : Nat} (h : i < a.length) : (a ++ b).getD i En.zero = a.getD i En.zero := by simp [List.getElem?_append_left h]
def sound (e : En) : Bool := !e.dead || decide (e.val.size = 0)
theorem sound_iff (e : En) : sound e = true ↔ (e.dead = true → e.val = ⟨#[]⟩) := by
  unfold sound
  have hv : e.val.size = 0 ↔ e.val = ⟨#[]⟩ := by
    constructor
    · intro h
      apply bs_inj
      have := bs_len e.val
      rw [h] at this
      rw [List.eq_nil_of_length_eq_zero this]; rfl
    · intro h; rw [h]; rfl
  cases e.dead <;> simp [hv]
def rises : List En → Bool
  | a :: b :: r => less a b && rises (b :: r)
  | _ => true
theorem rises_iff : ∀ (es : List En), rises es = true ↔ ∀ k, k + 1 < es.length → less (es.getD k En.zero) (es.getD (k + 1) En.zero) = true
  | [] => by simp [rises]
  | [a] => by simp [rises]
  | a :: b :: r => by
    simp only [rises, Bool.and_eq_true, rises_iff (b :: r)]
    constructor
    · rintro ⟨h1, h2⟩ k hk
      cases k with
      | zero => simpa using h1
      | succ k => simpa using h2 k (by simpa using hk)
    · intro h
      exact ⟨by simpa using h 0 (by simp), fun k hk => by simpa using h (k + 1) (by simpa using hk)⟩
def right (es : List En) : Bool := es.all sound && rises es
theorem all_iff (es : List En) : es.all sound = true ↔ ∀ k, k < es.length → sound (es.getD k En.zero) = true := by
  rw [List.all_eq_true]
  constructor
  · intro h k hk
    rw [Cm.getD_lt _ _ _ hk]
    exact h _ (List.getElem_mem hk)
  · intro h e he
    obtain ⟨k, hk, rfl⟩ := List.mem_iff_getElem.1 he
    have := h k hk
    rwa [Cm.getD_lt _ _ _ hk] at this
/-- The versions up to the k-th are right. -/
def RightTo (es : List En) (k : Nat) : Prop := ∀ i, i < k → sound (es.getD i En.zero) = true ∧ (0 < i → less (es.getD (i - 1) En.zero) (es.getD i En.zero) = true)
theorem right_iff (es : List En) : right es = true ↔ RightTo es es.length := by
  unfold right RightTo
  rw [Bool.and_eq_true, all_iff, rises_iff]
  constructor
  · rintro ⟨h1, h2⟩ i hi
    refine ⟨h1 i hi, fun h0 => ?_⟩
    have := h2 (i - 1) (by omega)
    rwa [show i - 1 + 1 = i by omega] at this
  · intro h
    exact ⟨fun k hk => (h k hk).1, fun k hk => by simpa using (h (k + 1) hk).2 (by omega)⟩
theorem RightTo.next {es : List En} {k : Nat} (h : RightTo es k) (h1 : sound (es.getD k En.zero) = true) (h2 : 0 < k → less (es.getD (k - 1) En.zero) (es.getD k En.zero) = true) : RightTo es (k + 1) := by
  intro i hi
  rcases Nat.lt_or_ge i k with h3 | h3
  · exact h i h3
  · obtain rfl : i = k := by omega
    exact ⟨h1, h2⟩
theorem not_right {es : List En} {k : Nat} (hk : k < es.length) (h : ¬ (sound (es.getD k En.zero) = true ∧ (0 < k → less (es.getD (k - 1) En.zero) (es.getD k En.zero) = true))) : right es = false := by
  cases hr : right es
  · rfl
  · exact absurd ((right_iff es).1 hr k hk) h
theorem right_append {a b : List En} (h : right (a ++ b) = true) : right a = true := by
  rw [right_iff] at h ⊢
  intro i hi
  have := h i (by simp; omega)
  rw [getD_front hi] at this
  refine ⟨this.1, fun h0 => ?_⟩
  have h2 := this.2 h0
  rwa [getD_front (by omega)] at h2
theorem right_snoc {a : List En} {e : En} (h : right a = true) (h1 : sound e = true) (h2 : 0 < a.length → less (a.getD (a.length - 1) En.zero) e = true) : right (a ++ [e]) = true := by
  rw [right_iff] at h ⊢
  intro i hi
  rw [List.length_append, List.length_singleton] at hi
  rcases Nat.lt_or_ge i a.length with h3 | h3
  · have := h i h3
    rw [getD_front h3]
    refine ⟨this.1, fun h0 => ?_⟩
    rw [getD_front (by omega)]
    exact this.2 h0
  · obtain rfl : i = a.length := by omega
    have e1 : (a ++ [e]).getD a.length En.zero = e := by simp
    rw [e1]
    refine ⟨h1, fun h0 => ?_⟩
    rw [getD_front (by omega)]
    exact h2 h0

/-! ### No bytes are those of two -/
theorem enc_free {a b : Nat} {t u : List UInt8} (ha : a < 18446744073709551616) (hb : b < 18446744073709551616) (h : enc a ++ t = enc b ++ u) : a = b ∧ t = u := by
  have h1 := dnum_enc a t ha
  rw [h, dnum_enc b u hb] at h1
  simp at h1
  obtain ⟨rfl, _⟩ := h1
  exact ⟨rfl, List.append_cancel_left h⟩
theorem text_free {x y t u : List UInt8} (hx : x.length < 18446744073709551616) (hy : y.length < 18446744073709551616) (h : text x ++ t = text y ++ u) : x = y ∧ t = u := by
  unfold text at h
  rw [List.append_assoc, List.append_assoc] at h
  obtain ⟨h1, h2⟩ := enc_free hx hy h
  exact List.append_inj h2 h1
theorem mark_free {d d' : Bool} {v v' t u : List UInt8} (hv : v.length < 18446744073709551616) (hv' : v'.length < 18446744073709551616) (hd : d = true → v = []) (hd' : d' = true → v' = []) (h : mark d v ++ t = mark d' v' ++ u) : d = d' ∧ v = v' ∧ t = u := by
  unfold mark at h
  cases d <;> cases d' <;> simp at h
  · obtain ⟨h1, h2⟩ := text_free hv hv' h
    exact ⟨rfl, h1, h2⟩
  · exact ⟨rfl, by rw [hd rfl, hd' rfl], h⟩
theorem Pc.free {p q : Pc} {t u : List UInt8} (hp : p.Ok) (hq : q.Ok) (h : p.bytes ++ t = q.bytes ++ u) : p = q ∧ t = u := by
  unfold Pc.bytes at h
  simp only [List.append_assoc] at h
  have hp3 := hp.share
  have hp4 := hp.rest
  have hp5 := hp.val
  have hq3 := hq.share
  have hq4 := hq.rest
  have hq5 := hq.val
  obtain ⟨h1, h⟩ := enc_free (by omega) (by omega) h
  obtain ⟨h2, h⟩ := text_free (by rw [bs_len]; omega) (by rw [bs_len]; omega) h
  obtain ⟨h3, h⟩ := enc_free (fold_lt hp.lo hp.hi) (fold_lt hq.lo hq.hi) h
  obtain ⟨h4, h5, h⟩ := mark_free (by rw [bs_len]; omega) (by rw [bs_len]; omega) (fun e => by rw [hp.dead e]; rfl) (fun e => by rw [hq.dead e]; rfl) h
  have h3' : p.seq = q.seq := by rw [← unfold_fold p.seq, h3, unfold_fold]
  refine ⟨?_, h⟩
  cases p; cases q
  simp only at h1 h2 h3' h4 h5
  simp only [Pc.mk.injEq]
  exact ⟨h1, bs_inj h2, h3', h4, bs_inj h5⟩

/-- A version of a right list, of a size that memory holds. -/
structure Fit (e : En) : Prop where
  ok : e.ok
  key : e.key.size < 9223372036854775808
  val : e.val.size < 9223372036854775808
  sound : sound e = true
theorem pc_ok {last : List UInt8} {e : En} (h : Fit e) : (pc last e).Ok := by
  have h1 := share_le last (bs e.key)
  rw [bs_len] at h1
  have h2 := h.key
  refine ⟨h.ok.1, h.ok.2, ?_, ?_, h.val, (sound_iff e).1 h.sound⟩
  · show share last (bs e.key) < _; omega
  · rw [← bs_len]
    show (bs ⟨((bs e.key).drop (share last (bs e.key))).toArray⟩).length < _
    rw [bs_mk, List.length_drop, bs_len]; omega
theorem piece_free {last : List UInt8} {e e' : En} {t u : List UInt8} (h : Fit e) (h' : Fit e') (he : piece last e ++ t = piece last e' ++ u) : e = e' ∧ t = u := by
  obtain ⟨h1, h2⟩ := Pc.free (pc_ok h) (pc_ok h') he
  exact ⟨by rw [← glue_pc last e, h1, glue_pc], h2⟩
theorem body_free {last : List UInt8} {a b : List En} {t u : List UInt8} (ha : ∀ e ∈ a, Fit e) (hb : ∀ e ∈ b, Fit e) (hl : a.length = b.length) (h : body last a ++ t = body last b ++ u) : a = b ∧ t = u := by
  induction a generalizing b last with
  | nil =>
    cases b with
    | nil => exact ⟨rfl, by simpa [body] using h⟩
    | cons x b => simp at hl
  | cons e a ih =>
    cases b with
    | nil => simp at hl
    | cons x b =>
      simp only [body, List.append_assoc] at h
      obtain ⟨rfl, h2⟩ := piece_free (ha e (by simp)) (hb x (by simp)) h
      obtain ⟨rfl, h3⟩ := ih (fun y hy => ha y (by simp [hy])) (fun y hy => hb y (by simp [hy])) (by simpa using hl) h2
      exact ⟨rfl, h3⟩

/-- The text is the versions' block. -/
structure IsBlock (l : List UInt8) (es : List En) : Prop where
  right : right es = true
  fit : ∀ e ∈ es, Fit e
  few : es.length < 9223372036854775808
  eq : l = block es
theorem block_free {l m : List UInt8} {a b : List En} {t u : List UInt8} (ha : IsBlock l a) (hb : IsBlock m b) (h : l ++ t = m ++ u) : a = b ∧ t = u := by
  have h1 := ha.few
  have h2 := hb.few
  rw [ha.eq, hb.eq] at h
  unfold block at h
  rw [List.append_assoc, List.append_assoc] at h
  obtain ⟨h3, h4⟩ := enc_free (by omega) (by omega) h
  exact body_free ha.fit hb.fit h3 h4
theorem IsBlock.unique {l : List UInt8} {a b : List En} (ha : IsBlock l a) (hb : IsBlock l b) : a = b := (block_free (t := []) (u := []) ha hb rfl).1
theorem IsBlock.number {l : List UInt8} {es : List En} (h : IsBlock l es) : dnum l = some (es.length, (enc es.length).length) := by
  have := h.few
  rw [h.eq]; exact dnum_enc _ _ (by omega)

/-- Whatever versions have this block begin with these, and what is left is the rest of them. -/
def Led (l : List UInt8) (n : Nat) (out : List En) (rest : List UInt8) : Prop :=
  ∀ es, IsBlock l es → es.length = n ∧ ∃ more, es = out ++ more ∧ rest = body (lastKey [] out) more
theorem Led.start {l : List UInt8} {n k : Nat} (h : dnum l = some (n, k)) : Led l n [] (l.drop k) := by
  intro es hes
  have := hes.number
  rw [h] at this
  simp at this
  obtain ⟨rfl, rfl⟩ := this
  refine ⟨rfl, es, rfl, ?_⟩
  rw [hes.eq]
  unfold block
  rw [List.drop_left]; rfl
theorem Led.none {l : List UInt8} (h : dnum l = none) (es : List En) : ¬ IsBlock l es := fun hes => by
  rw [hes.number] at h; cases h
/-- There is one more, if there are versions at all. -/
theorem Led.more {l : List UInt8} {n : Nat} {out : List En} {rest : List UInt8} (h : Led l n out rest) (hn : out.length < n) {es : List En} (hes : IsBlock l es) :
    ∃ e more, es = out ++ e :: more ∧ rest = (pc (lastKey [] out) e).bytes ++ body (bs e.key) more ∧ Fit e ∧ (0 < out.length → less (out.getD (out.length - 1) En.zero) e = true) := by
  obtain ⟨h1, more, rfl, h3⟩ := h es hes
  cases more with
  | nil => simp at h1; omega
  | cons e more =>
    refine ⟨e, more, rfl, h3, hes.fit e (by simp), fun h0 => ?_⟩
    have := ((right_iff _).1 hes.right out.length (by simp)).2 h0
    rw [getD_front (by omega)] at this
    have e1 : (out ++ e :: more).getD out.length En.zero = e := by simp
    rwa [e1] at this
theorem Led.next {l : List UInt8} {n : Nat} {out : List En} {t : List UInt8} {p : Pc} (h : Led l n out (p.bytes ++ t)) (hn : out.length < n) (hp : p.Ok) : Led l n (out ++ [glue (lastKey [] out) p]) t := by
  intro es hes
  obtain ⟨e, more, rfl, h3, h4, _⟩ := h.more hn hes
  obtain ⟨rfl, rfl⟩ := Pc.free hp (pc_ok h4) h3
  refine ⟨(h _ hes).1, more, ?_, ?_⟩
  · rw [glue_pc]; simp
  · rw [lastKey_snoc, glue_pc]
theorem Led.stop {l : List UInt8} {n : Nat} {out : List En} {rest : List UInt8} (h : Led l n out rest) (hn : out.length = n) {es : List En} (hes : IsBlock l es) : es = out ∧ rest = [] := by
  obtain ⟨h1, more, rfl, h3⟩ := h es hes
  have : more = [] := by
    rw [List.length_append] at h1
    exact List.eq_nil_of_length_eq_zero (by omega)
  subst this
  exact ⟨by simp, h3⟩

/-! ### A piece that fits behind the key before -/
/-- As the program asks it: of the key before and the piece. -/
def fitsB (key : List UInt8) (seq : Int) (p : Pc) : Bool :=
  match bs p.rest, key.drop p.share with
  | [], [] => decide (p.seq < seq)
  | [], _ :: _ => false
  | _ :: _, [] => true
  | c :: _, d :: _ => decide (d < c)
theorem lt_bs (a b : ByteArray) : lt a b = true ↔ bs a < bs b := by rw [lt_iff, bs_toList, bs_toList]
theorem share_pre (x y z : List UInt8) : share (x ++ y) (x ++ z) = x.length + share y z := by
  induction x with
  | nil => simp
  | cons c x ih => simp [share, ih]; omega
theorem lt_pre (x y z : List UInt8) : x ++ y < x ++ z ↔ y < z := by
  induction x with
  | nil => simp
  | cons c x ih => simp [List.cons_append, ih]
theorem fits_iff {e : En} {p : Pc} (hs : p.share ≤ (bs e.key).length) :
    fitsB (bs e.key) e.seq p = true ↔ (pc (bs e.key) (glue (bs e.key) p) = p ∧ less e (glue (bs e.key) p) = true) := by
  obtain ⟨A, hA⟩ : ∃ A, A = (bs e.key).take p.share := ⟨_, rfl⟩
  obtain ⟨O, hO⟩ : ∃ O, O = (bs e.key).drop p.share := ⟨_, rfl⟩
  have hsplit : bs e.key = A ++ O := by rw [hA, hO, List.take_append_drop]
  have htl : A.length = p.share := by rw [hA]; simp; omega
  have hk : bs (glue (bs e.key) p).key = A ++ bs p.rest := by unfold glue; rw [bs_mk, hA]
  have hpc : pc (bs e.key) (glue (bs e.key) p) = p ↔ share O (bs p.rest) = 0 := by
    have hsh : share (bs e.key) (bs (glue (bs e.key) p).key) = p.share + share O (bs p.rest) := by rw [hk, hsplit, share_pre, htl]
    constructor
    · intro h
      have : share (bs e.key) (bs (glue (bs e.key) p).key) = p.share := congrArg Pc.share h
      omega
    · intro h
      rw [h, Nat.add_zero] at hsh
      have hd : (A ++ bs p.rest).drop p.share = bs p.rest := by rw [← htl, List.drop_left]
      unfold pc
      rw [hsh, hk, hd]
      cases p
      unfold glue
      simp only [Pc.mk.injEq, true_and, and_true]
      apply bs_inj; rw [bs_mk]
  have heq : e.key = (glue (bs e.key) p).key ↔ O = bs p.rest := by
    constructor
    · intro h
      have h2 := congrArg bs h
      rw [hk, hsplit] at h2
      exact List.append_cancel_left h2
    · intro h
      apply bs_inj
      rw [hk, hsplit, h]
  have hlt : lt e.key (glue (bs e.key) p).key = true ↔ O < bs p.rest := by rw [lt_bs, hk, hsplit, lt_pre]
  have hles : less e (glue (bs e.key) p) = true ↔ (O = bs p.rest ∧ p.seq < e.seq) ∨ (O ≠ bs p.rest ∧ O < bs p.rest) := by
    have : less e (glue (bs e.key) p) = if e.key = (glue (bs e.key) p).key then decide (p.seq < e.seq) else lt e.key (glue (bs e.key) p).key := rfl
    rw [this]
    by_cases h : e.key = (glue (bs e.key) p).key
    · rw [if_pos h]
      simp [heq.1 h]
    · rw [if_neg h, hlt]
      have h2 : ¬ O = bs p.rest := fun q => h (heq.2 q)
      simp [h2]
  rw [hpc, hles]
  unfold fitsB
  rw [← hO]
  cases hR : bs p.rest with
  | nil =>
    cases O with
    | nil => simp [share]
    | cons d O => simp
  | cons c R =>
    cases O with
    | nil => simp [share]
    | cons d O =>
      simp only [decide_eq_true_eq, share, List.cons_lt_cons_iff]
      constructor
      · intro h
        have hne : ¬ d = c := fun q => by subst q; exact absurd h (UInt8.lt_irrefl _)
        exact ⟨by rw [if_neg hne], .inr ⟨fun q => by simp at q; exact hne q.1, .inl h⟩⟩
      · rintro ⟨h1, h2⟩
        have hne : ¬ d = c := fun q => by rw [if_pos q] at h1; omega
        rcases h2 with ⟨h2, _⟩ | ⟨_, h2 | h2⟩
        · simp at h2; exact absurd h2.1 hne
        · exact h2
        · exact absurd h2.1 hne

/-! ### How many bytes -/
theorem text_len (v : List UInt8) : (text v).length ≤ v.length + 10 ∧ 1 ≤ (text v).length := by
  have := enc_len v.length
  unfold text
  rw [List.length_append]; omega
theorem mark_len (d : Bool) (v : List UInt8) : (mark d v).length ≤ v.length + 11 ∧ 1 ≤ (mark d v).length := by
  have := text_len v
  unfold mark
  split <;> simp; omega
theorem Pc.len (p : Pc) : p.bytes.length ≤ p.rest.size + p.val.size + 41 ∧ 4 + p.rest.size ≤ p.bytes.length + 1 ∧ 3 ≤ p.bytes.length := by
  have h1 := enc_len p.share
  have h2 := text_len (bs p.rest)
  have h3 := enc_len (fold p.seq)
  have h4 := mark_len p.dead (bs p.val)
  have h5 : (text (bs p.rest)).length = (enc (bs p.rest).length).length + (bs p.rest).length := by unfold text; rw [List.length_append]
  have h6 := enc_len (bs p.rest).length
  rw [bs_len] at h2 h4 h5 h6
  unfold Pc.bytes
  simp only [List.length_append]
  omega
theorem pc_len (last : List UInt8) (e : En) : (pc last e).rest.size ≤ e.key.size := by
  rw [← bs_len]
  show (bs ⟨((bs e.key).drop (share last (bs e.key))).toArray⟩).length ≤ _
  rw [bs_mk, List.length_drop, bs_len]; omega
theorem body_len (last : List UInt8) (es : List En) : (body last es).length ≤ bytesE es + 41 * es.length := by
  induction es generalizing last with
  | nil => simp [body]
  | cons e r ih =>
    have h1 := ih (bs e.key)
    have h2 := (Pc.len (pc last e)).1
    have h3 := pc_len last e
    have h4 : (pc last e).val = e.val := rfl
    rw [h4] at h2
    rw [bytesE_cons, List.length_cons]
    simp only [body, List.length_append]
    unfold sizeE piece
    omega
theorem block_len (es : List En) : (block es).length ≤ bytesE es + 41 * es.length + 10 := by
  have := body_len [] es
  have := enc_len es.length
  unfold block
  rw [List.length_append]; omega
end Go.Proofs.Ytedjohkdfchocaa.Bk

/-
  Versions in memory: a version's own block, a row of versions, its cells, its beginning, its rest; a version stored into a row.
-/
namespace Go.Proofs.Ytedjohkdfchocaa.Mm
open Go.RowKit Cm
set_option linter.unusedVariables false

def entObj (e : En) : Obj := .cells #[.string e.key, .int .i64 e.seq, .bool e.dead, .string e.val] 44 (0, 0)
theorem ent_cells {w : World} {c : Nat} {e : En} (h : w.heap[c]? = some (entObj e)) : w.cell? ⟨c, 0, none⟩ = some (.string e.key) ∧ w.cell? ⟨c, 1, none⟩ = some (.int .i64 e.seq) ∧ w.cell? ⟨c, 2, none⟩ = some (.bool e.dead) ∧ w.cell? ⟨c, 3, none⟩ = some (.string e.val) ∧ ∀ i, w.frozen? ⟨c, i, none⟩ = false := by
  refine ⟨?_, ?_, ?_, ?_, fun i => by simp [World.frozen?, h, entObj]⟩ <;> rw [Joins.cell_of_block h] <;> rfl
theorem wrap_nat {n : Nat} {i : Int} (h : i = n) (hn : n ≤ 9223372036854775807) : IntKind.i64.wrap i = (n : Int) := by
  subst h
  simp [IntKind.wrap, IntKind.bits, IntKind.signed]
  omega
/-- The k-th of a slice of versions. -/
theorem elem_cells {w : World} {ao : Option Addr} {xs : List En} (h : ElemsAt enShape w ao xs) {k : Nat} (hk : k < xs.length) : ∃ pb off, ao = some ⟨pb, off, none⟩ ∧ w.cell? ⟨pb, off + k * 4, none⟩ = some (.string (xs.getD k En.zero).key) ∧ w.cell? ⟨pb, off + k * 4 + 1, none⟩ = some (.int .i64 (xs.getD k En.zero).seq) ∧
    w.cell? ⟨pb, off + k * 4 + 2, none⟩ = some (.bool (xs.getD k En.zero).dead) ∧ w.cell? ⟨pb, off + k * 4 + 3, none⟩ = some (.string (xs.getD k En.zero).val) := by
  rw [getD_lt _ _ _ hk]
  rcases h with rfl | ⟨pb, off, rfl, _, hc⟩
  · simp at hk
  · exact ⟨pb, off, rfl, hc k hk 0 _ rfl, hc k hk 1 _ rfl, hc k hk 2 _ rfl, hc k hk 3 _ rfl⟩
theorem bytes_take (xs : List En) (k : Nat) : bytesE (xs.take k) ≤ bytesE xs := by
  conv => rhs; rw [← List.take_append_drop k xs]
  rw [bytesE_append]; omega
theorem take_at {xs : List En} {k : Nat} (h : k < xs.length) : xs.take (k + 1) = xs.take k ++ [xs.getD k En.zero] := by rw [getD_lt _ _ _ h]; exact List.take_succ_eq_append_getElem h
theorem bytes_at {xs : List En} {k : Nat} (h : k < xs.length) : bytesE (xs.take k) + sizeE (xs.getD k En.zero) ≤ bytesE xs := by
  have := bytes_take xs (k + 1)
  rw [take_at h, bytesE_append, bytesE_cons] at this
  have h2 : bytesE [] = 0 := rfl
  omega
def zeroObj : Obj := .cells #[.string ⟨#[]⟩, .int .i64 0, .bool false, .string ⟨#[]⟩] 44 (0, 0)
theorem ent_set {w : World} {c : Nat} {e : En} (h : w.heap[c]? = some (entObj e)) (k : ByteArray) (s : Int) (d : Bool) (v : ByteArray) :
    (w.setCell ⟨c, 0, none⟩ (.string k)).cell? ⟨c, 0, none⟩ = some (.string k) ∧ ((w.setCell ⟨c, 0, none⟩ (.string k)).setCell ⟨c, 1, none⟩ (.int .i64 s)).cell? ⟨c, 1, none⟩ = some (.int .i64 s) ∧ (((w.setCell ⟨c, 0, none⟩ (.string k)).setCell ⟨c, 1, none⟩ (.int .i64 s)).setCell ⟨c, 2, none⟩ (.bool d)).cell? ⟨c, 2, none⟩ = some (.bool d) ∧
    ((((w.setCell ⟨c, 0, none⟩ (.string k)).setCell ⟨c, 1, none⟩ (.int .i64 s)).setCell ⟨c, 2, none⟩ (.bool d)).setCell ⟨c, 3, none⟩ (.string v)).cell? ⟨c, 3, none⟩ = some (.string v) := by
  unfold entObj at h
  have h1 := Joins.block_setCell h (i := 0) (.string k)
  have h2 := Joins.block_setCell h1 (i := 1) (.int .i64 s)
  have h3 := Joins.block_setCell h2 (i := 2) (.bool d)
  have h4 := Joins.block_setCell h3 (i := 3) (.string v)
  rw [Joins.cell_of_block h1, Joins.cell_of_block h2, Joins.cell_of_block h3, Joins.cell_of_block h4]
  simp
theorem infoEn : (Try.prog.info? 44).map (fun i => (i.zero, i.size, i.bytes)) = some (some (.agg #[.string ⟨#[]⟩, .int .i64 0, .bool false, .string ⟨#[]⟩]), 4, 48) := by kernel_rfl
/-- One version in a slice of its own. -/
theorem elems1 {w : World} (e : En) : ElemsAt enShape (w.alloc (entObj e)) (some ⟨w.heap.size, 0, none⟩) [e] := by
  refine .inr ⟨w.heap.size, 0, rfl, by simp, fun i hi j u hu => ?_⟩
  obtain rfl : i = 0 := by simpa using hi
  rw [Joins.cell_of_block (show (w.alloc (entObj e)).heap[w.heap.size]? = some (.cells #[.string e.key, .int .i64 e.seq, .bool e.dead, .string e.val] 44 (0, 0)) from heap_alloc_new w _)]
  match j, hu with
  | 0, hu => exact hu
  | 1, hu => exact hu
  | 2, hu => exact hu
  | 3, hu => exact hu
  | (k + 4), hu => simp [enShape] at hu
theorem own_emptyT (w : World) (e : TypeId) (k base : Nat) (h : base ≤ w.heap.size) : (w.alloc (.cells #[] e)).ownsRow base e k (.slice (some ⟨w.heap.size, 0, none⟩) 0 0) 0 [] :=
  ⟨by simp, .inr ⟨w.heap.size, 0, #[], rfl, h, heap_alloc_new w _, by simp, by simp, by simp, by simp⟩⟩
theorem own_formK {w : World} {B n k : Nat} {e : TypeId} {v : Value} {vs : List Value} (h : w.ownsRow B e k v n vs) (hn : 0 < n) : ∃ g cap, v = .slice (some ⟨g, 0, none⟩) n cap ∧ B ≤ g ∧ g < w.heap.size ∧ n ≤ cap := by
  rcases h.2 with ⟨rfl, h0⟩ | ⟨g, cap, cur, rfl, hB, hg, hle, _⟩
  · omega
  · exact ⟨g, cap, rfl, hB, lt_of_block hg, hle⟩
theorem own_cells1 {w : World} {B n g cap : Nat} {e : TypeId} {vs : List Value} (h : w.ownsRow B e 1 (.slice (some ⟨g, 0, none⟩) n cap) n vs) (hlt : g < w.heap.size) : CellsAt w (some ⟨g, 0, none⟩) vs := by
  refine .inr ⟨g, 0, rfl, hlt, fun j hj => ?_⟩
  have := h.cells (g := g) rfl j vs[j] (by simp [hj])
  rw [Go.WideShapes.add_plain] at this
  rw [this]; simp [hj]
/-- A version stored into a row. -/
theorem stored4 {w : World} {B n g cap k : Nat} {e : TypeId} {ys : List Value} (h : w.ownsRow B e 4 (.slice (some ⟨g, 0, none⟩) n cap) n ys) (hk : k < n) (a b c d : Value) :
    (∃ ys', ((((w.setCell ⟨g, k * 4, none⟩ a).setCell ⟨g, k * 4 + 1, none⟩ b).setCell ⟨g, k * 4 + 2, none⟩ c).setCell ⟨g, k * 4 + 3, none⟩ d).ownsRow B e 4 (.slice (some ⟨g, 0, none⟩) n cap) n ys') ∧
    (∀ j, j < 4 → ∃ v, w.cell? ⟨g, k * 4 + j, none⟩ = some v) ∧ ∀ i, w.frozen? ⟨g, i, none⟩ = false := by
  rcases h.2 with ⟨e1, _⟩ | ⟨g', cap', cur, e1, hB, hg, hle, hcm, hcs, htk⟩
  · cases e1
  · cases e1
    refine ⟨⟨((((cur.setIfInBounds (k * 4) a).setIfInBounds (k * 4 + 1) b).setIfInBounds (k * 4 + 2) c).setIfInBounds (k * 4 + 3) d).toList.take (n * 4), ?_, .inr ⟨g, cap, _, rfl, hB, Joins.block_setCell (Joins.block_setCell (Joins.block_setCell (Joins.block_setCell hg a) b) c) d, hle, hcm, by simpa using hcs, rfl⟩⟩, fun j hj => ?_, fun i => by simp [World.frozen?, hg]⟩
    · have h4 : n * 4 ≤ cap * 4 := Nat.mul_le_mul_right _ hle
      rw [List.length_take, Array.length_toList]
      simp only [Array.size_setIfInBounds]
      omega
    · rw [Joins.cell_of_block hg]
      exact ⟨_, Array.getElem?_eq_getElem (by have h4 : n * 4 ≤ cap * 4 := Nat.mul_le_mul_right _ hle; omega)⟩
theorem set4_block {w : World} {g i1 i2 i3 i4 : Nat} {a b c d : Value} {j : Nat} (h : j ≠ g) : ((((w.setCell ⟨g, i1, none⟩ a).setCell ⟨g, i2, none⟩ b).setCell ⟨g, i3, none⟩ c).setCell ⟨g, i4, none⟩ d).heap[j]? = w.heap[j]? := by
  rw [Below.heap_setCell _ _ _ _ (by simpa using h), Below.heap_setCell _ _ _ _ (by simpa using h), Below.heap_setCell _ _ _ _ (by simpa using h), Below.heap_setCell _ _ _ _ (by simpa using h)]
theorem set4_grown {w : World} {g i1 i2 i3 i4 : Nat} {a b c d : Value} : w.grownBy ((((w.setCell ⟨g, i1, none⟩ a).setCell ⟨g, i2, none⟩ b).setCell ⟨g, i3, none⟩ c).setCell ⟨g, i4, none⟩ d) (some g) :=
  ⟨rfl, rfl, rfl, by simp [World.setCell], fun k hk hr => set4_block (by rintro rfl; exact hr rfl)⟩
theorem all_take {xs : List En} {p : En → Bool} {b : Bool} {k : Nat} (hk : k < xs.length) (h : ∀ e ∈ xs.take k, p e = b) (hy : p (xs.getD k En.zero) = b) : ∀ e ∈ xs.take (k + 1), p e = b := by
  intro e he
  rw [take_at hk] at he
  rcases List.mem_append.1 he with he | he
  · exact h e he
  · simp at he; subst he; exact hy
/-- Where a beginning of a list ends. -/
theorem while_stop {p : En → Bool} {xs : List En} {k : Nat} (hk : k ≤ xs.length) (h : ∀ e ∈ xs.take k, p e = true) (hs : k < xs.length → p (xs.getD k En.zero) = false) : xs.takeWhile p = xs.take k ∧ xs.dropWhile p = xs.drop k := by
  have e : xs = xs.take k ++ xs.drop k := (List.take_append_drop k xs).symm
  have h1 : (xs.take k ++ xs.drop k).takeWhile p = xs.take k ∧ (xs.take k ++ xs.drop k).dropWhile p = xs.drop k := by
    rw [List.takeWhile_append_of_pos h, List.dropWhile_append_of_pos h]
    by_cases hl : k < xs.length
    · have := hs hl
      rw [getD_lt _ _ _ hl] at this
      rw [List.drop_eq_getElem_cons hl, List.takeWhile_cons_of_neg (by rw [this]; simp), List.dropWhile_cons_of_neg (by rw [this]; simp)]
      simp
    · rw [List.drop_of_length_le (by omega)]
      simp
  rw [← e] at h1
  exact h1
theorem elems_take {w : World} {ao : Option Addr} {xs : List En} (h : ElemsAt enShape w ao xs) (k : Nat) : ElemsAt enShape w ao (xs.take k) := by
  rcases h with rfl | ⟨b, off, rfl, hlt, hc⟩
  · exact .inl (by simp)
  · refine .inr ⟨b, off, rfl, hlt, fun i hi j u hu => ?_⟩
    have hi' : i < xs.length := by simp at hi; omega
    rw [List.getElem_take] at hu
    exact hc i hi' j u hu
theorem elems_drop {w : World} {b off : Nat} {xs : List En} (h : ElemsAt enShape w (some ⟨b, off, none⟩) xs) (k : Nat) : ElemsAt enShape w (some ⟨b, off + k * 4, none⟩) (xs.drop k) := by
  rcases h with rfl | ⟨b', off', he, hlt, hc⟩
  · exact .inl (by simp)
  · cases he
    refine .inr ⟨b, off + k * 4, rfl, hlt, fun i hi j u hu => ?_⟩
    have hi' : k + i < xs.length := by simp at hi; omega
    rw [List.getElem_drop] at hu
    have := hc (k + i) hi' j u hu
    rw [show off + k * 4 + i * enShape.sz + j = off + (k + i) * enShape.sz + j by show off + k * 4 + i * 4 + j = off + (k + i) * 4 + j; omega]
    exact this
end Go.Proofs.Ytedjohkdfchocaa.Mm

/-
  The library's Clone, by its contract of the shelf, laid at this translation.
-/
namespace Go.Proofs
open Go.Shelf
def Try.laysM316_ren : Go.Shelf.Ren := ⟨fun | 316 => 78 | n => n, fun | 9 => 9 | 3 => 3 | 4 => 4 | 37 => 67 | 0 => 0 | 127 => 147 | 5 => 5 | n => n, fun | n => n⟩
theorem Try.laysM316 : Go.Proofs.LaysM.n316 Try.prog Try.laysM316_ren := {
  mixed := by kernel_rfl
  f316 := Try.func78.trans (congrArg some (by kernel_rfl))
  t0 := Try.underlying0
  a0 := Try.isAgg0
  z0 := Try.sizeOf0
  v0 := Try.zeroValue0
  t3 := Try.underlying3
  a3 := Try.isAgg3
  z3 := Try.sizeOf3
  v3 := Try.zeroValue3
  t4 := Try.underlying4
  a4 := Try.isAgg4
  z4 := Try.sizeOf4
  v4 := Try.zeroValue4
  t9 := Try.underlying9
  a9 := Try.isAgg9
  z9 := Try.sizeOf9
  v9 := Try.zeroValue9
  t37 := Try.underlying67
  a37 := Try.isAgg67
  z37 := Try.sizeOf67
  v37 := Try.zeroValue67
  t127 := Try.underlying147
  a127 := Try.isAgg147
  z127 := Try.sizeOf147
  v127 := Try.zeroValue147
  t5 := Try.underlying5
  a5 := Try.isAgg5
  z5 := Try.sizeOf5
  v5 := Try.zeroValue5
  i0 := by kernel_rfl
  i3 := by kernel_rfl
  i4 := by kernel_rfl
  i5 := by kernel_rfl
  i9 := by kernel_rfl
  i37 := by kernel_rfl
  i127 := by kernel_rfl }
end Go.Proofs

namespace Go.Proofs.Ytedjohkdfchocaa.Cm
open Go.RowKit
set_option linter.unusedVariables false

theorem clone_any (s : ByteArray) (w : World) (hlim : s.size ≤ 281474976710656) :
    Calls Try.prog 53 #[.string s] w fun e w' => e = .returned (.string s) ∧ Below w.heap.size w w' := by
  go_enter Try.func53, Try.ntmps53
  go_wp2_with fail
  refine (Any.stringslite_Clone Try.laysM316 s _ hlim).mono ?_
  rintro e w1 ⟨rfl, hb⟩
  go_wp2
  go_ret
  exact ⟨rfl, hb⟩

end Go.Proofs.Ytedjohkdfchocaa.Cm

/-
  Package pack's writer: 'putNum' puts a number's bytes behind those that were put.
-/
namespace Go.Proofs.Ytedjohkdfchocaa.Pk
open Go.RowKit
set_option linter.unusedVariables false

theorem info8 : (Try.prog.info? 5).map (fun i => (i.zero, i.size, i.bytes)) = some (some (.int .u8 0), 1, 1) := by kernel_rfl

theorem or128 (n : Nat) : bits .or .u8 ((n : Int) % 256) 128 = (((UInt8.ofNat (n % 128 + 128)).toNat : Nat) : Int) := by
  rw [u8_toNat_ofNat (by omega), show (n : Int) % 256 = ((n % 256 : Nat) : Int) by omega]
  have := u8_or_nat (n % 256) 128 (by omega) (by omega)
  rw [show (((128 : Nat) : Int)) = 128 from rfl] at this
  rw [this]
  congr 1
  have h2 : n % 128 < 2 ^ 7 := by omega
  have h5 : 128 + n % 128 = 128 ||| n % 128 := Nat.two_pow_add_eq_or_of_lt h2 1
  have h3 : n % 256 / 128 = 0 ∨ n % 256 / 128 = 1 := by omega
  rcases h3 with h3 | h3
  · have h4 : n % 256 = n % 128 := by omega
    rw [h4, Nat.or_comm]
    omega
  · have h6 : n % 256 = 128 ||| n % 128 := by omega
    rw [h6, Nat.or_assoc, Nat.or_comm (n % 128), ← Nat.or_assoc, show 128 ||| 128 = 128 from rfl, ← h5]
    omega
theorem low8 {n : Nat} (h : n < 128) : (n : Int) = (((UInt8.ofNat n).toNat : Nat) : Int) := by
  rw [u8_toNat_ofNat (by omega)]

set_option maxRecDepth 100000 in
set_option maxHeartbeats 1000000 in
theorem putNum_any (base b n : Nat) (r : Option Nat) (bs : List UInt8) (w : World) (hw : WrAt w base b r bs) (hn : n < 18446744073709551616) (hsz : bs.length + (enc n).length ≤ 140737488355328) (hbase : base ≤ w.heap.size) :
    Calls Try.prog 86 #[.pointer (some ⟨b, 0, none⟩), .int .u64 n] w fun e w' => e = .returned (.tuple #[]) ∧ ∃ r', WrAt w' base b r' (bs ++ enc n) ∧ Step b w r w' r' := by
  obtain ⟨i0, hi, hz0, hz1, hz2⟩ := info_parts info8
  go_enter Try.func86, Try.ntmps86
  go_wp2
  go_loopw [1] (fun nv wr => ∃ (m f : Nat) (bs1 : List UInt8) (r1 : Option Nat), nv = .int .u64 m ∧ m < 18446744073709551616 ∧ Hid (m < 128 ^ (f + 1)) ∧ Hid (bs1 ++ encF f m = bs ++ enc n) ∧ Hid (WrAt wr base b r1 bs1) ∧ Hid (Step b w r wr r1)) (fun nv _ => (intOf nv).toNat)
  case atStart => exact ⟨n, 9, bs, r, rfl, hn, by show n < 128 ^ 10; omega, rfl, hw, Step.refl _ _ _⟩
  case round =>
    obtain ⟨m, f, bs1, r1, rfl, hm, HF, HE, HW, HS⟩ := hrel
    have hl1 : bs1.length + 1 ≤ bs.length + (enc n).length := by
      have h1 := congrArg List.length HE.out
      have h2 := (encF_len f m).1
      simp at h1; omega
    obtain ⟨v, hb, hown, hr⟩ := HW.out
    have hbr : some b ≠ v.ownBlock := fun e => (HW.out.row_ge b (by rw [← hr, ← e])).2.2 rfl
    have hlt : b < wr.heap.size := HW.out.lt
    have hsw := HS.out.kept.size
    have hc := cell_of_one hb
    have hfz := free_of_one hb
    by_cases hge : 128 ≤ m
    · obtain ⟨f, rfl⟩ : ∃ f', f = f' + 1 := by
        cases f with
        | zero => have := HF.out; simp at this; omega
        | succ f => exact ⟨f, rfl⟩
      obtain ⟨c, HC⟩ : ∃ c, Hid (c = UInt8.ofNat (m % 128 + 128)) := ⟨_, rfl⟩
      have HF1 : Hid (m / 128 < 128 ^ (f + 1)) := by have := HF.out; rw [Nat.pow_succ] at this; show m / 128 < 128 ^ (f + 1); omega
      have HE1 : Hid ((bs1 ++ [c]) ++ encF f (m / 128) = bs ++ enc n) := by
        show (bs1 ++ [c]) ++ encF f (m / 128) = bs ++ enc n
        rw [← HE.out, encF_big _ _ hge, HC.out]; simp
      have hor : bits .or .u8 ((m : Int) % 256) 128 = (c.toNat : Int) := by rw [HC.out]; exact or128 m
      go_wp2_with (at_builtin; refine wpList_append_lies _ rfl _ _ 67 rfl base 5 i0 (.int .u8 0) 1 1 Try.underlying67 hi hz0 hz1 hz2 rfl (by decide) v bs1.length (bs1.map B8) rfl (hown.alloc _) ⟨wr.heap.size, 0, none⟩ 1 1 [B8 c] rfl rfl ?c1 ?c2 (by decide) ?c3 ?c4 ?c5 (wr.heap.size + 1) (by simp) ?_)
      case c1 => exact World.news_of_block (heap_alloc_new wr _)
      case c2 => intro u hu; simp at hu; subst hu; rfl
      case c3 => unfold maxLen; omega
      case c4 => omega
      case c5 => simp; omega
      intro g cap w1 hown1 hgrow hat hgl
      have R := wr_put (new := [c]) hb hown (Step.alloc b _ wr _) ((Below.heap_alloc _ _ _ hlt).trans hb) hown1 rfl (by rw [hr]; exact hgrow) (by rw [hr]; simpa using hat)
      have hb1 : w1.heap[b]? = some (.cells #[v] 144 (0, 0)) := (hgrow.block b (by simp; omega) (by rw [← hr]; exact hbr)).trans ((Below.heap_alloc _ _ _ hlt).trans hb)
      have hc1 := cell_of_one hb1
      have hf1 := free_of_one hb1
      rw [hr] at R
      have HR : Hid _ := R
      clear R hown1 hgrow hat hgl hb1 hown hb hc hfz hor
      go_wp2
      go_roundw
      case rel => exact ⟨m / 128, f, bs1 ++ [c], some g, by go_num, by omega, HF1, HE1, HR.out.1, HS.out.trans HR.out.2⟩
      case measure => simp [intOf]; omega
    · obtain ⟨c, HC⟩ : ∃ c, Hid (c = UInt8.ofNat m) := ⟨_, rfl⟩
      have hlow : (m : Int) = (c.toNat : Int) := by rw [HC.out]; exact low8 (by omega)
      have HE1 : Hid (bs1 ++ [c] = bs ++ enc n) := by
        show bs1 ++ [c] = bs ++ enc n
        rw [← HE.out, encF_small _ _ (by omega), HC.out]
      have hm' : m = c.toNat := by omega
      subst hm'
      clear hlow HC
      go_wp2_with (at_builtin; refine wpList_append_lies _ rfl _ _ 67 rfl base 5 i0 (.int .u8 0) 1 1 Try.underlying67 hi hz0 hz1 hz2 rfl (by decide) v bs1.length (bs1.map B8) rfl (hown.alloc _) ⟨wr.heap.size, 0, none⟩ 1 1 [B8 c] rfl rfl ?d1 ?d2 (by decide) ?d3 ?d4 ?d5 (wr.heap.size + 1) (by simp) ?_)
      case d1 => exact World.news_of_block (heap_alloc_new wr _)
      case d2 => intro u hu; simp at hu; subst hu; rfl
      case d3 => unfold maxLen; omega
      case d4 => omega
      case d5 => simp; omega
      intro g cap w1 hown1 hgrow hat hgl
      have R := wr_put (new := [c]) hb hown (Step.alloc b _ wr _) ((Below.heap_alloc _ _ _ hlt).trans hb) hown1 rfl (by rw [hr]; exact hgrow) (by rw [hr]; simpa using hat)
      have hb1 : w1.heap[b]? = some (.cells #[v] 144 (0, 0)) := (hgrow.block b (by simp; omega) (by rw [← hr]; exact hbr)).trans ((Below.heap_alloc _ _ _ hlt).trans hb)
      have hc1 := cell_of_one hb1
      have hf1 := free_of_one hb1
      rw [hr] at R
      have HR : Hid _ := R
      clear R hown1 hgrow hat hgl hb1 hown hb hc hfz
      go_wp2
      go_end0
      exact ⟨rfl, some g, by rw [← HE1.out]; exact HR.out.1, HS.out.trans HR.out.2⟩

end Go.Proofs.Ytedjohkdfchocaa.Pk
