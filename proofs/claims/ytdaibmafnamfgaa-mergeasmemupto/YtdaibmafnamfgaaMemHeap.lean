/-
  Layer 6 in memory: towers and their links, a table's block; what a walk over them meets; what keeps them.
-/
import Derived.Test.YtdaibmafnamfgaaEnHeap
import Derived.Test.YtdaibmafnamfgaaCmMap
namespace Go.Proofs.Ytdaibmafnamfgaa.Mm
open Go.RowKit Cm
set_option linter.unusedVariables false

/-- A tower: its block, the block of its links, on how many levels it is seen, its version. -/
structure Nd where
  blk : Nat
  nb : Nat
  h : Nat
  e : En
/-- Where a walk stands: at the head, or at a tower. -/
structure Pos where
  blk : Nat
  off : Nat
  nb : Nat
def Nd.pos (n : Nd) : Pos := ⟨n.blk, 0, n.nb⟩
def Pos.val (p : Pos) : Value := .pointer (some ⟨p.blk, p.off, none⟩)
def first (l : Nat) (ns : List Nd) : Option Nd := ns.find? fun n => decide (l < n.h)
def ptr (o : Option Nd) : Value := .pointer (o.map fun n => ⟨n.blk, 0, none⟩)
theorem first_cons (l : Nat) (n : Nd) (ns : List Nd) : first l (n :: ns) = if l < n.h then some n else first l ns := by
  unfold first
  rw [List.find?_cons]
  by_cases h : l < n.h <;> simp [h]
theorem first_append (l : Nat) (a b : List Nd) : first l (a ++ b) = (first l a).or (first l b) := by unfold first; rw [List.find?_append]
theorem first_none {l : Nat} {ns : List Nd} (h : ∀ m ∈ ns, m.h ≤ l) : first l ns = none := by
  unfold first
  rw [List.find?_eq_none]
  intro m hm
  have := h m hm
  simp; omega
theorem first_some {l : Nat} {ns : List Nd} (h : ∃ m ∈ ns, l < m.h) : ∃ m, first l ns = some m := by
  obtain ⟨m, hm, hl⟩ := h
  cases hf : first l ns with
  | some m => exact ⟨m, rfl⟩
  | none =>
    unfold first at hf
    rw [List.find?_eq_none] at hf
    have := hf m hm
    simp at this; omega
/-- The first that is seen on a level, with what lies ahead of it. -/
theorem first_split {l : Nat} {ns : List Nd} {m : Nd} (h : first l ns = some m) : ∃ a c, ns = a ++ m :: c ∧ l < m.h ∧ ∀ x ∈ a, x.h ≤ l := by
  induction ns with
  | nil => simp [first] at h
  | cons n ns ih =>
    rw [first_cons] at h
    split at h
    · cases h
      exact ⟨[], ns, rfl, by assumption, fun x hx => by simp at hx⟩
    · obtain ⟨a, c, rfl, h1, h2⟩ := ih h
      refine ⟨n :: a, c, rfl, h1, fun x hx => ?_⟩
      rcases List.mem_cons.1 hx with rfl | hx
      · omega
      · exact h2 x hx
theorem first_zero {ns : List Nd} (h : ∀ n ∈ ns, 1 ≤ n.h) : first 0 ns = ns.head? := by
  cases ns with
  | nil => rfl
  | cons n ns => rw [first_cons, if_pos (by have := h n List.mem_cons_self; omega)]; rfl

/-- The last of some towers, or where the walk began. -/
def lastP (hd : Pos) : List Nd → Pos
  | [] => hd
  | n :: r => lastP n.pos r
def lastH (h0 : Nat) : List Nd → Nat
  | [] => h0
  | n :: r => lastH n.h r
def lastAt (l : Nat) (hd : Pos) (ns : List Nd) : Pos := lastP hd (ns.filter fun n => decide (l < n.h))
theorem lastP_snoc (hd : Pos) (a : List Nd) (n : Nd) : lastP hd (a ++ [n]) = n.pos := by
  induction a generalizing hd with
  | nil => rfl
  | cons x a ih => exact ih x.pos
theorem lastH_snoc (h0 : Nat) (a : List Nd) (n : Nd) : lastH h0 (a ++ [n]) = n.h := by
  induction a generalizing h0 with
  | nil => rfl
  | cons x a ih => exact ih x.h
theorem lastAt_append (l : Nat) (hd : Pos) (a b : List Nd) : lastAt l hd (a ++ b) = lastAt l (lastAt l hd a) b := by
  unfold lastAt
  rw [List.filter_append]
  generalize a.filter _ = x
  generalize b.filter _ = y
  induction x generalizing hd with
  | nil => rfl
  | cons n x ih => exact ih n.pos
theorem lastAt_none {l : Nat} {hd : Pos} {ns : List Nd} (h : ∀ m ∈ ns, m.h ≤ l) : lastAt l hd ns = hd := by
  unfold lastAt
  rw [List.filter_eq_nil_iff.2 fun m hm => by have := h m hm; simp; omega]
  rfl
theorem lastAt_snoc {l : Nat} {hd : Pos} {a : List Nd} {n : Nd} (h : l < n.h) : lastAt l hd (a ++ [n]) = n.pos := by
  unfold lastAt
  rw [List.filter_append, show [n].filter (fun n => decide (l < n.h)) = [n] by simp [h], lastP_snoc]
/-- Where the walk has come to, if it is seen there and nothing behind it is. -/
theorem lastAt_here {l : Nat} {hd : Pos} {a b : List Nd} (h : l < lastH 8 a) (hb : ∀ m ∈ b, m.h ≤ l) : lastAt l hd (a ++ b) = lastP hd a := by
  rw [lastAt_append, lastAt_none hb]
  rcases List.eq_nil_or_concat a with rfl | ⟨a', n, rfl⟩
  · rfl
  · rw [List.concat_eq_append] at h ⊢
    rw [lastH_snoc] at h
    rw [lastAt_snoc h, lastP_snoc]
theorem lastAt_cases (l : Nat) (hd : Pos) (ns : List Nd) : (lastAt l hd ns = hd ∧ ∀ m ∈ ns, m.h ≤ l) ∨ ∃ a n c, ns = a ++ n :: c ∧ lastAt l hd ns = n.pos ∧ l < n.h ∧ ∀ m ∈ c, m.h ≤ l := by
  induction ns generalizing hd with
  | nil => exact .inl ⟨rfl, fun m hm => by simp at hm⟩
  | cons x ns ih =>
    have e : lastAt l hd (x :: ns) = lastAt l (if l < x.h then x.pos else hd) ns := by
      unfold lastAt
      rw [List.filter_cons]
      by_cases h : l < x.h <;> simp [h, lastP]
    rw [e]
    rcases ih (if l < x.h then x.pos else hd) with ⟨h1, h2⟩ | ⟨a, n, c, rfl, h1, h2, h3⟩
    · by_cases h : l < x.h
      · rw [if_pos h] at h1
        refine .inr ⟨[], x, ns, rfl, by rw [if_pos h]; exact h1, h, h2⟩
      · rw [if_neg h] at h1
        refine .inl ⟨by rw [if_neg h]; exact h1, fun m hm => ?_⟩
        rcases List.mem_cons.1 hm with rfl | hm
        · omega
        · exact h2 m hm
    · exact .inr ⟨x :: a, n, c, rfl, h1, h2, h3⟩

/-! ### In memory -/
def nodeObj (e : En) (nb len : Nat) : Obj := .cells #[.string e.key, .int .i64 e.seq, .bool e.dead, .string e.val, .slice (some ⟨nb, 0, none⟩) len len] 44 (0, 0)
def tabObj (n m hb : Nat) (hv : Value) (turn : Nat) : Obj := .cells #[.int .i64 n, .int .i64 m, .string ⟨#[]⟩, .int .i64 0, .bool false, .string ⟨#[]⟩, .slice (some ⟨hb, 0, none⟩) 8 8, hv, .int .i64 turn] 48 (0, 0)
/-- The links of a tower that is seen on h levels, ahead of rest. -/
def LinksAt (w : World) (nb h len : Nat) (rest : List Nd) : Prop := ∃ cs, w.heap[nb]? = some (.cells cs 70 (0, 0)) ∧ cs.size = len ∧ h ≤ len ∧ ∀ l, l < h → cs[l]? = some (ptr (first l rest))
def NodeAt (w : World) (n : Nd) (rest : List Nd) : Prop := ∃ len, w.heap[n.blk]? = some (nodeObj n.e n.nb len) ∧ LinksAt w n.nb n.h len rest
/-- Towers, one behind the other, ahead of a tail. -/
def Chain (w : World) (tail : List Nd) : List Nd → Prop
  | [] => True
  | n :: r => NodeAt w n (r ++ tail) ∧ Chain w tail r
section
variable {w w' : World} {S T : Nat → Prop} {b hb : Nat} {ns tail : List Nd}
theorem Chain.append {a c : List Nd} : Chain w tail (a ++ c) ↔ Chain w (c ++ tail) a ∧ Chain w tail c := by
  induction a with
  | nil => simp [Chain]
  | cons n a ih =>
    show NodeAt w n (a ++ c ++ tail) ∧ Chain w tail (a ++ c) ↔ (NodeAt w n (a ++ (c ++ tail)) ∧ Chain w (c ++ tail) a) ∧ Chain w tail c
    rw [ih, List.append_assoc]
    exact and_assoc.symm
theorem LinksAt.keep {nb h len : Nat} {rest : List Nd} (hl : LinksAt w nb h len rest) (hk : w'.heap[nb]? = w.heap[nb]?) : LinksAt w' nb h len rest := by
  obtain ⟨cs, h1, h2⟩ := hl
  exact ⟨cs, hk.trans h1, h2⟩
theorem NodeAt.keep {n : Nd} {rest : List Nd} (h : NodeAt w n rest) (h1 : w'.heap[n.blk]? = w.heap[n.blk]?) (h2 : w'.heap[n.nb]? = w.heap[n.nb]?) : NodeAt w' n rest := by
  obtain ⟨len, g1, g2⟩ := h
  exact ⟨len, h1.trans g1, g2.keep h2⟩
theorem Chain.keep (h : Chain w tail ns) (hk : ∀ n ∈ ns, w'.heap[n.blk]? = w.heap[n.blk]? ∧ w'.heap[n.nb]? = w.heap[n.nb]?) : Chain w' tail ns := by
  induction ns with
  | nil => trivial
  | cons n ns ih =>
    obtain ⟨h1, h2⟩ := h
    have k := hk n List.mem_cons_self
    exact ⟨h1.keep k.1 k.2, ih h2 fun m hm => hk m (List.mem_cons_of_mem _ hm)⟩
/-- A table's towers. -/
structure Skip (w : World) (S : Nat → Prop) (hb : Nat) (ns : List Nd) : Prop where
  links : LinksAt w hb 8 8 ns
  chain : Chain w [] ns
  blks : (ns.map Nd.blk).Nodup
  nbs : (hb :: ns.map Nd.nb).Nodup
  ownb : ∀ n ∈ ns, S n.blk
  ownn : ∀ n ∈ ns, S n.nb
  ownh : S hb
theorem Chain.lt (h : Chain w tail ns) : ∀ n ∈ ns, n.blk < w.heap.size ∧ n.nb < w.heap.size := by
  induction ns with
  | nil => intro n hn; simp at hn
  | cons m ns ih =>
    obtain ⟨⟨len, h1, cs, h2, _⟩, h3⟩ := h
    intro n hn
    rcases List.mem_cons.1 hn with rfl | hn
    · exact ⟨lt_of_block h1, lt_of_block h2⟩
    · exact ih h3 n hn
theorem Skip.keep (h : Skip w S hb ns) (hk : ∀ k, S k → k < w.heap.size → w'.heap[k]? = w.heap[k]?) : Skip w' S hb ns := by
  have hl := h.chain.lt
  refine ⟨h.links.keep ?_, h.chain.keep fun n hn => ⟨hk _ (h.ownb n hn) (hl n hn).1, hk _ (h.ownn n hn) (hl n hn).2⟩, h.blks, h.nbs, h.ownb, h.ownn, h.ownh⟩
  obtain ⟨cs, g1, _⟩ := h.links
  exact hk _ h.ownh (lt_of_block g1)
theorem Skip.mono (h : Skip w S hb ns) (hs : ∀ k, S k → k < w.heap.size → T k) : Skip w T hb ns := by
  have hl := h.chain.lt
  obtain ⟨cs, g1, _⟩ := h.links
  exact ⟨h.links, h.chain, h.blks, h.nbs, fun n hn => hs _ (h.ownb n hn) (hl n hn).1, fun n hn => hs _ (h.ownn n hn) (hl n hn).2, hs _ h.ownh (lt_of_block g1)⟩
/-- What a walk meets where it stands. -/
def PosAt (w : World) (p : Pos) (h : Nat) (rest : List Nd) : Prop :=
  ∃ len, w.cell? ⟨p.blk, p.off + 4, none⟩ = some (.slice (some ⟨p.nb, 0, none⟩) len len) ∧ h ≤ len ∧ p.blk < w.heap.size ∧ p.nb < w.heap.size ∧ ∀ l, l < h → w.cell? ⟨p.nb, l, none⟩ = some (ptr (first l rest))
theorem LinksAt.cell {nb h len : Nat} {rest : List Nd} (hl : LinksAt w nb h len rest) : ∀ l, l < h → w.cell? ⟨nb, l, none⟩ = some (ptr (first l rest)) := by
  obtain ⟨cs, h1, h2, h3, h4⟩ := hl
  intro l hl
  rw [Joins.cell_of_block h1]
  exact h4 l hl
theorem NodeAt.pos {n : Nd} {rest : List Nd} (h : NodeAt w n rest) : PosAt w n.pos n.h rest := by
  obtain ⟨len, h1, h2⟩ := h
  have hc := h2.cell
  obtain ⟨cs, g1, g2, g3, g4⟩ := h2
  exact ⟨len, by show w.cell? ⟨n.blk, 0 + 4, none⟩ = _; rw [Joins.cell_of_block h1]; rfl, g3, lt_of_block h1, lt_of_block g1, hc⟩
theorem Skip.pos {n m turn : Nat} {hv : Value} (h : Skip w S hb ns) (ht : w.heap[b]? = some (tabObj n m hb hv turn)) {a c : List Nd} (e : ns = a ++ c) : PosAt w (lastP ⟨b, 2, hb⟩ a) (lastH 8 a) c := by
  subst e
  rcases List.eq_nil_or_concat a with rfl | ⟨a', x, rfl⟩
  · have hc := h.links.cell
    obtain ⟨cs, g1, g2, g3, g4⟩ := h.links
    exact ⟨8, by show w.cell? ⟨b, 2 + 4, none⟩ = _; rw [Joins.cell_of_block ht]; rfl, Nat.le_refl _, lt_of_block ht, lt_of_block g1, hc⟩
  · rw [List.concat_eq_append, lastP_snoc, lastH_snoc]
    have hch := h.chain
    rw [List.concat_eq_append, List.append_assoc, Chain.append] at hch
    have := hch.2.1
    simp only [List.append_nil] at this
    exact this.pos
/-- The tower that stands there. -/
theorem Skip.node {a c : List Nd} {x : Nd} (h : Skip w S hb ns) (e : ns = a ++ x :: c) : NodeAt w x c := by
  subst e
  have hch := h.chain
  rw [Chain.append] at hch
  have := hch.2.1
  rwa [List.append_nil] at this
theorem NodeAt.cells {n : Nd} {rest : List Nd} (h : NodeAt w n rest) : w.cell? ⟨n.blk, 0, none⟩ = some (.string n.e.key) ∧ w.cell? ⟨n.blk, 1, none⟩ = some (.int .i64 n.e.seq) ∧ w.cell? ⟨n.blk, 2, none⟩ = some (.bool n.e.dead) ∧ w.cell? ⟨n.blk, 3, none⟩ = some (.string n.e.val) ∧ ∀ i, w.frozen? ⟨n.blk, i, none⟩ = false := by
  obtain ⟨len, h1, h2⟩ := h
  refine ⟨?_, ?_, ?_, ?_, fun i => by simp [World.frozen?, h1, nodeObj]⟩ <;> rw [Joins.cell_of_block h1] <;> rfl

/-! ### A tower more, level by level -/
/-- The same but for the version: what is linked to is the same. -/
theorem ptr_same {n n' : Nd} (h1 : n'.blk = n.blk) (h2 : n'.h = n.h) (l : Nat) (a c : List Nd) : ptr (first l (a ++ n' :: c)) = ptr (first l (a ++ n :: c)) := by
  rw [first_append, first_append, first_cons, first_cons, h2]
  cases first l a with
  | some m => rfl
  | none =>
    simp only [Option.none_or]
    split
    · simp [ptr, h1]
    · rfl
theorem LinksAt.other {nb h len : Nat} {r1 r2 : List Nd} (hl : LinksAt w nb h len r1) (hk : w'.heap[nb]? = w.heap[nb]?) (e : ∀ l, l < h → ptr (first l r2) = ptr (first l r1)) : LinksAt w' nb h len r2 := by
  obtain ⟨cs, h1, h2, h3, h4⟩ := hl
  exact ⟨cs, hk.trans h1, h2, h3, fun l hl => by rw [e l hl]; exact h4 l hl⟩
/-- On every level but k a tower that is seen on k levels is seen as on k + 1. -/
theorem first_other {l k : Nat} (h : l ≠ k) (a post : List Nd) (x nb : Nat) (e : En) : ptr (first l (a ++ ⟨x, nb, k + 1, e⟩ :: post)) = ptr (first l (a ++ ⟨x, nb, k, e⟩ :: post)) := by
  rw [first_append, first_append, first_cons, first_cons]
  cases first l a with
  | some m => rfl
  | none =>
    simp only [Option.none_or]
    by_cases h2 : l < k
    · rw [if_pos (by omega), if_pos h2]; rfl
    · rw [if_neg (by omega), if_neg h2]
theorem first_seen {l : Nat} {a : List Nd} (h : ∃ m ∈ a, l < m.h) (r1 r2 : List Nd) : ptr (first l (a ++ r1)) = ptr (first l (a ++ r2)) := by
  obtain ⟨m, hm⟩ := first_some h
  rw [first_append, first_append, hm]; rfl
end
end Go.Proofs.Ytdaibmafnamfgaa.Mm
