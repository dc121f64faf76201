/-
  Package manifest: an edit read.
-/
import Derived.Test.YtjfanbemihheiaaGreatDoorQManFiles
namespace Go.Proofs.YtjfanbemihheiaaGreatDoor.Ma
open Go.RowKit Cm
open Pk (RdAt Step enc enc_len fold unfold)
set_option linter.unusedVariables false

/-! ### One thing behind the other -/
theorem many_free {α : Type} {put : α → List UInt8} {ok : α → Prop} (hf : ∀ {a b : α} {t u : List UInt8}, ok a → ok b → put a ++ t = put b ++ u → a = b ∧ t = u) {a b : List α} {t u : List UInt8} (ha : OkL ok a) (hb : OkL ok b) (h : manyB put a ++ t = manyB put b ++ u) : a = b ∧ t = u := by
  unfold manyB at h
  rw [List.append_assoc, List.append_assoc] at h
  obtain ⟨e1, e2⟩ := enc_free ha.1 hb.1 h
  exact flat_free (g := put) hf ha.2 hb.2 e1 e2
def seqB {α β : Type} (p : α → List UInt8) (r : β → List UInt8) (z : α × β) : List UInt8 := p z.1 ++ r z.2
def seqK {α β : Type} (p : α → Prop) (r : β → Prop) (z : α × β) : Prop := p z.1 ∧ r z.2
theorem seq_free {α β : Type} {p : α → List UInt8} {r : β → List UInt8} {op : α → Prop} {or : β → Prop} (h1 : ∀ {a b : α} {t u : List UInt8}, op a → op b → p a ++ t = p b ++ u → a = b ∧ t = u) (h2 : ∀ {a b : β} {t u : List UInt8}, or a → or b → r a ++ t = r b ++ u → a = b ∧ t = u)
    {x y : α × β} {t u : List UInt8} (hx : seqK op or x) (hy : seqK op or y) (h : seqB p r x ++ t = seqB p r y ++ u) : x = y ∧ t = u := by
  unfold seqB at h
  rw [List.append_assoc, List.append_assoc] at h
  obtain ⟨e1, e2⟩ := h1 hx.1 hy.1 h
  obtain ⟨e3, e4⟩ := h2 hx.2 hy.2 e2
  exact ⟨Prod.ext e1 e3, e4⟩
theorem Rd.seq {α β : Type} {p : α → List UInt8} {r : β → List UInt8} {op : α → Prop} {or : β → Prop} {s s1 s2 : List UInt8} {b1 b2 : Bool} {a : α} {c : β} (hf : ∀ {a b : α} {t u : List UInt8}, op a → op b → p a ++ t = p b ++ u → a = b ∧ t = u)
    (h : Rd p op s false a s1 b1) (k : Rd r or s1 b1 c s2 b2) : Rd (seqB p r) (seqK op or) s false (a, c) s2 b2 := by
  rcases h with ⟨e, _⟩ | ⟨_, rfl, h1, h2⟩ | ⟨_, rfl, h1⟩
  · cases e
  · rcases k with ⟨e, _⟩ | ⟨_, rfl, k1, k2⟩ | ⟨_, rfl, k1⟩
    · cases e
    · exact .inr (.inl ⟨rfl, rfl, ⟨h1, k1⟩, by rw [h2, k2]; unfold seqB; rw [List.append_assoc]⟩)
    · refine .inr (.inr ⟨rfl, rfl, fun y t hy e => ?_⟩)
      unfold seqB at e
      rw [h2, List.append_assoc] at e
      exact k1 _ _ hy.2 (hf h1 hy.1 e).2
  · rcases k with ⟨_, rfl⟩ | ⟨e, _⟩ | ⟨e, _⟩
    · refine .inr (.inr ⟨rfl, rfl, fun y t hy e => ?_⟩)
      unfold seqB at e
      rw [List.append_assoc] at e
      exact h1 _ _ hy.1 e
    · cases e
    · cases e
/-- An edit's fields, one behind the other. -/
abbrev Tup := (((List Fi × List Int) × Int) × Int) × Int
def tupB : Tup → List UInt8 := seqB (seqB (seqB (seqB (manyB fiB) (manyB intB)) intB) intB) intB
def tupK : Tup → Prop := seqK (seqK (seqK (seqK (OkL OkF) (OkL OkI)) OkI) OkI) OkI
def edT (z : Tup) : Ed := ⟨z.1.1.1.1, z.1.1.1.2, z.1.1.2, z.1.2, z.2⟩
theorem tupB_is (z : Tup) : tupB z = encE (edT z) := by
  unfold tupB encE seqB manyB edT filesB intsB
  simp only [List.append_assoc]
theorem tupK_iff (z : Tup) : tupK z ↔ (edT z).Ok := by
  unfold tupK seqK edT
  constructor
  · rintro ⟨⟨⟨⟨⟨h1, h2⟩, h3, h4⟩, h5⟩, h6⟩, h7⟩
    exact ⟨h2, h4, h5, h6, h7, h1, h3⟩
  · rintro ⟨h2, h4, h5, h6, h7, h1, h3⟩
    exact ⟨⟨⟨⟨⟨h1, h2⟩, h3, h4⟩, h5⟩, h6⟩, h7⟩
theorem rd_tup {s s1 s2 s3 s4 s5 : List UInt8} {b1 b2 b3 b4 b5 : Bool} {l : List Fi} {d : List Int} {x y z : Int} (h1 : Rd (manyB fiB) (OkL OkF) s false l s1 b1) (h2 : Rd (manyB intB) (OkL OkI) s1 b1 d s2 b2) (h3 : Rd intB OkI s2 b2 x s3 b3) (h4 : Rd intB OkI s3 b3 y s4 b4) (h5 : Rd intB OkI s4 b4 z s5 b5) :
    Rd tupB tupK s false ((((l, d), x), y), z) s5 b5 :=
  Rd.seq (seq_free (seq_free (seq_free (many_free fiB_free) (many_free intB_free)) intB_free) intB_free)
    (Rd.seq (seq_free (seq_free (many_free fiB_free) (many_free intB_free)) intB_free)
      (Rd.seq (seq_free (many_free fiB_free) (many_free intB_free)) (Rd.seq (many_free fiB_free) h1 h2) h3) h4) h5
theorem rd_ed {s s5 : List UInt8} {e : Ed} (h : Rd tupB tupK s false ((((e.add, e.del), e.wal), e.next), e.seq) s5 false) : e.Ok ∧ s = encE e ++ s5 := by
  rcases h with ⟨q, _⟩ | ⟨_, _, h1, h2⟩ | ⟨_, q, _⟩
  · cases q
  · exact ⟨(tupK_iff _).1 h1, by rw [h2, tupB_is]; rfl⟩
  · cases q
theorem rd_not {s s5 : List UInt8} {z : Tup} (h : Rd tupB tupK s false z s5 true) (e : Ed) : ¬ IsEd s e := fun hi => by
  rcases h with ⟨q, _⟩ | ⟨_, q, _⟩ | ⟨_, _, h1⟩
  · cases q
  · cases q
  · refine h1 ((((e.add, e.del), e.wal), e.next), e.seq) [] ((tupK_iff _).2 hi.ok) ?_
    rw [tupB_is, List.append_nil]
    exact hi.eq
/-- What is left, or what isn't right, is no edit. -/
theorem ed_not {s s5 : List UInt8} {e : Ed} (h : e.Ok) (hs : s = encE e ++ s5) (hn : s5 ≠ [] ∨ right e = false) (d : Ed) : ¬ IsEd s d := fun hi => by
  have he := hi.eq
  rw [hs] at he
  obtain ⟨rfl, h2⟩ := encE_free (t := s5) (u := []) h hi.ok (by rw [List.append_nil]; exact he)
  rcases hn with hn | hn
  · exact hn h2
  · rw [hi.right] at hn; cases hn

/-! ### The edit under way -/
theorem ed_set {w : World} {g : Nat} {a d : Value} {e : Ed} (h : w.heap[g]? = some (edObj a d e)) (a' d' x y z : Value) : ∀ X, X = (((((w.setCell ⟨g, 0, none⟩ a').setCell ⟨g, 1, none⟩ d').setCell ⟨g, 2, none⟩ x).setCell ⟨g, 3, none⟩ y).setCell ⟨g, 4, none⟩ z) →
    X.cell? ⟨g, 0, none⟩ = some a' ∧ X.cell? ⟨g, 1, none⟩ = some d' ∧ X.cell? ⟨g, 2, none⟩ = some x ∧ X.cell? ⟨g, 3, none⟩ = some y ∧ X.cell? ⟨g, 4, none⟩ = some z := by
  rintro X rfl
  unfold edObj at h
  have e1 := Joins.block_setCell h (i := 0) a'
  have e2 := Joins.block_setCell e1 (i := 1) d'
  have e3 := Joins.block_setCell e2 (i := 2) x
  have e4 := Joins.block_setCell e3 (i := 3) y
  have e5 := Joins.block_setCell e4 (i := 4) z
  refine ⟨?_, ?_, ?_, ?_, ?_⟩ <;> rw [Joins.cell_of_block e5] <;> rfl
/-- An edit whose slices are rows of its own. -/
structure EdOwn (w : World) (B : Nat) (a d : Value) (e : Ed) : Prop where
  add : w.ownsRow B 53 2 a e.add.length (fiShape.vals e.add)
  del : w.ownsRow B 3 1 d e.del.length (inShape.vals e.del)
theorem in_cells {w : World} {ao : Option Addr} {ns : List Int} (h : ElemsAt inShape w ao ns) : CellsAt w ao (ns.map (Value.int .i64)) := by
  rcases h with rfl | ⟨b, off, rfl, hlt, hc⟩
  · exact .inl rfl
  · refine .inr ⟨b, off, rfl, hlt, fun j hj => ?_⟩
    have hj' : j < ns.length := by simpa using hj
    have := hc j hj' 0 (.int .i64 ns[j]) rfl
    rw [List.getElem?_map, List.getElem?_eq_getElem hj']
    simpa [inShape] using this
theorem EdOwn.form {w : World} {B : Nat} {a d : Value} {e : Ed} (h : EdOwn w B a d e) : ∃ aa ca ad cd, a = .slice aa e.add.length ca ∧ d = .slice ad e.del.length cd := by
  obtain ⟨aa, ca, h1, _⟩ := own_rows (F := fiShape) h.add
  obtain ⟨ad, cd, h2, _⟩ := own_rows (F := inShape) h.del
  exact ⟨aa, ca, ad, cd, h1, h2⟩
theorem EdOwn.ed {w : World} {B : Nat} {aa ad : Option Addr} {ca cd : Nat} {e : Ed} (h : EdOwn w B (.slice aa e.add.length ca) (.slice ad e.del.length cd) e) {S : Nat → Prop} (hS : ∀ k, S k → k < B) (hA : ∀ f ∈ e.add, OkF f) (hD : ∀ n ∈ e.del, OkI n) (hf : e.add.length + e.del.length ≤ 100000000000) : EdAt w S aa ca ad cd e := by
  obtain ⟨aa', ca', h1, h2, h3, _, h4⟩ := own_rows (F := fiShape) h.add
  cases h1
  obtain ⟨ad', cd', k1, k2, k3, _, k4⟩ := own_rows (F := inShape) h.del
  cases k1
  exact ⟨FarFiles.of h4 (fun x hx e => by have := (h3 x hx).2.1; have := hS _ e; omega), FarNums.of (in_cells k4) (fun x hx e => by have := (k3 x hx).2.1; have := hS _ e; omega), h2, k2, hA, hD, hf⟩
theorem EdOwn.keep {w w' : World} {B : Nat} {a d : Value} {e : Ed} (h : EdOwn w B a d e) (hk : ∀ k, B ≤ k → k < w.heap.size → w'.heap[k]? = w.heap[k]?) : EdOwn w' B a d e :=
  ⟨rows_keep h.add fun k e => hk k (h.add.lt k e).1 (h.add.lt k e).2, rows_keep h.del fun k e => hk k (h.del.lt k e).1 (h.del.lt k e).2⟩
theorem EdOwn.le {w : World} {B C : Nat} {a d : Value} {e : Ed} (h : EdOwn w B a d e) (hc : C ≤ B) : EdOwn w C a d e := ⟨Joins.ownsRow_le h.add hc, Joins.ownsRow_le h.del hc⟩
/-- What Decode answers. -/
def DecAns (w : World) (s : ByteArray) (x : Ending) (w' : World) : Prop :=
  (∃ e a d, IsEd (bs s) e ∧ x = .returned (.tuple #[edV a d e, .int .i64 0]) ∧ EdOwn w' w.heap.size a d e ∧ e.add.length + e.del.length ≤ 100000000000 ∧ Below w.heap.size w w') ∨
  ((∀ e, ¬ IsEd (bs s) e) ∧ x = .returned (.tuple #[edV (.slice none 0 0) (.slice none 0 0) edZero, .int .i64 11]) ∧ Below w.heap.size w w')

structure DD (w : World) (q b g B : Nat) (s : ByteArray) (br : Bool) (a d : Value) (e : Ed) (Y : World) : Prop where
  rb : RB q b s br Y
  box : Y.heap[g]? = some (edObj a d e)
  res : Y.heap[w.heap.size]? = some (edObj (.slice none 0 0) (.slice none 0 0) edZero)
  own : EdOwn Y B a d e
  bel : Below w.heap.size w Y
/-- Where all of them lie. -/
structure Lies (w : World) (q b g B : Nat) : Prop where
  b1 : w.heap.size < b
  b2 : b < B
  q1 : w.heap.size < q
  q2 : q < B
  g1 : w.heap.size < g
  g2 : g < B
  gq : g ≠ q
  gb : g ≠ b
section
variable {w Y Z : World} {q b g B : Nat} {s s' : ByteArray} {br br' : Bool} {a d : Value} {e : Ed}
theorem DD.read (h : DD w q b g B s br a d e Y) (L : Lies w q b g B) (hr : RB q b s' br' Z) (hst : Stay q b Y Z) : DD w q b g B s' br' a d e Z :=
  ⟨hr, (hst.block g (lt_of_block h.box) L.gq L.gb).trans h.box, (hst.block _ (lt_of_block h.res) (by have := L.q1; omega) (by have := L.b1; omega)).trans h.res,
   h.own.keep (fun k h1 h2 => hst.block k h2 (by have := L.q2; omega) (by have := L.b2; omega)), h.bel.trans (hst.below h.bel.size (by have := L.q1; omega) (by have := L.b1; omega))⟩
theorem DD.put (h : DD w q b g B s br a d e Y) (L : Lies w q b g B) {i : Nat} {v a' d' : Value} {e' : Ed} (hb : (Y.setCell ⟨g, i, none⟩ v).heap[g]? = some (edObj a' d' e')) (ho : EdOwn Y B a' d' e') : DD w q b g B s br a' d' e' (Y.setCell ⟨g, i, none⟩ v) := by
  have hk : ∀ k, k ≠ g → (Y.setCell ⟨g, i, none⟩ v).heap[k]? = Y.heap[k]? := fun k hk => Below.heap_setCell _ _ _ _ (by simpa using hk)
  exact ⟨⟨(hk q L.gq.symm).trans h.rb.hq, (hk b L.gb.symm).trans h.rb.rd⟩, hb, (hk _ (by have := L.g1; omega)).trans h.res, ho.keep (fun k h1 h2 => hk k (by have := L.g2; omega)), h.bel.setCell (by have := L.g1; simp; omega) _⟩
theorem DD.cells (h : DD w q b g B s br a d e Y) : Y.cell? ⟨q, 0, none⟩ = some (.pointer (some ⟨b, 0, none⟩)) ∧ Y.cell? ⟨q, 1, none⟩ = some (.bool br) ∧ (Y.cell? ⟨g, 0, none⟩ = some a ∧ Y.cell? ⟨g, 1, none⟩ = some d ∧ Y.cell? ⟨g, 2, none⟩ = some (.int .i64 e.wal) ∧ Y.cell? ⟨g, 3, none⟩ = some (.int .i64 e.next) ∧ Y.cell? ⟨g, 4, none⟩ = some (.int .i64 e.seq)) ∧ (∀ i, Y.frozen? ⟨g, i, none⟩ = false) := by
  obtain ⟨c0, c1, _⟩ := h.rb.cells
  exact ⟨c0, c1, ed_cells h.box, fun i => by simp [World.frozen?, h.box, edObj]⟩
theorem DD.setA (h : DD w q b g B s br a d e Y) (L : Lies w q b g B) {l : List Fi} {v : Value} (ho : Y.ownsRow B 53 2 v l.length (fiShape.vals l)) : DD w q b g B s br v d ⟨l, e.del, e.wal, e.next, e.seq⟩ (Y.setCell ⟨g, 0, none⟩ v) :=
  h.put L (by have := Joins.block_setCell h.box (i := 0) v; simpa [edObj] using this) ⟨ho, h.own.del⟩
theorem DD.setD (h : DD w q b g B s br a d e Y) (L : Lies w q b g B) {l : List Int} {v : Value} (ho : Y.ownsRow B 3 1 v l.length (inShape.vals l)) : DD w q b g B s br a v ⟨e.add, l, e.wal, e.next, e.seq⟩ (Y.setCell ⟨g, 1, none⟩ v) :=
  h.put L (by have := Joins.block_setCell h.box (i := 1) v; simpa [edObj] using this) ⟨h.own.add, ho⟩
theorem DD.setW (h : DD w q b g B s br a d e Y) (L : Lies w q b g B) (n : Int) : DD w q b g B s br a d ⟨e.add, e.del, n, e.next, e.seq⟩ (Y.setCell ⟨g, 2, none⟩ (.int .i64 n)) :=
  h.put L (by have := Joins.block_setCell h.box (i := 2) (.int .i64 n); simpa [edObj] using this) ⟨h.own.add, h.own.del⟩
theorem DD.setN (h : DD w q b g B s br a d e Y) (L : Lies w q b g B) (n : Int) : DD w q b g B s br a d ⟨e.add, e.del, e.wal, n, e.seq⟩ (Y.setCell ⟨g, 3, none⟩ (.int .i64 n)) :=
  h.put L (by have := Joins.block_setCell h.box (i := 3) (.int .i64 n); simpa [edObj] using this) ⟨h.own.add, h.own.del⟩
theorem DD.setS (h : DD w q b g B s br a d e Y) (L : Lies w q b g B) (n : Int) : DD w q b g B s br a d ⟨e.add, e.del, e.wal, e.next, n⟩ (Y.setCell ⟨g, 4, none⟩ (.int .i64 n)) :=
  h.put L (by have := Joins.block_setCell h.box (i := 4) (.int .i64 n); simpa [edObj] using this) ⟨h.own.add, h.own.del⟩
end
/-- The result's box, stored. -/
theorem dec_store {w Y : World} (h : Y.heap[w.heap.size]? = some (edObj (.slice none 0 0) (.slice none 0 0) edZero)) (hb : Below w.heap.size w Y) (a d x y z : Value) : Below w.heap.size w (((((Y.setCell ⟨w.heap.size, 0, none⟩ a).setCell ⟨w.heap.size, 1, none⟩ d).setCell ⟨w.heap.size, 2, none⟩ x).setCell ⟨w.heap.size, 3, none⟩ y).setCell ⟨w.heap.size, 4, none⟩ z) :=
  ((((hb.setCell (Nat.le_refl _) _).setCell (Nat.le_refl _) _).setCell (Nat.le_refl _) _).setCell (Nat.le_refl _) _).setCell (Nat.le_refl _) _
theorem dec_own {g : Nat} {Y : World} {B : Nat} {a d : Value} {e : Ed} (h : EdOwn Y B a d e) (hg : g < B) (a' d' x y z : Value) : EdOwn (((((Y.setCell ⟨g, 0, none⟩ a').setCell ⟨g, 1, none⟩ d').setCell ⟨g, 2, none⟩ x).setCell ⟨g, 3, none⟩ y).setCell ⟨g, 4, none⟩ z) B a d e :=
  h.keep fun k hk _ => by
    have : k ≠ g := by omega
    rw [Below.heap_setCell _ _ _ _ (by simpa using this), Below.heap_setCell _ _ _ _ (by simpa using this), Below.heap_setCell _ _ _ _ (by simpa using this), Below.heap_setCell _ _ _ _ (by simpa using this), Below.heap_setCell _ _ _ _ (by simpa using this)]
end Go.Proofs.YtjfanbemihheiaaGreatDoor.Ma
