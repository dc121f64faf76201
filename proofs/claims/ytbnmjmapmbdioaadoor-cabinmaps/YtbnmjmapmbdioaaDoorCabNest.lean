/-
  Package cabin: blocks in memory: a row of structs each of which holds a row of its own.
-/
import Derived.Test.YtbnmjmapmbdioaaDoorCabSpots
namespace Go.Proofs.YtbnmjmapmbdioaaDoor.Cb
open Go.RowKit Cm
set_option linter.unusedVariables false

structure Bv where
  cab : Int
  row : Int
  exit : Bool
  ao : Option Addr
  n : Nat
  cap : Nat
def Bv.val (x : Bv) : Value := .slice x.ao x.n x.cap
def Bv.zero : Bv := ⟨0, 0, false, none, 0, 0⟩
def seShape : Shape (Int × Int) where
  sz := 2
  enc s := [.int .i64 s.1, .int .u8 s.2]
  pos := by decide
  len _ := rfl
  one r := by intro u hu; simp at hu; rcases hu with rfl | rfl <;> rfl
def bvShape : Shape Bv where
  sz := 4
  enc x := [.int .i64 x.cab, .int .i64 x.row, .bool x.exit, x.val]
  pos := by decide
  len _ := rfl
  one r := by intro u hu; simp at hu; rcases hu with rfl | rfl | rfl | rfl <;> rfl
/-- The block b lies there as x says. -/
structure One (w : World) (B : Nat) (x : Bv) (b : Bk) : Prop where
  cab : x.cab = b.cab
  row : x.row = b.row
  exit : x.exit = b.exit
  own : w.ownsRow B 38 2 x.val b.seats.length (seShape.vals b.seats)
  n : x.n = b.seats.length
/-- Two rows in unlike memory. -/
def Apart (x y : Bv) : Prop := ∀ k, x.val.ownBlock = some k → y.val.ownBlock ≠ some k
/-- The blocks bs lie in a row of one's own, as xs says, each with a row of one's own. -/
def BlksX (w : World) (B : Nat) (v : Value) (xs : List Bv) (bs : List Bk) : Prop :=
  xs.length = bs.length ∧ w.ownsRow B 43 4 v xs.length (bvShape.vals xs) ∧ (∀ i, i < bs.length → One w B (xs.getD i Bv.zero) (bs.getD i Bk.zero)) ∧ ∀ i j, i < bs.length → j < bs.length → i ≠ j → Apart (xs.getD i Bv.zero) (xs.getD j Bv.zero)
def BlksAt (w : World) (B : Nat) (v : Value) (bs : List Bk) : Prop := ∃ xs : List Bv, BlksX w B v xs bs
section
variable {w w' X Y : World} {B n : Nat} {v : Value} {bs : List Bk} {x : Bv} {b : Bk}
theorem BlksAt.none (w : World) (B : Nat) : BlksAt w B (.slice Option.none 0 0) [] :=
  ⟨[], rfl, ⟨rfl, .inl ⟨rfl, rfl⟩⟩, fun i hi => by simp at hi, fun i j hi => by simp at hi⟩
theorem One.keep (h : One w B x b) (hk : ∀ k, x.val.ownBlock = some k → w'.heap[k]? = w.heap[k]?) : One w' B x b :=
  ⟨h.cab, h.row, h.exit, rows_keep h.own hk, h.n⟩
theorem BlksAt.keep (h : BlksAt w B v bs) (hk : ∀ k, B ≤ k → k < w.heap.size → w'.heap[k]? = w.heap[k]?) : BlksAt w' B v bs := by
  obtain ⟨xs, h1, h2, h3, h4⟩ := h
  exact ⟨xs, h1, rows_keep h2 fun k q => hk k (h2.lt k q).1 (h2.lt k q).2, fun i hi => (h3 i hi).keep fun k q => hk k ((h3 i hi).own.lt k q).1 ((h3 i hi).own.lt k q).2, h4⟩
theorem BlksAt.below (h : BlksAt w B v bs) (hb : Below w.heap.size w w') : BlksAt w' B v bs := h.keep fun k _ hl => hb.block _ hl
theorem rows_mono {B' : Nat} {e : TypeId} {k : Nat} {vs : List Value} (h : w.ownsRow B e k v n vs) (hb : B' ≤ B) : w.ownsRow B' e k v n vs := by
  refine ⟨h.1, ?_⟩
  rcases h.2 with h | ⟨g, cap, cur, rfl, h1, h2⟩
  · exact .inl h
  · exact .inr ⟨g, cap, cur, rfl, by omega, h2⟩
theorem BlksAt.mono {B' : Nat} (h : BlksAt w B v bs) (hb : B' ≤ B) : BlksAt w B' v bs := by
  obtain ⟨xs, h1, h2, h3, h4⟩ := h
  exact ⟨xs, h1, rows_mono h2 hb, fun i hi => ⟨(h3 i hi).cab, (h3 i hi).row, (h3 i hi).exit, rows_mono (h3 i hi).own hb, (h3 i hi).n⟩, h4⟩
theorem row_block {t : TypeId} {size m : Nat} {v : Value} {ys : List Value} (h : X.ownsRow B t size v m ys) {k : Nat} (hk : v.ownBlock = some k) : ∃ cur, X.heap[k]? = some (.cells cur t (0, 0)) := by
  rcases h.2 with ⟨rfl, _⟩ | ⟨g, cap, cur, rfl, _, hg, _⟩
  · simp [Value.ownBlock] at hk
  · simp [Value.ownBlock] at hk
    subst hk
    exact ⟨cur, hg⟩
theorem far_types {t u : TypeId} {s s' m m' : Nat} {v v' : Value} {ys ys' : List Value} (h : X.ownsRow B t s v m ys) (h' : X.ownsRow B u s' v' m' ys') (hne : t ≠ u) (k : Nat) (hk : v.ownBlock = some k) : v'.ownBlock ≠ some k := by
  intro hk'
  obtain ⟨c, hc⟩ := row_block h hk
  obtain ⟨d, hd⟩ := row_block h' hk'
  rw [hc] at hd
  simp at hd
  exact hne hd.2
theorem BlksAt.size_eq (h : BlksAt w B v bs) : ∃ ao cap, v = .slice ao bs.length cap ∧ (bs ≠ [] → ∃ g, ao = some ⟨g, 0, Option.none⟩ ∧ B ≤ g ∧ g < w.heap.size ∧ bs.length ≤ cap) := by
  obtain ⟨xs, h1, h2, _, _⟩ := h
  rw [h1] at h2
  rcases h2.2 with ⟨rfl, h0⟩ | ⟨g, cap, cur, rfl, hB, hg, hle, _⟩
  · exact ⟨Option.none, 0, by rw [h0], fun h => absurd (List.eq_nil_of_length_eq_zero h0) h⟩
  · exact ⟨_, cap, rfl, fun _ => ⟨g, rfl, hB, lt_of_block hg, hle⟩⟩
/-- A block more, without seats yet. -/
theorem BlksAt.open1 {g cap : Nat} {c u : Int} {e : Bool} {xs : List Bv} (h : BlksX X B v xs bs) (hgr : X.grownBy Y v.ownBlock) (ho : Y.ownsRow B 43 4 (.slice (some ⟨g, 0, Option.none⟩) (bs.length + 1) cap) (bs.length + 1) (bvShape.vals xs ++ bvShape.enc ⟨c, u, e, Option.none, 0, 0⟩)) :
    BlksAt Y B (.slice (some ⟨g, 0, Option.none⟩) (bs.length + 1) cap) (bs ++ [⟨c, u, e, []⟩]) := by
  obtain ⟨h1, h2, h3, h4⟩ := h
  have hl : ∀ i, i < bs.length → (xs ++ [(⟨c, u, e, Option.none, 0, 0⟩ : Bv)]).getD i Bv.zero = xs.getD i Bv.zero ∧ (bs ++ [(⟨c, u, e, []⟩ : Bk)]).getD i Bk.zero = bs.getD i Bk.zero := fun i hi => by
    simp only [List.getD_eq_getElem?_getD]
    rw [List.getElem?_append_left (by omega), List.getElem?_append_left hi]
    exact ⟨rfl, rfl⟩
  have hn : (xs ++ [(⟨c, u, e, Option.none, 0, 0⟩ : Bv)]).getD bs.length Bv.zero = ⟨c, u, e, Option.none, 0, 0⟩ ∧ (bs ++ [(⟨c, u, e, []⟩ : Bk)]).getD bs.length Bk.zero = ⟨c, u, e, []⟩ := by
    simp only [List.getD_eq_getElem?_getD]
    rw [List.getElem?_append_right (by omega), List.getElem?_append_right (Nat.le_refl _), h1, Nat.sub_self]
    exact ⟨rfl, rfl⟩
  refine ⟨xs ++ [⟨c, u, e, Option.none, 0, 0⟩], by simp [h1], ?_, fun i hi => ?_, fun i j hi hj hij => ?_⟩
  · rw [Shape.vals_append, List.length_append, h1]
    simpa [Shape.vals] using ho
  · rw [List.length_append, List.length_singleton] at hi
    by_cases hi' : i < bs.length
    · rw [(hl i hi').1, (hl i hi').2]
      have o := h3 i hi'
      exact o.keep fun k q => hgr.block k (o.own.lt k q).2 (fun e => far_types o.own h2 (by decide) k q e.symm)
    · obtain rfl : i = bs.length := by omega
      rw [hn.1, hn.2]
      exact ⟨rfl, rfl, rfl, ⟨rfl, .inl ⟨rfl, rfl⟩⟩, rfl⟩
  · rw [List.length_append, List.length_singleton] at hi hj
    by_cases hi' : i < bs.length
    · rw [(hl i hi').1]
      by_cases hj' : j < bs.length
      · rw [(hl j hj').1]; exact h4 i j hi' hj' hij
      · obtain rfl : j = bs.length := by omega
        rw [hn.1]
        intro k _ q
        simp [Bv.val, Value.ownBlock] at q
    · obtain rfl : i = bs.length := by omega
      rw [hn.1]
      intro k q
      simp [Bv.val, Value.ownBlock] at q
theorem bv_set (xs : List Bv) (k : Nat) (y : Bv) (h : k < xs.length) (h1 : y.cab = (xs.getD k Bv.zero).cab) (h2 : y.row = (xs.getD k Bv.zero).row) (h3 : y.exit = (xs.getD k Bv.zero).exit) : (bvShape.vals xs).set (k * 4 + 3) y.val = bvShape.vals (xs.set k y) := by
  induction xs generalizing k with
  | nil => simp at h
  | cons p ps ih =>
    rw [Shape.vals_cons]
    cases k with
    | zero =>
      rw [List.set_cons_zero, Shape.vals_cons]
      simp only [List.getD_cons_zero] at h1 h2 h3
      show ([Value.int .i64 p.cab, .int .i64 p.row, .bool p.exit, p.val] ++ bvShape.vals ps).set 3 y.val = [Value.int .i64 y.cab, .int .i64 y.row, .bool y.exit, y.val] ++ bvShape.vals ps
      rw [h1, h2, h3]; rfl
    | succ k =>
      have := ih k (by simpa using h) (by simpa using h1) (by simpa using h2) (by simpa using h3)
      rw [show (k + 1) * 4 + 3 = k * 4 + 3 + 4 by omega, List.set_cons_succ, Shape.vals_cons, ← this]
      show ([Value.int .i64 p.cab, .int .i64 p.row, .bool p.exit, p.val] ++ bvShape.vals ps).set (k * 4 + 3 + 4) y.val = _
      simp only [List.cons_append, List.nil_append, List.set_cons_succ]
      rfl
theorem getD_set {α : Type} (l : List α) (k i : Nat) (y d : α) (hk : k < l.length) : (l.set k y).getD i d = if i = k then y else l.getD i d := by
  simp only [List.getD_eq_getElem?_getD, List.getElem?_set]
  by_cases h : k = i
  · subst h; simp [hk]
  · rw [if_neg h, if_neg (fun e => h e.symm)]
/-- The k-th block: where it lies, and what may become of it. -/
theorem BlksAt.spot {k : Nat} (h : BlksAt w B v bs) (hk : k < bs.length) : ∃ g cap x, v = .slice (some ⟨g, 0, Option.none⟩) bs.length cap ∧ B ≤ g ∧ g < w.heap.size ∧ bs.length ≤ cap ∧ One w B x (bs.getD k Bk.zero) ∧ x.val.ownBlock ≠ some g ∧ (∀ j, w.frozen? ⟨g, j, Option.none⟩ = false) ∧
    w.cell? ⟨g, k * 4, Option.none⟩ = some (.int .i64 x.cab) ∧ w.cell? ⟨g, k * 4 + 1, Option.none⟩ = some (.int .i64 x.row) ∧ w.cell? ⟨g, k * 4 + 2, Option.none⟩ = some (.bool x.exit) ∧ w.cell? ⟨g, k * 4 + 3, Option.none⟩ = some x.val ∧
    (∀ (Y : World) (y : Bv) (b : Bk), (∀ q, B ≤ q → q < w.heap.size → x.val.ownBlock ≠ some q → Y.heap[q]? = w.heap[q]?) → One Y B y b → (y.val.ownBlock = x.val.ownBlock ∨ ∀ q, y.val.ownBlock = some q → w.heap.size ≤ q) → y.cab = x.cab → y.row = x.row → y.exit = x.exit → BlksAt (Y.setCell ⟨g, k * 4 + 3, Option.none⟩ y.val) B v (bs.set k b)) ∧
    (∀ (Y : World) (b : Bk), (∀ q, B ≤ q → q < w.heap.size → x.val.ownBlock ≠ some q → Y.heap[q]? = w.heap[q]?) → One Y B x b → BlksAt Y B v (bs.set k b)) := by
  obtain ⟨xs, h1, h2, h3, h4⟩ := h
  have hkx : k < xs.length := by omega
  rcases h2.2 with ⟨_, h0⟩ | ⟨g, cap, cur, rfl, hB, hg, hle, _⟩
  · omega
  have hcell : ∀ j u, (bvShape.enc (xs.getD k Bv.zero))[j]? = some u → w.cell? ⟨g, k * 4 + j, Option.none⟩ = some u := fun j u hu => by
    rw [getD_lt _ _ _ hkx] at hu
    have hj : j < 4 := by
      have := (List.getElem?_eq_some_iff.1 hu).1
      rw [bvShape.len] at this; exact this
    have := h2.cells (g := g) rfl (k * 4 + j) u (by rw [show k * 4 + j = k * bvShape.sz + j from rfl, bvShape.vals_get xs k hkx j hj]; exact hu)
    rw [Go.WideShapes.add_plain, Nat.zero_add] at this
    exact this
  have o := h3 k hk
  have hfar : ∀ i, i < bs.length → (xs.getD i Bv.zero).val.ownBlock ≠ some g := fun i hi e => far_types (h3 i hi).own h2 (by decide) g e rfl
  refine ⟨g, cap, xs.getD k Bv.zero, by rw [h1], hB, lt_of_block hg, by omega, o, hfar k hk, fun j => by simp [World.frozen?, hg], hcell 0 _ rfl, hcell 1 _ rfl, hcell 2 _ rfl, hcell 3 _ rfl, fun Y y b hY oy hy e1 e2 e3 => ?_, fun Y b hY oy => ?_⟩
  · have hgY : Y.heap[g]? = w.heap[g]? := hY g hB (lt_of_block hg) (hfar k hk)
    have h2Y : Y.ownsRow B 43 4 (.slice (some ⟨g, 0, Option.none⟩) xs.length cap) xs.length (bvShape.vals xs) := rows_keep h2 fun q hq => by cases hq; exact hgY
    have st := h2Y.stored (k * 4 + 3) y.val
    rw [bv_set xs k y hkx e1 e2 e3] at st
    have hother : ∀ {z : Bv} {c : Bk}, One Y B z c → z.val.ownBlock ≠ some g → One (Y.setCell ⟨g, k * 4 + 3, Option.none⟩ y.val) B z c := fun {z c} oz hz => oz.keep fun q hq => by
      rw [Below.heap_setCell _ _ _ _ (by rintro rfl; exact hz hq)]
    have hyg : y.val.ownBlock ≠ some g := fun e => by
      rcases hy with hy | hy
      · exact hfar k hk (hy ▸ e)
      · have := hy g e; have := lt_of_block hg; omega
    refine ⟨xs.set k y, by simp [h1], ?_, fun i hi => ?_, fun i j hi hj hij => ?_⟩
    · rw [List.length_set]; exact st.1
    · rw [List.length_set] at hi
      rw [getD_set _ _ _ _ _ hkx, getD_set _ _ _ _ _ hk]
      by_cases hik : i = k
      · rw [if_pos hik, if_pos hik]; exact hother oy hyg
      · rw [if_neg hik, if_neg hik]
        have oi := h3 i hi
        exact hother (oi.keep fun q hq => hY q (oi.own.lt q hq).1 (oi.own.lt q hq).2 (fun e => h4 k i hk hi (fun h => hik h.symm) q e hq)) (hfar i hi)
    · rw [List.length_set] at hi hj
      rw [getD_set _ _ _ _ _ hkx, getD_set _ _ _ _ _ hkx]
      have hnew : ∀ i, i < bs.length → i ≠ k → Apart y (xs.getD i Bv.zero) := fun i hi hik q hq e => by
        rcases hy with hy | hy
        · exact h4 k i hk hi (fun h => hik h.symm) q (hy ▸ hq) e
        · have := hy q hq; have := ((h3 i hi).own.lt q e).2; omega
      by_cases hik : i = k
      · rw [if_pos hik, if_neg (by omega)]; exact hnew j hj (by omega)
      · rw [if_neg hik]
        by_cases hjk : j = k
        · rw [if_pos hjk]; exact fun q hq e => hnew i hi hik q e hq
        · rw [if_neg hjk]; exact h4 i j hi hj hij
  · have hgY : Y.heap[g]? = w.heap[g]? := hY g hB (lt_of_block hg) (hfar k hk)
    refine ⟨xs, by simp [h1], rows_keep h2 fun q hq => by cases hq; exact hgY, fun i hi => ?_, fun i j hi hj hij => ?_⟩
    · rw [List.length_set] at hi
      rw [getD_set _ _ _ _ _ hk]
      by_cases hik : i = k
      · rw [if_pos hik, hik]; exact oy
      · rw [if_neg hik]
        have oi := h3 i hi
        exact oi.keep fun q hq => hY q (oi.own.lt q hq).1 (oi.own.lt q hq).2 (fun e => h4 k i hk hi (fun h => hik h.symm) q e hq)
    · rw [List.length_set] at hi hj
      exact h4 i j hi hj hij
end
end Go.Proofs.YtbnmjmapmbdioaaDoor.Cb
