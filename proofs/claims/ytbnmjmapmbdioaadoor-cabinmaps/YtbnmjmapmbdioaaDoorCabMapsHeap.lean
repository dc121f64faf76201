/-
  Blocks and spots that are written on while others stay: whose memory is which.
-/
import Derived.Test.YtbnmjmapmbdioaaDoorCabSameB
import Derived.Test.YtbnmjmapmbdioaaDoorCabFind
namespace Go.Proofs.YtbnmjmapmbdioaaDoor.Cb
open Go.RowKit Cm
attribute [local go_sem ↓] Go.wp_at_zero Go.wp_at_succ
set_option linter.unusedVariables false

section
variable {w w' X Y : World} {B n : Nat} {v : Value} {bs : List Bk} {x : Bv} {b : Bk}
theorem BlksX.keep {xs : List Bv} (h : BlksX w B v xs bs) (hk : ∀ k, B ≤ k → k < w.heap.size → w'.heap[k]? = w.heap[k]?) : BlksX w' B v xs bs := by
  obtain ⟨h1, h2, h3, h4⟩ := h
  exact ⟨h1, rows_keep h2 fun k q => hk k (h2.lt k q).1 (h2.lt k q).2, fun i hi => (h3 i hi).keep fun k q => hk k ((h3 i hi).own.lt k q).1 ((h3 i hi).own.lt k q).2, h4⟩
theorem BlksX.spot {xs : List Bv} {k : Nat} (h : BlksX w B v xs bs) (hk : k < bs.length) : ∃ g cap, v = .slice (some ⟨g, 0, Option.none⟩) bs.length cap ∧ B ≤ g ∧ g < w.heap.size ∧ bs.length ≤ cap ∧ One w B (xs.getD k Bv.zero) (bs.getD k Bk.zero) ∧ (xs.getD k Bv.zero).val.ownBlock ≠ some g ∧ (∀ j, w.frozen? ⟨g, j, Option.none⟩ = false) ∧
    w.cell? ⟨g, k * 4, Option.none⟩ = some (.int .i64 (xs.getD k Bv.zero).cab) ∧ w.cell? ⟨g, k * 4 + 1, Option.none⟩ = some (.int .i64 (xs.getD k Bv.zero).row) ∧ w.cell? ⟨g, k * 4 + 2, Option.none⟩ = some (.bool (xs.getD k Bv.zero).exit) ∧ w.cell? ⟨g, k * 4 + 3, Option.none⟩ = some (xs.getD k Bv.zero).val ∧
    (∀ (Y : World) (y : Bv) (b : Bk), (∀ q, B ≤ q → q < w.heap.size → (xs.getD k Bv.zero).val.ownBlock ≠ some q → Y.heap[q]? = w.heap[q]?) → One Y B y b → (y.val.ownBlock = (xs.getD k Bv.zero).val.ownBlock ∨ ∀ q, y.val.ownBlock = some q → w.heap.size ≤ q) → y.cab = (xs.getD k Bv.zero).cab → y.row = (xs.getD k Bv.zero).row → y.exit = (xs.getD k Bv.zero).exit → BlksX (Y.setCell ⟨g, k * 4 + 3, Option.none⟩ y.val) B v (xs.set k y) (bs.set k b)) ∧
    (∀ (Y : World) (b : Bk), (∀ q, B ≤ q → q < w.heap.size → (xs.getD k Bv.zero).val.ownBlock ≠ some q → Y.heap[q]? = w.heap[q]?) → One Y B (xs.getD k Bv.zero) b → BlksX Y B v xs (bs.set k b)) := by
  obtain ⟨h1, h2, h3, h4⟩ := h
  have hkx : k < xs.length := by omega
  rcases h2.2 with ⟨_, h0⟩ | ⟨g, cap, cur, rfl, hB, hg, hle, _⟩
  · omega
  have hcell : ∀ j u, (bvShape.enc (xs.getD k Bv.zero))[j]? = some u → w.cell? ⟨g, k * 4 + j, Option.none⟩ = some u := fun j u hu => by
    rw [getD_lt _ _ _ hkx] at hu
    have hj : j < 4 := by
      have := (List.getElem?_eq_some_iff.1 hu).1
      rw [bvShape.len] at this; exact this
    have := h2.cells (g := g) rfl (k * 4 + j) u (by rw [show k * 4 + j = k * bvShape.sz + j from rfl, bvShape.vals_get xs k hkx j hj]; exact hu)
    rw [Go.WideShapes.add_plain, Nat.zero_add] at this
    exact this
  have o := h3 k hk
  have hfar : ∀ i, i < bs.length → (xs.getD i Bv.zero).val.ownBlock ≠ some g := fun i hi e => far_types (h3 i hi).own h2 (by decide) g e rfl
  refine ⟨g, cap, by rw [h1], hB, lt_of_block hg, by omega, o, hfar k hk, fun j => by simp [World.frozen?, hg], hcell 0 _ rfl, hcell 1 _ rfl, hcell 2 _ rfl, hcell 3 _ rfl, fun Y y b hY oy hy e1 e2 e3 => ?_, fun Y b hY oy => ?_⟩
  · have hgY : Y.heap[g]? = w.heap[g]? := hY g hB (lt_of_block hg) (hfar k hk)
    have h2Y : Y.ownsRow B 43 4 (.slice (some ⟨g, 0, Option.none⟩) xs.length cap) xs.length (bvShape.vals xs) := rows_keep h2 fun q hq => by cases hq; exact hgY
    have st := h2Y.stored (k * 4 + 3) y.val
    rw [bv_set xs k y hkx e1 e2 e3] at st
    have hother : ∀ {z : Bv} {c : Bk}, One Y B z c → z.val.ownBlock ≠ some g → One (Y.setCell ⟨g, k * 4 + 3, Option.none⟩ y.val) B z c := fun {z c} oz hz => oz.keep fun q hq => by
      rw [Below.heap_setCell _ _ _ _ (by rintro rfl; exact hz hq)]
    have hyg : y.val.ownBlock ≠ some g := fun e => by
      rcases hy with hy | hy
      · exact hfar k hk (hy ▸ e)
      · have := hy g e; have := lt_of_block hg; omega
    refine ⟨by simp [h1], ?_, fun i hi => ?_, fun i j hi hj hij => ?_⟩
    · rw [List.length_set]; exact st.1
    · rw [List.length_set] at hi
      rw [getD_set _ _ _ _ _ hkx, getD_set _ _ _ _ _ hk]
      by_cases hik : i = k
      · rw [if_pos hik, if_pos hik]; exact hother oy hyg
      · rw [if_neg hik, if_neg hik]
        have oi := h3 i hi
        exact hother (oi.keep fun q hq => hY q (oi.own.lt q hq).1 (oi.own.lt q hq).2 (fun e => h4 k i hk hi (fun h => hik h.symm) q e hq)) (hfar i hi)
    · rw [List.length_set] at hi hj
      rw [getD_set _ _ _ _ _ hkx, getD_set _ _ _ _ _ hkx]
      have hnew : ∀ i, i < bs.length → i ≠ k → Apart y (xs.getD i Bv.zero) := fun i hi hik q hq e => by
        rcases hy with hy | hy
        · exact h4 k i hk hi (fun h => hik h.symm) q (hy ▸ hq) e
        · have := hy q hq; have := ((h3 i hi).own.lt q e).2; omega
      by_cases hik : i = k
      · rw [if_pos hik, if_neg (by omega)]; exact hnew j hj (by omega)
      · rw [if_neg hik]
        by_cases hjk : j = k
        · rw [if_pos hjk]; exact fun q hq e => hnew i hi hik q e hq
        · rw [if_neg hjk]; exact h4 i j hi hj hij
  · have hgY : Y.heap[g]? = w.heap[g]? := hY g hB (lt_of_block hg) (hfar k hk)
    refine ⟨by simp [h1], rows_keep h2 fun q hq => by cases hq; exact hgY, fun i hi => ?_, fun i j hi hj hij => ?_⟩
    · rw [List.length_set] at hi
      rw [getD_set _ _ _ _ _ hk]
      by_cases hik : i = k
      · rw [if_pos hik, hik]; exact oy
      · rw [if_neg hik]
        have oi := h3 i hi
        exact oi.keep fun q hq => hY q (oi.own.lt q hq).1 (oi.own.lt q hq).2 (fun e => h4 k i hk hi (fun h => hik h.symm) q e hq)
    · rw [List.length_set] at hi hj
      exact h4 i j hi hj hij
end
theorem vals2 (p : Int × Int) (xs : List (Int × Int)) : seShape.vals (p :: xs) = .int .i64 p.1 :: .int .u8 p.2 :: seShape.vals xs := by
  rw [Shape.vals_cons]; rfl
theorem vals2_set (p : Int × Int) : ∀ (xs : List (Int × Int)) (i : Nat), i < xs.length → seShape.vals (xs.set i p) = ((seShape.vals xs).set (i * 2) (.int .i64 p.1)).set (i * 2 + 1) (.int .u8 p.2)
  | [], i, h => by simp at h
  | y :: xs, 0, h => by rw [List.set_cons_zero, vals2, vals2]; rfl
  | y :: xs, i + 1, h => by
    rw [List.set_cons_succ, vals2, vals2, vals2_set p xs i (by simpa using h), show (i + 1) * 2 = i * 2 + 2 by omega]
    rfl
theorem vals7 (p : Sp) (xs : List Sp) : spShape.vals (p :: xs) = .int .i64 p.num :: .int .u8 p.ltr :: .int .i64 p.cab :: .int .i64 p.zone :: .int .i64 p.blk :: .bool p.exit :: .bool p.bld :: spShape.vals xs := by
  rw [Shape.vals_cons]; rfl
theorem vals7_set (p : Sp) : ∀ (xs : List Sp) (i : Nat), i < xs.length → spShape.vals (xs.set i p) = (((((((spShape.vals xs).set (i * 7) (.int .i64 p.num)).set (i * 7 + 1) (.int .u8 p.ltr)).set (i * 7 + 2) (.int .i64 p.cab)).set (i * 7 + 3) (.int .i64 p.zone)).set (i * 7 + 4) (.int .i64 p.blk)).set (i * 7 + 5) (.bool p.exit)).set (i * 7 + 6) (.bool p.bld)
  | [], i, h => by simp at h
  | y :: xs, 0, h => by rw [List.set_cons_zero, vals7, vals7]; rfl
  | y :: xs, i + 1, h => by
    rw [List.set_cons_succ, vals7, vals7, vals7_set p xs i (by simpa using h), show (i + 1) * 7 = i * 7 + 7 by omega]
    rfl
theorem grownTrans {a b c : World} {r : Option Nat} (h1 : a.grownBy b r) (h2 : b.grownBy c r) : a.grownBy c r :=
  ⟨h2.os.trans h1.os, h2.tape.trans h1.tape, h2.output.trans h1.output, Nat.le_trans h1.size h2.size, fun k hk hr => (h2.block k (Nat.lt_of_lt_of_le hk h1.size) hr).trans (h1.block k hk hr)⟩
theorem grownRefl (w : World) (r : Option Nat) : w.grownBy w r := ⟨rfl, rfl, rfl, Nat.le_refl _, fun _ _ _ => rfl⟩
theorem grownBelow {a b : World} {r : Option Nat} (h : Below a.heap.size a b) : a.grownBy b r := ⟨h.os, h.tape, h.output, h.size, fun k hk _ => h.block k hk⟩
/-! ### What lies in a piece of the memory -/
/-- What P says lay in a world whose memory ended at E; from B on to there X has what that world had. -/
def InP (P : World → Prop) (X : World) (B E : Nat) : Prop := ∃ W : World, P W ∧ W.heap.size = E ∧ ∀ k, B ≤ k → k < E → X.heap[k]? = W.heap[k]?
theorem InP.now {P : World → Prop} {X : World} {B : Nat} (h : P X) : InP P X B X.heap.size := ⟨X, h, rfl, fun _ _ _ => rfl⟩
theorem InP.keep {P : World → Prop} {X Y : World} {B E : Nat} (h : InP P X B E) (hk : ∀ k, B ≤ k → k < E → Y.heap[k]? = X.heap[k]?) : InP P Y B E := by
  obtain ⟨W, h1, h2, h3⟩ := h
  exact ⟨W, h1, h2, fun k q1 q2 => (hk k q1 q2).trans (h3 k q1 q2)⟩
theorem InP.later {P : World → Prop} {X Y : World} {B E : Nat} (h : InP P X B E) (hE : E ≤ X.heap.size) (hb : Below X.heap.size X Y) : InP P Y B E := h.keep fun k _ q => hb.block k (by omega)
theorem InP.grown {P : World → Prop} {X Y : World} {B E : Nat} {r : Option Nat} (h : InP P X B E) (hE : E ≤ X.heap.size) (hg : X.grownBy Y r) (hr : ∀ q, r = some q → q < B ∨ E ≤ q) : InP P Y B E :=
  h.keep fun k q1 q2 => hg.block k (by omega) (fun e => by have := hr k e.symm; omega)
def SpI (sps : List Sp) (v : Value) (X : World) (B E : Nat) : Prop := InP (fun W => SpOwn W B v sps) X B E
def BkI (bs : List Bk) (v : Value) (X : World) (B E : Nat) : Prop := InP (fun W => BlksAt W B v bs) X B E
theorem SpI.own {sps : List Sp} {v : Value} {X : World} {B E : Nat} (h : SpI sps v X B E) : SpOwn X B v sps ∧ ∀ q, v.ownBlock = some q → B ≤ q ∧ q < E := by
  obtain ⟨W, h1, h2, h3⟩ := h
  have h1' : W.ownsRow B 40 7 v sps.length (spShape.vals sps) := h1
  have hlt : ∀ q, v.ownBlock = some q → B ≤ q ∧ q < E := fun q hq => by have := h1'.lt q hq; omega
  exact ⟨rows_keep h1' fun k hk => h3 k (hlt k hk).1 (hlt k hk).2, hlt⟩
theorem BkI.at' {bs : List Bk} {v : Value} {X : World} {B E : Nat} (h : BkI bs v X B E) : BlksAt X B v bs := by
  obtain ⟨W, h1, h2, h3⟩ := h
  exact BlksAt.keep h1 fun k q1 q2 => h3 k q1 (by omega)
/-! ### Blocks that are written on -/
def Col (Bx Ex Zs q : Nat) : Prop := (Bx ≤ q ∧ q < Ex) ∨ Zs ≤ q
/-- From Z to X nothing has changed but the blocks v, whose memory was that from Bx to Ex: they are bs now. -/
structure Mine (Z : World) (Bx Ex : Nat) (v : Value) (X : World) (bs : List Bk) : Prop where
  xs : ∃ xs, BlksX X Bx v xs bs ∧ (∀ q, v.ownBlock = some q → Col Bx Ex Z.heap.size q) ∧ ∀ i, i < bs.length → ∀ q, (xs.getD i Bv.zero).val.ownBlock = some q → Col Bx Ex Z.heap.size q
  bel : Below Bx Z X
  top : ∀ k, Ex ≤ k → k < Z.heap.size → X.heap[k]? = Z.heap[k]?
  big : Bx ≤ Z.heap.size
theorem Mine.start {Z : World} {Bx Ex : Nat} {v : Value} {bs : List Bk} (h : BkI bs v Z Bx Ex) (hB : Bx ≤ Z.heap.size) : Mine Z Bx Ex v Z bs := by
  obtain ⟨W, ⟨xs, hX⟩, h2, h3⟩ := h
  refine ⟨⟨xs, hX.keep (fun k q1 q2 => h3 k q1 (by omega)), fun q hq => .inl ?_, fun i hi q hq => .inl ?_⟩, Below.refl _ _, fun _ _ _ => rfl, hB⟩
  · have := hX.2.1.lt q hq; omega
  · have := (hX.2.2.1 i hi).own.lt q hq; omega
theorem Mine.at' {Z X : World} {Bx Ex : Nat} {v : Value} {bs : List Bk} (h : Mine Z Bx Ex v X bs) : BlksAt X Bx v bs := by
  obtain ⟨xs, hX, _, _⟩ := h.xs
  exact ⟨xs, hX⟩
theorem Mine.later {Z X Y : World} {Bx Ex : Nat} {v : Value} {bs : List Bk} (h : Mine Z Bx Ex v X bs) (hb : Below X.heap.size X Y) : Mine Z Bx Ex v Y bs := by
  obtain ⟨⟨xs, hX, h1, h2⟩, h3, h4, h5⟩ := h
  exact ⟨⟨xs, hX.keep (fun k _ q => hb.block k q), h1, h2⟩, h3.trans (hb.mono (Nat.le_trans h5 h3.size)), fun k q1 q2 => (hb.block k (by have := h3.size; omega)).trans (h4 k q1 q2), h5⟩
theorem InP.mine {P : World → Prop} {Z X : World} {B E Bx Ex : Nat} {v : Value} {bs : List Bk} (h : InP P Z B E) (hE : E ≤ Z.heap.size) (hd : E ≤ Bx ∨ Ex ≤ B) (hm : Mine Z Bx Ex v X bs) : InP P X B E :=
  h.keep fun k q1 q2 => by
    rcases hd with hd | hd
    · exact hm.bel.block k (by omega)
    · exact hm.top k (by omega) (by omega)
def Bk.put (b : Bk) (k : Nat) (p : Int × Int) : Bk := ⟨b.cab, b.row, b.exit, b.seats.set k p⟩
theorem Mine.put {Z X : World} {Bx Ex i k : Nat} {v : Value} {bs : List Bk} (h : Mine Z Bx Ex v X bs) (hi : i < bs.length) (hk : k < (bs.getD i Bk.zero).seats.length) (p : Int × Int) :
    ∃ g cap gq ca, v = .slice (some ⟨g, 0, none⟩) bs.length cap ∧ X.cell? ⟨g, i * 4 + 3, none⟩ = some (.slice (some ⟨gq, 0, none⟩) (bs.getD i Bk.zero).seats.length ca) ∧ (bs.getD i Bk.zero).seats.length ≤ ca ∧ (∀ j, X.frozen? ⟨gq, j, none⟩ = false) ∧
      X.cell? ⟨gq, k * 2, none⟩ = some (.int .i64 ((bs.getD i Bk.zero).seats.getD k (0, 0)).1) ∧ X.cell? ⟨gq, k * 2 + 1, none⟩ = some (.int .u8 ((bs.getD i Bk.zero).seats.getD k (0, 0)).2) ∧
      Mine Z Bx Ex v ((X.setCell ⟨gq, k * 2, none⟩ (.int .i64 p.1)).setCell ⟨gq, k * 2 + 1, none⟩ (.int .u8 p.2)) (bs.set i ((bs.getD i Bk.zero).put k p)) := by
  obtain ⟨⟨xs, hX, q1, q2⟩, hbel, htop, hbig⟩ := h
  obtain ⟨g, cap, hV, hgB, hgl, hle, o, hfar, hfz, c0, c1, c2, c3, _, hset⟩ := hX.spot hi
  have hcol := q2 i hi
  have own := o.own
  have oc := o.cab
  have orw := o.row
  have oe := o.exit
  have on := o.n
  rcases own.2 with ⟨_, h0⟩ | ⟨gq, ca, cur, ev, hB, hq, hle2, _⟩
  · omega
  rw [ev] at own c3 hcol
  have hcq := hcol gq rfl
  obtain ⟨s1, g1⟩ := own.stored (k * 2) (.int .i64 p.1)
  obtain ⟨s2, g2⟩ := s1.stored (k * 2 + 1) (.int .u8 p.2)
  rw [← vals2_set p _ k hk] at s2
  have hel : ElemsAt seShape X (some ⟨gq, 0, none⟩) (bs.getD i Bk.zero).seats := by
    obtain ⟨ao, c, e, _, _, _, he⟩ := own_rows own
    cases e; exact he
  obtain ⟨pb, off, e, _, d0, d1⟩ := seat_cells hel hk
  cases e
  rw [Nat.zero_add] at d0 d1
  refine ⟨g, cap, gq, ca, hV, c3, hle2, fun j => by simp [World.frozen?, hq], d0, d1, ⟨xs, ?_, q1, ?_⟩, ?_, ?_, hbig⟩
  · refine hset _ _ (fun q _ _ hne => ?_) ⟨oc, orw, oe, ?_, ?_⟩
    · have : q ≠ gq := by rintro rfl; exact hne (by rw [ev]; rfl)
      rw [Below.heap_setCell _ _ _ _ this, Below.heap_setCell _ _ _ _ this]
    · rw [ev]
      simp only [Bk.put, List.length_set]
      exact s2
    · simp only [Bk.put, List.length_set]
      exact on
  · intro j hj q hq'
    rw [List.length_set] at hj
    exact q2 j hj q hq'
  · exact (hbel.setCell hB _).setCell hB _
  · intro q e1 e2
    have : q ≠ gq := by rintro rfl; rcases hcq with h | h <;> omega
    rw [Below.heap_setCell _ _ _ _ this, Below.heap_setCell _ _ _ _ this]
    exact htop q e1 e2
/-- A seat more in one of these blocks. -/
theorem Mine.add {Z X : World} {Bx Ex i : Nat} {v : Value} {bs : List Bk} (h : Mine Z Bx Ex v X bs) (hi : i < bs.length) (a b : Int) :
    ∃ g cap ao ca, v = .slice (some ⟨g, 0, none⟩) bs.length cap ∧ X.cell? ⟨g, i * 4 + 3, none⟩ = some (.slice ao (bs.getD i Bk.zero).seats.length ca) ∧ (X.alloc (seObj a b)).ownsRow Bx 38 2 (.slice ao (bs.getD i Bk.zero).seats.length ca) (bs.getD i Bk.zero).seats.length (seShape.vals (bs.getD i Bk.zero).seats) ∧
      ∀ g5 cap5 Y, Y.ownsRow Bx 38 2 (.slice (some ⟨g5, 0, none⟩) ((bs.getD i Bk.zero).seats.length + 1) cap5) ((bs.getD i Bk.zero).seats.length + 1) (seShape.vals ((bs.getD i Bk.zero).seats ++ [(a, b)])) → (X.alloc (seObj a b)).grownBy Y (Value.slice ao (bs.getD i Bk.zero).seats.length ca).ownBlock →
        ((Value.slice ao (bs.getD i Bk.zero).seats.length ca).ownBlock = some g5 ∨ g5 = X.heap.size + 1) →
        Y.cell? ⟨g, i * 4 + 3, none⟩ = some (.slice ao (bs.getD i Bk.zero).seats.length ca) ∧ (∀ j, Y.frozen? ⟨g, j, none⟩ = false) ∧
        Mine Z Bx Ex v (Y.setCell ⟨g, i * 4 + 3, none⟩ (.slice (some ⟨g5, 0, none⟩) ((bs.getD i Bk.zero).seats.length + 1) cap5)) (bs.set i ((bs.getD i Bk.zero).add (a, b))) := by
  obtain ⟨⟨xs, hX, q1, q2⟩, hbel, htop, hbig⟩ := h
  obtain ⟨g, cap, hV, hgB, hgl, hle, o, hfar, hfz, c0, c1, c2, c3, hset, _⟩ := hX.spot hi
  have hlen := hX.1
  have hcol := q2 i hi
  have en := o.n
  have oc := o.cab
  have orw := o.row
  have oe := o.exit
  have own := o.own
  have hxv : (xs.getD i Bv.zero).val = .slice (xs.getD i Bv.zero).ao (bs.getD i Bk.zero).seats.length (xs.getD i Bv.zero).cap := by rw [← en]; rfl
  rw [hxv] at c3 own hfar hcol
  have hgcol := q1 g (by rw [hV]; rfl)
  have hZ2 : Below X.heap.size X (X.alloc (seObj a b)) := (Below.refl _ _).alloc (Nat.le_refl _) _
  have own2 := rows_keep (w' := X.alloc (seObj a b)) own (fun q hq => hZ2.block _ (own.lt q hq).2)
  refine ⟨g, cap, _, _, hV, c3, own2, fun g5 cap5 Y ho hgr hat => ?_⟩
  have hYb : ∀ q, q < X.heap.size → (Value.slice (xs.getD i Bv.zero).ao (bs.getD i Bk.zero).seats.length (xs.getD i Bv.zero).cap).ownBlock ≠ some q → Y.heap[q]? = X.heap[q]? := fun q hq hne =>
    (hgr.block q (by simp; omega) (fun e => hne e.symm)).trans (hZ2.block _ hq)
  have kg := hYb g hgl hfar
  have hbs := hbel.size
  have hg5 : Col Bx Ex Z.heap.size g5 := by
    rcases hat with hat | hat
    · exact hcol g5 hat
    · right; omega
  have htopY : ∀ k, Ex ≤ k → k < Z.heap.size → Y.heap[k]? = Z.heap[k]? := fun k e1 e2 => by
    refine (hYb k (by omega) (fun e => ?_)).trans (htop k e1 e2)
    have := hcol k e
    unfold Col at this
    omega
  refine ⟨(World.cell?_of_block kg).trans c3, fun j => ?_, ⟨xs.set i ⟨(xs.getD i Bv.zero).cab, (xs.getD i Bv.zero).row, (xs.getD i Bv.zero).exit, some ⟨g5, 0, none⟩, (bs.getD i Bk.zero).seats.length + 1, cap5⟩, ?_, q1, ?_⟩, ?_, ?_, hbig⟩
  · have := hfz j
    simp only [World.frozen?] at this ⊢
    rw [kg]; exact this
  · have hq := hset Y ⟨(xs.getD i Bv.zero).cab, (xs.getD i Bv.zero).row, (xs.getD i Bv.zero).exit, some ⟨g5, 0, none⟩, (bs.getD i Bk.zero).seats.length + 1, cap5⟩ ((bs.getD i Bk.zero).add (a, b)) (fun q _ hl hne => hYb q hl (by rw [← hxv]; exact hne)) ?_ ?_ rfl rfl rfl
    · exact hq
    · refine ⟨oc, orw, oe, ?_, by simp [Bk.add]⟩
      show Y.ownsRow Bx 38 2 (.slice (some ⟨g5, 0, none⟩) ((bs.getD i Bk.zero).seats.length + 1) cap5) ((bs.getD i Bk.zero).seats ++ [(a, b)]).length (seShape.vals ((bs.getD i Bk.zero).seats ++ [(a, b)]))
      rw [List.length_append]
      exact ho
    · rcases hat with hat | hat
      · left; rw [hxv, hat]; rfl
      · right
        intro q hq
        simp [Bv.val, Value.ownBlock] at hq
        omega
  · intro j hj q hq
    rw [List.length_set] at hj
    rw [getD_set _ _ _ _ _ (by omega)] at hq
    by_cases hji : j = i
    · rw [if_pos hji] at hq
      simp [Bv.val, Value.ownBlock] at hq
      rw [← hq]; exact hg5
    · rw [if_neg hji] at hq
      exact q2 j hj q hq
  · have hb2 : Below Bx Z (X.alloc (seObj a b)) := hbel.alloc (by omega) _
    exact (hb2.grown hgr (by simp; omega) (fun q hq => (own.lt q hq).1)).setCell hgB _
  · intro q e1 e2
    have : q ≠ g := by rintro rfl; unfold Col at hgcol; omega
    rw [Below.heap_setCell _ _ _ _ this]
    exact htopY q e1 e2
end Go.Proofs.YtbnmjmapmbdioaaDoor.Cb
