/-
  A shelf in memory (layer 11): its block, its map, the rows of files by their numbers; what keeps it; one file put.
-/
import Derived.Test.YtjfanbemihheiaaDoorQManGroups
import Derived.Test.YtjfanbemihheiaaDoorPart1
import Derived.Test.YtjfanbemihheiaaDoorPart1
namespace Go.Proofs.YtjfanbemihheiaaDoor.Ma
open Go.RowKit Cm
open Go.Maps (Keyed)
set_option linter.unusedVariables false

def fiShape : Shape Fi := ⟨2, fun f => [.int .i64 f.1, .int .i64 f.2], by decide, fun _ => rfl, fun a u hu => by simp at hu; rcases hu with rfl | rfl <;> rfl⟩
theorem infoFi : (Tryd.prog.info? 28).map (fun i => (i.zero, i.size, i.bytes)) = some (some (.agg #[.int .i64 0, .int .i64 0]), 2, 16) := by kernel_rfl
theorem keyI : Keyed Tryd.prog 3 := Maps.int_keyed Tryd.underlying3
theorem zeroFiles (w : World) : (zeroValue 22).run Tryd.prog w = .ok (.slice none 0 0) w := by kernel_rfl
theorem keyOfI {i : Int} (h : OkI i) : keyOf Tryd.prog 3 (.int .i64 i) = some (.int .i64 i) := Maps.keyOf_int_mk Tryd.underlying3 (WalkArith.wf_i64 (by unfold OkI at h; omega))
def RowF (w : World) (S : Nat → Prop) (u : Value) (fs : List Fi) : Prop := w.ownsRow 0 28 2 u fs.length (fiShape.vals fs) ∧ ∀ k, u.ownBlock = some k → S k
structure Groups (w : World) (S : Nat → Prop) (V : Lit → Option Value) (l : List Fi) : Prop where
  dom : ∀ k, (V (.int .i64 k)).isSome = hasN l k
  some_ : ∀ k u, V (.int .i64 k) = some u → RowF w S u (grp l k)
  apart : ∀ j k u v, j ≠ k → V (.int .i64 j) = some u → V (.int .i64 k) = some v → u.ownBlock = none ∨ u.ownBlock ≠ v.ownBlock
def shObj (bm : Nat) (v : Ve) : Obj := .cells #[.map (some bm), .int .i64 v.wal, .int .i64 v.next, .int .i64 v.seq] 53 (0, 0)
/-- Block q is a shelf that holds v; its map bm has at most c numbers; it owns S. -/
structure Parts (w : World) (S : Nat → Prop) (q bm : Nat) (V : Lit → Option Value) (v : Ve) (c : Nat) : Prop where
  head : w.heap[q]? = some (shObj bm v)
  sq : S q
  sm : S bm
  map : ∃ n, n ≤ c ∧ MapAt w Tryd.prog 3 bm n V
  groups : Groups w S V v.files
def ShelfAt (w : World) (S : Nat → Prop) (q : Nat) (v : Ve) (c : Nat) : Prop := ∃ bm V, Parts w S q bm V v c

section
variable {w w' : World} {S T : Nat → Prop} {q bm c : Nat} {v : Ve} {V : Lit → Option Value} {l : List Fi}
theorem RowF.keep {u : Value} {fs : List Fi} (h : RowF w S u fs) (hk : ∀ k, S k → k < w.heap.size → w'.heap[k]? = w.heap[k]?) : RowF w' S u fs :=
  ⟨rows_keep h.1 fun k e => hk k (h.2 k e) (h.1.lt k e).2, h.2⟩
theorem RowF.mono {u : Value} {fs : List Fi} (h : RowF w S u fs) (hs : ∀ k, S k → T k) : RowF w T u fs := ⟨h.1, fun k e => hs k (h.2 k e)⟩
theorem Groups.keep (h : Groups w S V l) (hk : ∀ k, S k → k < w.heap.size → w'.heap[k]? = w.heap[k]?) : Groups w' S V l :=
  ⟨h.dom, fun k u e => (h.some_ k u e).keep hk, h.apart⟩
theorem Groups.mono (h : Groups w S V l) (hs : ∀ k, S k → T k) : Groups w T V l := ⟨h.dom, fun k u e => (h.some_ k u e).mono hs, h.apart⟩
theorem Parts.lt (h : Parts w S q bm V v c) : q < w.heap.size ∧ bm < w.heap.size := by
  obtain ⟨n, _, hm⟩ := h.map
  exact ⟨lt_of_block h.head, hm.lt⟩
theorem Parts.keep (h : Parts w S q bm V v c) (hk : ∀ k, S k → k < w.heap.size → w'.heap[k]? = w.heap[k]?) : Parts w' S q bm V v c := by
  obtain ⟨n, hn, hm⟩ := h.map
  exact ⟨(hk q h.sq h.lt.1).trans h.head, h.sq, h.sm, ⟨n, hn, hm.keep (hk bm h.sm hm.lt)⟩, h.groups.keep hk⟩
theorem Parts.mono (h : Parts w S q bm V v c) (hs : ∀ k, S k → T k) : Parts w T q bm V v c := ⟨h.head, hs _ h.sq, hs _ h.sm, h.map, h.groups.mono hs⟩
theorem Parts.alloc (h : Parts w S q bm V v c) (o : Obj) : Parts (w.alloc o) S q bm V v c := h.keep fun k _ hk => Below.heap_alloc _ _ _ hk
theorem Parts.below (h : Parts w S q bm V v c) (hb : Below w.heap.size w w') : Parts w' S q bm V v c := h.keep fun k _ hk => hb.block k hk
theorem Parts.cells (h : Parts w S q bm V v c) : w.cell? ⟨q, 0, none⟩ = some (.map (some bm)) ∧ w.cell? ⟨q, 1, none⟩ = some (.int .i64 v.wal) ∧ w.cell? ⟨q, 2, none⟩ = some (.int .i64 v.next) ∧ w.cell? ⟨q, 3, none⟩ = some (.int .i64 v.seq) ∧ ∀ i, w.frozen? ⟨q, i, none⟩ = false := by
  have h1 := h.head
  refine ⟨?_, ?_, ?_, ?_, fun i => by simp [World.frozen?, h1, shObj]⟩ <;> rw [Joins.cell_of_block h1] <;> rfl
theorem ShelfAt.keep (h : ShelfAt w S q v c) (hk : ∀ k, S k → k < w.heap.size → w'.heap[k]? = w.heap[k]?) : ShelfAt w' S q v c := by
  obtain ⟨bm, V, h⟩ := h
  exact ⟨bm, V, h.keep hk⟩
theorem ShelfAt.mono (h : ShelfAt w S q v c) (hs : ∀ k, S k → T k) : ShelfAt w T q v c := by
  obtain ⟨bm, V, h⟩ := h
  exact ⟨bm, V, h.mono hs⟩
theorem ShelfAt.below (h : ShelfAt w S q v c) (hb : Below w.heap.size w w') : ShelfAt w' S q v c := h.keep fun k _ hk => hb.block k hk
theorem ShelfAt.alloc (h : ShelfAt w S q v c) (o : Obj) : ShelfAt (w.alloc o) S q v c := h.keep fun k _ hk => Below.heap_alloc _ _ _ hk
theorem ShelfAt.lt (h : ShelfAt w S q v c) : q < w.heap.size := by
  obtain ⟨bm, V, h⟩ := h
  exact h.lt.1
theorem ShelfAt.own (h : ShelfAt w S q v c) : S q := by
  obtain ⟨bm, V, h⟩ := h
  exact h.sq
/-- Exactly what it owns now. -/
theorem ShelfAt.cut (h : ShelfAt w S q v c) : ShelfAt w (fun k => S k ∧ k < w.heap.size) q v c := by
  obtain ⟨bm, V, h⟩ := h
  have hl := h.lt
  refine ⟨bm, V, h.head, ⟨h.sq, hl.1⟩, ⟨h.sm, hl.2⟩, h.map, ⟨h.groups.dom, fun k u e => ?_, h.groups.apart⟩⟩
  have := h.groups.some_ k u e
  exact ⟨this.1, fun j hj => ⟨this.2 j hj, (this.1.lt j hj).2⟩⟩
theorem lit_ne {j k : Int} (h : j ≠ k) : (Lit.int .i64 j) ≠ Lit.int .i64 k := fun e => h (by injection e)
theorem keyLit (k : Int) (h : OkI k) : WideAt.IsKeyLit (.int .i64 k) := keyI.key (keyOfI h)

/-- The row of one number, as the map answers it. -/
def rowOf (V : Lit → Option Value) (k : Int) : Value := (V (.int .i64 k)).getD (.slice none 0 0)
theorem Parts.row (h : Parts w S q bm V v c) (k : Int) : RowF w S (rowOf V k) (grp v.files k) := by
  unfold rowOf
  cases hv : V (.int .i64 k) with
  | some u => exact h.groups.some_ k u hv
  | none =>
    have := h.groups.dom k
    rw [hv, grp_has] at this
    have h0 : (grp v.files k).length = 0 := by simpa using this
    rw [List.eq_nil_of_length_eq_zero h0]
    exact ⟨World.ownsRow_nil _ _ _ _, fun k e => by simp [Value.ownBlock] at e⟩
theorem Parts.look (h : Parts w S q bm V v c) {k : Int} (hk : OkI k) : (Instr.lookup 51 (.map (some bm)) (.int .i64 k) false).run Tryd.prog w = .ok (rowOf V k) w := by
  obtain ⟨n, _, hm⟩ := h.map
  exact hm.run_look keyI Tryd.underlying51 (zeroFiles w) (keyOfI hk)
theorem row_form {u : Value} {fs : List Fi} (h : RowF w S u fs) : ∃ ao cap, u = .slice ao fs.length cap ∧ fs.length ≤ cap ∧ (ao = none → cap = 0) := by
  obtain ⟨ao, cap, e, h0, _, hc, _⟩ := own_rows (F := fiShape) h.1
  exact ⟨ao, cap, e, hc, h0⟩
/-- What the row of one number is apart from. -/
theorem Parts.far (h : Parts w S q bm V v c) (k : Int) : (rowOf V k).ownBlock ≠ some q ∧ (rowOf V k).ownBlock ≠ some bm := by
  have hr := h.row k
  refine ⟨rows_far hr.1 h.head (fun cs e => by simp [shObj] at e), fun e => ?_⟩
  obtain ⟨n, _, hm⟩ := h.map
  rcases hr.1.2 with ⟨e1, _⟩ | ⟨g, cap, cur, e1, _, hg, _⟩
  · rw [e1] at e; simp [Value.ownBlock] at e
  · rw [e1] at e
    simp [Value.ownBlock] at e
    subst e
    exact hm.no_cells hg
/-- One file more in the row of its number, stored. -/
theorem Parts.put {w1 : World} (h : Parts w S q bm V v c) (f : Fi) (hf : OkI f.2) (hc : c < maxLen) {u : Value} (hown : w1.ownsRow 0 28 2 u ((grp v.files f.2).length + 1) (fiShape.vals (grp v.files f.2) ++ fiShape.enc f)) (hgr : w.grownBy w1 (rowOf V f.2).ownBlock)
    (hat : u.ownBlock = (rowOf V f.2).ownBlock ∨ u.ownBlock = some w.heap.size) :
    ∃ w3 V', (Instr.mapUpdate 51 (.map (some bm)) (.int .i64 f.2) u).run Tryd.prog w1 = .ok () w3 ∧ Parts w3 (New S w) q bm V' ⟨v.files ++ [f], v.wal, v.next, v.seq⟩ (c + 1) ∧ Chg S w w3 ∧ ∀ j, j < w.heap.size → j ≠ bm → some j ≠ (rowOf V f.2).ownBlock → w3.heap[j]? = w.heap[j]? := by
  obtain ⟨n, hn, hm⟩ := h.map
  have hfar := h.far f.2
  have hr := h.row f.2
  have hl := h.lt
  have hm1 : MapAt w1 Tryd.prog 3 bm n V := hm.keep (hgr.block bm hl.2 fun e => hfar.2 e.symm)
  obtain ⟨w3, hrun, hm3, htu⟩ := hm1.store (val := u) keyI Tryd.underlying51 (zeroFiles w1) (Nat.lt_of_le_of_lt hn hc) (keyOfI hf)
  have hb3 : ∀ k, k < w1.heap.size → k ≠ bm → w3.heap[k]? = w1.heap[k]? := fun k hk hne => htu.grown.block k hk (by simpa using hne)
  have hs1 := hgr.size
  have hu1 : ∀ k, u.ownBlock = some k → New S w k ∧ k < w1.heap.size ∧ k ≠ bm := fun k e => by
    have hlt := (hown.lt k e).2
    refine ⟨?_, hlt, ?_⟩
    · rcases hat with q1 | q1
      · exact .inl (hr.2 k (by rw [← q1]; exact e))
      · rw [q1] at e; cases e; exact .inr (Nat.le_refl _)
    · rintro rfl
      rcases hown.2 with ⟨e1, _⟩ | ⟨g, cap, cur, e1, _, hg, _⟩
      · rw [e1] at e; simp [Value.ownBlock] at e
      · rw [e1] at e
        simp [Value.ownBlock] at e
        subst e
        exact hm1.no_cells hg
  refine ⟨w3, _, hrun, ⟨?_, .inl h.sq, .inl h.sm, ⟨_, ?_, hm3⟩, ⟨fun k => ?_, fun k y hy => ?_, fun j k x y hjk hx hy => ?_⟩⟩, ?_, fun j hj hjm hjr => (hb3 j (by omega) hjm).trans (hgr.block j hj hjr)⟩
  · have hqb : q ≠ bm := by
      rintro rfl
      exact hm.no_cells h.head
    exact (hb3 q (by omega) hqb).trans ((hgr.block q hl.1 fun e => hfar.1 e.symm).trans h.head)
  · split <;> omega
  · by_cases hk : k = f.2
    · subst hk
      rw [upd_same _ (keyLit _ hf)]
      show true = hasN (v.files ++ [f]) f.2
      exact (hasN_true.2 ⟨f, by simp, rfl⟩).symm
    · rw [upd_other _ (lit_ne hk), h.groups.dom k]
      show hasN v.files k = hasN (v.files ++ [f]) k
      unfold hasN
      rw [List.any_append]
      have : ([f].any fun g => g.2 == k) = false := by simp; exact fun e => hk e.symm
      rw [this, Bool.or_false]
  · show RowF w3 (New S w) y (grp (v.files ++ [f]) k)
    rw [grp_snoc]
    by_cases hk : k = f.2
    · subst hk
      rw [upd_same _ (keyLit _ hf)] at hy
      cases hy
      rw [if_pos rfl]
      refine ⟨rows_keep ?_ (fun j e => hb3 j (hu1 j e).2.1 (hu1 j e).2.2), fun j e => (hu1 j e).1⟩
      rw [List.length_append, fiShape.vals_append]
      simpa [Shape.vals] using hown
    · rw [upd_other _ (lit_ne hk)] at hy
      rw [if_neg hk]
      have h1 := h.groups.some_ k y hy
      refine ⟨rows_keep h1.1 (fun j e => ?_), fun j e => .inl (h1.2 j e)⟩
      have hj := (h1.1.lt j e).2
      have hjm : j ≠ bm := by
        rintro rfl
        rcases h1.1.2 with ⟨e1, _⟩ | ⟨g, cap, cur, e1, _, hg, _⟩
        · rw [e1] at e; simp [Value.ownBlock] at e
        · rw [e1] at e
          simp [Value.ownBlock] at e
          subst e
          exact hm.no_cells hg
      refine (hb3 j (by omega) hjm).trans (hgr.block j hj fun e2 => ?_)
      unfold rowOf at e2
      cases hv : V (.int .i64 f.2) with
      | none => rw [hv] at e2; simp [Value.ownBlock] at e2
      | some z =>
        rw [hv] at e2
        simp only [Option.getD_some] at e2
        rcases h.groups.apart k f.2 y z hk hy hv with q1 | q1
        · rw [q1] at e; cases e
        · exact q1 (by rw [e, e2])
  · by_cases hj : j = f.2
    · subst hj
      rw [upd_same _ (keyLit _ hf)] at hx
      cases hx
      rw [upd_other _ (lit_ne hjk.symm)] at hy
      rcases hat with q1 | q1
      · rw [q1]
        unfold rowOf
        cases hv : V (.int .i64 f.2) with
        | none => exact .inl rfl
        | some z => exact h.groups.apart f.2 k z y hjk hv hy
      · refine .inr fun e => ?_
        rw [q1] at e
        have := ((h.groups.some_ k y hy).1.lt _ e.symm).2
        omega
    · rw [upd_other _ (lit_ne hj)] at hx
      by_cases hk : k = f.2
      · subst hk
        rw [upd_same _ (keyLit _ hf)] at hy
        cases hy
        rcases hat with q1 | q1
        · rw [q1]
          unfold rowOf
          cases hv : V (.int .i64 f.2) with
          | none =>
            cases hx1 : x.ownBlock with
            | none => exact .inl rfl
            | some b => exact .inr (by simp [Value.ownBlock])
          | some z => exact h.groups.apart j f.2 x z hjk hx hv
        · refine .inr fun e => ?_
          rw [q1] at e
          have := ((h.groups.some_ j x hx).1.lt _ e).2
          omega
      · rw [upd_other _ (lit_ne hk)] at hy
        exact h.groups.apart j k x y hjk hx hy
  · refine (Chg.grown hgr fun k e => hr.2 k e.symm.symm).trans (Chg.turned htu (.inl h.sm))
/-- One number dropped. -/
theorem Parts.dropped {w3 : World} {n : Nat} (h : Parts w S q bm V v c) {k : Int} (hk : OkI k) (hn : n ≤ c) (hm3 : MapAt w3 Tryd.prog 3 bm n (upd V (.int .i64 k) none)) (htu : w.mapTurned w3 bm) :
    Parts w3 S q bm (upd V (.int .i64 k) none) ⟨drop1 v.files k, v.wal, v.next, v.seq⟩ c ∧ Chg S w w3 := by
  obtain ⟨_, _, hm⟩ := h.map
  have hl := h.lt
  have hb3 : ∀ j, j < w.heap.size → j ≠ bm → w3.heap[j]? = w.heap[j]? := fun j hj hne => htu.grown.block j hj (by simpa using hne)
  refine ⟨⟨?_, h.sq, h.sm, ⟨n, hn, hm3⟩, ⟨fun j => ?_, fun j y hy => ?_, fun i j x y hij hx hy => ?_⟩⟩, Chg.turned htu h.sm⟩
  · have hqb : q ≠ bm := by
      rintro rfl
      exact hm.no_cells h.head
    exact (hb3 q hl.1 hqb).trans h.head
  · show _ = hasN (drop1 v.files k) j
    rw [grp_has, grp_drop1]
    by_cases hj : j = k
    · subst hj
      rw [upd_same _ (keyLit _ hk), if_pos rfl]; rfl
    · rw [upd_other _ (lit_ne hj), if_neg hj, h.groups.dom j, grp_has]
  · show RowF w3 S y (grp (drop1 v.files k) j)
    rw [grp_drop1]
    by_cases hj : j = k
    · subst hj
      rw [upd_same _ (keyLit _ hk)] at hy
      cases hy
    · rw [upd_other _ (lit_ne hj)] at hy
      rw [if_neg hj]
      have h1 := h.groups.some_ j y hy
      refine ⟨rows_keep h1.1 (fun i e => hb3 i (h1.1.lt i e).2 ?_), h1.2⟩
      rintro rfl
      rcases h1.1.2 with ⟨e1, _⟩ | ⟨g, cap, cur, e1, _, hg, _⟩
      · rw [e1] at e; simp [Value.ownBlock] at e
      · rw [e1] at e
        simp [Value.ownBlock] at e
        subst e
        exact hm.no_cells hg
  · by_cases hi : i = k
    · subst hi
      rw [upd_same _ (keyLit _ hk)] at hx; cases hx
    · by_cases hj : j = k
      · subst hj
        rw [upd_same _ (keyLit _ hk)] at hy; cases hy
      · rw [upd_other _ (lit_ne hi)] at hx
        rw [upd_other _ (lit_ne hj)] at hy
        exact h.groups.apart i j x y hij hx hy
end
end Go.Proofs.YtjfanbemihheiaaDoor.Ma
