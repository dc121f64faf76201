/-
  ManifestCuts: what the first loop holds in memory: the version in its box, the versions so far, the places where they end.
-/
import Derived.Test.YtjfanbemihheiaaGreatDoorQManReadsWalk
import Derived.Test.YtjfanbemihheiaaGreatDoorPart3
namespace Go.Proofs.YtjfanbemihheiaaGreatDoor.Ma
open Go.RowKit Cm
set_option linter.unusedVariables false

theorem rows_apart {w : World} {B1 B2 n1 n2 k1 k2 : Nat} {t1 t2 : TypeId} {v1 v2 : Value} {xs ys : List Value} (h1 : w.ownsRow B1 t1 k1 v1 n1 xs) (h2 : w.ownsRow B2 t2 k2 v2 n2 ys) (ht : t1 ≠ t2) : ∀ k, v1.ownBlock = some k → v2.ownBlock ≠ some k := by
  intro k hk hd
  rcases h1.2 with ⟨e1, _⟩ | ⟨j, cap, cur, e1, _, hj, _⟩
  · rw [e1] at hk; simp [Value.ownBlock] at hk
  · rw [e1] at hk
    simp [Value.ownBlock] at hk
    subst hk
    rcases h2.2 with ⟨e2, _⟩ | ⟨i, cap2, cur2, e2, _, hi, _⟩
    · rw [e2] at hd; simp [Value.ownBlock] at hd
    · rw [e2] at hd
      simp [Value.ownBlock] at hd
      subst hd
      rw [hj] at hi
      simp only [Option.some.injEq, Obj.cells.injEq] at hi
      exact ht hi.2.1
/-- A version as it lies: where its files are. -/
structure Vi where
  fo : Option Addr
  cap : Nat
  v : Ve
def Vi.f (z : Vi) : Value := .slice z.fo z.v.files.length z.cap
def Vi.zero : Vi := ⟨none, 0, Ve.zero⟩
def viShape : Shape Vi := ⟨4, fun z => [z.f, .int .i64 z.v.wal, .int .i64 z.v.next, .int .i64 z.v.seq], by decide, fun _ => rfl, fun z u hu => by simp [Vi.f] at hu; rcases hu with rfl | rfl | rfl | rfl <;> rfl⟩
theorem infoVe : (Tryz.prog.info? 26).map (fun i => (i.zero, i.size, i.bytes)) = some (some (.agg #[.slice none 0 0, .int .i64 0, .int .i64 0, .int .i64 0]), 4, 48) := by kernel_rfl
theorem tv_tf : 53 ≠ 26 := by decide
theorem tv_ti : 3 ≠ 26 := by decide
theorem tf_ti : 53 ≠ 3 := by decide
/-- The box g holds the version z; rows from B on. -/
structure CS (w : World) (g B : Nat) (z : Vi) (vis : List Vi) (ns : List Int) (vv ev : Value) (X : World) : Prop where
  bel : Below w.heap.size w X
  box : X.heap[g]? = some (veObj z.f z.v)
  at_ : VerAt X 0 z.f z.v
  ats : ∀ y ∈ vis, VerAt X 0 y.f y.v
  vers : X.ownsRow B 26 4 vv vis.length (viShape.vals vis)
  ends : X.ownsRow B 3 1 ev ns.length (inShape.vals ns)
  gB : g < B
  wg : w.heap.size ≤ g
section
variable {w X Y : World} {g B : Nat} {z y : Vi} {vis : List Vi} {ns : List Int} {vv ev : Value}
theorem VerAt.keep {C : Nat} {f : Value} {v : Ve} (h : VerAt X C f v) (hk : ∀ k, f.ownBlock = some k → k < X.heap.size → Y.heap[k]? = X.heap[k]?) : VerAt Y C f v := rows_keep h fun k e => hk k e (World.ownsRow.lt h k e).2
theorem CS.keep (h : CS w g B z vis ns vv ev X) (hb : Below X.heap.size X Y) : CS w g B z vis ns vv ev Y :=
  ⟨h.bel.trans (hb.mono h.bel.size), (hb.block _ (lt_of_block h.box)).trans h.box, h.at_.keep (fun k _ hk => hb.block k hk), fun y hy => (h.ats y hy).keep (fun k _ hk => hb.block k hk), rows_keep h.vers (fun k e => hb.block k (h.vers.lt k e).2), rows_keep h.ends (fun k e => hb.block k (h.ends.lt k e).2), h.gB, h.wg⟩
/-- A version stored into the box. -/
theorem CS.put (h : CS w g B z vis ns vv ev X) (hy : VerAt X 0 y.f y.v) : CS w g B y vis ns vv ev ((((X.setCell ⟨g, 0, none⟩ y.f).setCell ⟨g, 1, none⟩ (.int .i64 y.v.wal)).setCell ⟨g, 2, none⟩ (.int .i64 y.v.next)).setCell ⟨g, 3, none⟩ (.int .i64 y.v.seq)) := by
  have hk : ∀ k, k ≠ g → ((((X.setCell ⟨g, 0, none⟩ y.f).setCell ⟨g, 1, none⟩ (.int .i64 y.v.wal)).setCell ⟨g, 2, none⟩ (.int .i64 y.v.next)).setCell ⟨g, 3, none⟩ (.int .i64 y.v.seq)).heap[k]? = X.heap[k]? := fun k hk => by
    rw [Below.heap_setCell _ _ _ _ (by simpa using hk), Below.heap_setCell _ _ _ _ (by simpa using hk), Below.heap_setCell _ _ _ _ (by simpa using hk), Below.heap_setCell _ _ _ _ (by simpa using hk)]
  have hf : ∀ {C : Nat} {f : Value} {v : Ve}, VerAt X C f v → ∀ k, f.ownBlock = some k → k ≠ g := fun hv k hkk e => by
    rw [e] at hkk
    exact rows_far hv h.box (fun cs q => by simp only [veObj, Obj.cells.injEq] at q; exact tv_tf q.2.1.symm) hkk
  refine ⟨(((h.bel.setCell h.wg _).setCell h.wg _).setCell h.wg _).setCell h.wg _, ?_, hy.keep (fun k e _ => hk k (hf hy k e)), fun x hx => (h.ats x hx).keep (fun k e _ => hk k (hf (h.ats x hx) k e)),
    rows_keep h.vers (fun k e => hk k (by have := (h.vers.lt k e).1; have := h.gB; omega)), rows_keep h.ends (fun k e => hk k (by have := (h.ends.lt k e).1; have := h.gB; omega)), h.gB, h.wg⟩
  have h1 := h.box
  unfold veObj at h1
  have q1 := Joins.block_setCell h1 (i := 0) y.f
  have q2 := Joins.block_setCell q1 (i := 1) (.int .i64 y.v.wal)
  have q3 := Joins.block_setCell q2 (i := 2) (.int .i64 y.v.next)
  have q4 := Joins.block_setCell q3 (i := 3) (.int .i64 y.v.seq)
  rw [q4]; rfl
/-- One version more. -/
theorem CS.addV (h : CS w g B z vis ns vv ev X) (hB : B ≤ X.heap.size) {o : Obj} {v' : Value} (hown : Y.ownsRow B 26 4 v' (vis.length + 1) (viShape.vals (vis ++ [z]))) (hg : (X.alloc o).grownBy Y vv.ownBlock) : CS w g B z (vis ++ [z]) ns v' ev Y := by
  have hc : ∀ k, k < X.heap.size → vv.ownBlock ≠ some k → Y.heap[k]? = X.heap[k]? := fun k hk hne => by
    rw [hg.block k (by simp; omega) (fun e => hne e.symm)]
    exact Below.heap_alloc _ _ _ hk
  have hf : ∀ {C : Nat} {f : Value} {v : Ve}, VerAt X C f v → VerAt Y C f v := fun hv => hv.keep fun k e hk => hc k hk (rows_apart hv h.vers tv_tf k e)
  refine ⟨(h.bel.alloc h.bel.size o).grown hg (by have := h.bel.size; simp; omega) (fun k e => by have := (h.vers.lt k e).1; have := h.gB; have := h.wg; omega), (hc g (lt_of_block h.box) (fun e => by have := (h.vers.lt g e).1; have := h.gB; omega)).trans h.box, hf h.at_, fun x hx => ?_, by rw [List.length_append]; exact hown,
    rows_keep h.ends (fun k e => hc k (h.ends.lt k e).2 (rows_apart h.ends h.vers tv_ti k e)), h.gB, h.wg⟩
  rcases List.mem_append.1 hx with hx | hx
  · exact hf (h.ats x hx)
  · obtain rfl : x = z := by simpa using hx
    exact hf h.at_
/-- One place more. -/
theorem CS.addE (h : CS w g B z vis ns vv ev X) (hB : B ≤ X.heap.size) {o : Obj} {v' : Value} {n : Int} (hown : Y.ownsRow B 3 1 v' (ns.length + 1) (inShape.vals (ns ++ [n]))) (hg : (X.alloc o).grownBy Y ev.ownBlock) : CS w g B z vis (ns ++ [n]) vv v' Y := by
  have hc : ∀ k, k < X.heap.size → ev.ownBlock ≠ some k → Y.heap[k]? = X.heap[k]? := fun k hk hne => by
    rw [hg.block k (by simp; omega) (fun e => hne e.symm)]
    exact Below.heap_alloc _ _ _ hk
  have hf : ∀ {C : Nat} {f : Value} {v : Ve}, VerAt X C f v → VerAt Y C f v := fun hv => hv.keep fun k e hk => hc k hk (rows_apart hv h.ends tf_ti k e)
  exact ⟨(h.bel.alloc h.bel.size o).grown hg (by have := h.bel.size; simp; omega) (fun k e => by have := (h.ends.lt k e).1; have := h.gB; have := h.wg; omega), (hc g (lt_of_block h.box) (fun e => by have := (h.ends.lt g e).1; have := h.gB; omega)).trans h.box, hf h.at_, fun x hx => hf (h.ats x hx),
    rows_keep h.vers (fun k e => hc k (h.vers.lt k e).2 (rows_apart h.vers h.ends (Ne.symm tv_ti) k e)), by rw [List.length_append]; exact hown, h.gB, h.wg⟩
theorem CS.boxes (h : CS w g B z vis ns vv ev X) : X.cell? ⟨g, 0, none⟩ = some z.f ∧ X.cell? ⟨g, 1, none⟩ = some (.int .i64 z.v.wal) ∧ X.cell? ⟨g, 2, none⟩ = some (.int .i64 z.v.next) ∧ X.cell? ⟨g, 3, none⟩ = some (.int .i64 z.v.seq) ∧ ∀ i, X.frozen? ⟨g, i, none⟩ = false := ve_cells h.box
/-- The j-th place. -/
theorem CS.end_at (h : CS w g B z vis ns vv ev X) {j : Nat} (hj : j < ns.length) : ∃ b cap, ev = .slice (some ⟨b, 0, none⟩) ns.length cap ∧ X.cell? ⟨b, j, none⟩ = some (.int .i64 (ns.getD j 0)) := by
  rcases h.ends.2 with ⟨_, h0⟩ | ⟨b, cap, cur, e, _, hb, _⟩
  · omega
  · refine ⟨b, cap, e, ?_⟩
    have h1 := h.ends.cells (g := b) (by rw [e]; rfl) j (.int .i64 (ns.getD j 0)) (by
      have := inShape.vals_get ns j hj 0 (by decide)
      rw [show j * inShape.sz + 0 = j from Nat.mul_one j] at this
      rw [this, getD_lt _ _ _ hj]; rfl)
    rwa [Go.WideShapes.add_plain, Nat.zero_add] at h1
/-- The j-th version. -/
theorem CS.ver_at (h : CS w g B z vis ns vv ev X) {j : Nat} (hj : j < vis.length) : ∃ b cap, vv = .slice (some ⟨b, 0, none⟩) vis.length cap ∧ X.cell? ⟨b, j * 4, none⟩ = some (vis.getD j Vi.zero).f ∧ X.cell? ⟨b, j * 4 + 1, none⟩ = some (.int .i64 (vis.getD j Vi.zero).v.wal) ∧
    X.cell? ⟨b, j * 4 + 2, none⟩ = some (.int .i64 (vis.getD j Vi.zero).v.next) ∧ X.cell? ⟨b, j * 4 + 3, none⟩ = some (.int .i64 (vis.getD j Vi.zero).v.seq) ∧ VerAt X 0 (vis.getD j Vi.zero).f (vis.getD j Vi.zero).v := by
  have ha := h.ats (vis.getD j Vi.zero) (by rw [getD_lt _ _ _ hj]; exact List.getElem_mem _)
  rcases h.vers.2 with ⟨_, h0⟩ | ⟨b, cap, cur, e, _, hb, _⟩
  · omega
  · have h1 : ∀ i u, i < 4 → (viShape.enc (vis.getD j Vi.zero))[i]? = some u → X.cell? ⟨b, j * 4 + i, none⟩ = some u := fun i u hi hu => by
      have h2 := h.vers.cells (g := b) (by rw [e]; rfl) (j * 4 + i) u (by
        have := viShape.vals_get vis j hj i hi
        rw [show viShape.sz = 4 from rfl] at this
        rw [this, ← getD_lt _ _ Vi.zero hj]; exact hu)
      rwa [Go.WideShapes.add_plain, Nat.zero_add] at h2
    exact ⟨b, cap, e, h1 0 _ (by omega) rfl, h1 1 _ (by omega) rfl, h1 2 _ (by omega) rfl, h1 3 _ (by omega) rfl, ha⟩
end

/-! ### What it knows -/
/-- How great the edits are. -/
def wt (es : List Ed) : Nat := (es.map fun e => e.add.length + e.del.length + 1).sum
theorem wt_snoc (es : List Ed) (e : Ed) : wt (es ++ [e]) = wt es + (e.add.length + e.del.length + 1) := by simp [wt]
/-- Some of the edits, that were taken one behind the other; the versions behind each of them, the places where each ends. -/
structure CL (all : List Ed) (es : List Ed) (u : Ve) (z : Vi) (vis : List Vi) (ns : List Int) : Prop where
  eds : ∀ e ∈ es, IsEd (encE e) e ∧ (encE e).length ≤ 65536
  led : app Ve.zero es = some u
  now : z.v = u.sort
  lv : vis.length = es.length + 1
  ln : ns.length = es.length + 1
  ver : ∀ j, j ≤ es.length → ∃ x, app Ve.zero (es.take j) = some x ∧ (vis.getD j Vi.zero).v = x.sort
  end_ : ∀ j, j ≤ es.length → ns.getD j 0 = ((bytesOf (es.take j)).length : Int)
  bytes : (bytesOf es).length ≤ 58 * wt all
  files : u.files.length ≤ wt all
  few : es.length ≤ wt all
  ok : ∀ f ∈ u.files, OkF f
theorem CL.start (z : Vi) (hz : z.v = Ve.zero) : CL [] [] Ve.zero z [z] [0] := by
  refine ⟨(fun e h => by cases h), rfl, (by rw [hz, zero_sort]), rfl, rfl, (fun j hj => ?_), (fun j hj => ?_), Nat.zero_le _, Nat.zero_le _, Nat.zero_le _, (fun f h => by cases h)⟩
  · obtain rfl : j = 0 := by simpa using hj
    exact ⟨Ve.zero, rfl, by rw [zero_sort]; exact hz⟩
  · obtain rfl : j = 0 := by simpa using hj
    rfl
theorem CL.skip {all es : List Ed} {u : Ve} {z : Vi} {vis : List Vi} {ns : List Int} (h : CL all es u z vis ns) (d : Ed) : CL (all ++ [d]) es u z vis ns := by
  have := wt_snoc all d
  exact ⟨h.eds, h.led, h.now, h.lv, h.ln, h.ver, h.end_, by have := h.bytes; omega, by have := h.files; omega, by have := h.few; omega, h.ok⟩
theorem CL.step {all es : List Ed} {u : Ve} {z y : Vi} {vis : List Vi} {ns : List Int} (h : CL all es u z vis ns) (d : Ed) (hd : d.Ok) (hok : okE u d = true) (hl : (encE d).length ≤ 65536) (hy : y.v = (nxt u d).sort) :
    CL (all ++ [d]) (es ++ [d]) (nxt u d) y (vis ++ [y]) (ns ++ [((bytesOf (es ++ [d])).length : Int)]) := by
  have hw := wt_snoc all d
  have hr : right d = true := by unfold okE at hok; simp only [Bool.and_eq_true] at hok; exact hok.1
  have hled : app Ve.zero (es ++ [d]) = some (nxt u d) := by rw [app_snoc h.led, one_is hok]
  have hlv := h.lv
  have hln := h.ln
  refine ⟨fun e he => ?_, hled, hy, by rw [List.length_append, List.length_append, hlv]; rfl, by rw [List.length_append, List.length_append, hln]; rfl, fun j hj => ?_, fun j hj => ?_, ?_, ?_, ?_, fun f hf => ?_⟩
  · rcases List.mem_append.1 he with he | he
    · exact h.eds e he
    · obtain rfl : e = d := by simpa using he
      exact ⟨⟨hd, hr, rfl⟩, hl⟩
  · rcases Nat.lt_or_ge es.length j with hj2 | hj2
    · have : j = es.length + 1 := by rw [List.length_append] at hj; simp at hj; omega
      subst this
      rw [List.take_of_length_le (by simp)]
      refine ⟨_, hled, ?_⟩
      rw [show es.length + 1 = vis.length from hlv.symm]
      simpa using hy
    · obtain ⟨x, h1, h2⟩ := h.ver j hj2
      refine ⟨x, by rw [List.take_append_of_le_length hj2]; exact h1, ?_⟩
      rw [← h2]
      simp [List.getElem?_append_left (show j < vis.length by omega)]
  · rcases Nat.lt_or_ge es.length j with hj2 | hj2
    · have : j = es.length + 1 := by rw [List.length_append] at hj; simp at hj; omega
      subst this
      rw [List.take_of_length_le (by simp), show es.length + 1 = ns.length from hln.symm]
      simp
    · rw [List.take_append_of_le_length hj2, ← h.end_ j hj2]
      simp [List.getElem?_append_left (show j < ns.length by omega)]
  · have h1 := (encE_len d).1
    have h2 := h.bytes
    rw [bytesOf_snoc, List.length_append, Fr.frame_len]
    omega
  · have h1 := stay_len u.files d.del
    have h2 := h.files
    simp only [nxt, List.length_append]
    omega
  · have := h.few
    rw [List.length_append]; simp; omega
  · rcases List.mem_append.1 hf with hf | hf
    · exact h.ok f (mem_stay.1 hf).1
    · exact hd.add f hf
/-- Where the k-th edit's frame ends. -/
theorem bytes_step {es : List Ed} {k : Nat} (hk : k < es.length) : (bytesOf (es.take k)).length + 8 ≤ (bytesOf (es.take (k + 1))).length := by
  rw [List.take_succ_eq_append_getElem hk, bytesOf_snoc, List.length_append, Fr.frame_len]; omega
end Go.Proofs.YtjfanbemihheiaaGreatDoor.Ma
