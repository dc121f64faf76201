/-
  A row of bytes that was made of a text and grows: told by its cells (behind its end it may bear a mark).
-/
import Derived.Test.YtjfanbemihheiaaGreatDoorQManReader
import Derived.Lib.ConvBytes
namespace Go.Proofs.YtjfanbemihheiaaGreatDoor.Ma
open Go.RowKit Cm
set_option linter.unusedVariables false

theorem bs_mk (l : List UInt8) : bs ⟨l.toArray⟩ = l := by simp [bs]
/-- The slice v holds the bytes l, in a block from base on that nobody else has. -/
def RowZ (w : World) (base : Nat) (v : Value) (l : List UInt8) : Prop :=
  ∃ g cap cur fz, v = .slice (some ⟨g, 0, none⟩) l.length cap ∧ base ≤ g ∧ w.heap[g]? = some (.cells cur 5 fz) ∧ l.length ≤ cap ∧ cap ≤ maxLen ∧
    (∀ j, j < cap → (w.cell? ⟨g, j, none⟩).isSome = true) ∧ (∀ j, j < cap → w.frozen? ⟨g, j, none⟩ = false) ∧ ∀ j (h : j < l.length), w.cell? ⟨g, j, none⟩ = some (B8 l[j])
section
variable {w w' : World} {base : Nat} {v : Value} {l : List UInt8}
theorem RowZ.lt (h : RowZ w base v l) : ∀ k, v.ownBlock = some k → base ≤ k ∧ k < w.heap.size := by
  obtain ⟨g, cap, cur, fz, rfl, hB, hg, _⟩ := h
  intro k hk
  simp [Value.ownBlock] at hk
  subst hk
  exact ⟨hB, lt_of_block hg⟩
theorem RowZ.far (h : RowZ w base v l) {k : Nat} {o : Obj} (hk : w.heap[k]? = some o) (ho : ∀ cs fz, o ≠ .cells cs 5 fz) : v.ownBlock ≠ some k := by
  obtain ⟨g, cap, cur, fz, rfl, hB, hg, _⟩ := h
  intro e
  simp [Value.ownBlock] at e
  subst e
  rw [hg] at hk
  exact ho cur fz (by simpa using hk.symm)
theorem RowZ.keep (h : RowZ w base v l) (hk : ∀ k, v.ownBlock = some k → w'.heap[k]? = w.heap[k]?) : RowZ w' base v l := by
  obtain ⟨g, cap, cur, fz, rfl, hB, hg, h1, h2, h3, h4, h5⟩ := h
  have hq : w'.heap[g]? = w.heap[g]? := hk g rfl
  have hc : ∀ j, w'.cell? ⟨g, j, none⟩ = w.cell? ⟨g, j, none⟩ := fun j => World.cell?_of_block hq
  have hf : ∀ j, w'.frozen? ⟨g, j, none⟩ = w.frozen? ⟨g, j, none⟩ := fun j => by simp only [World.frozen?]; rw [hq]
  exact ⟨g, cap, cur, fz, rfl, hB, hq.trans hg, h1, h2, fun j hj => by rw [hc]; exact h3 j hj, fun j hj => by rw [hf]; exact h4 j hj, fun j hj => by rw [hc]; exact h5 j hj⟩
theorem RowZ.below (h : RowZ w base v l) (hb : Below w.heap.size w w') : RowZ w' base v l := h.keep fun k hk => hb.block k (h.lt k hk).2
theorem RowZ.string (h : RowZ w base v l) : (convert 65 9 v).run Tryz.prog w = .ok (.string ⟨l.toArray⟩) w := by
  obtain ⟨g, cap, cur, fz, rfl, hB, hg, h1, h2, h3, h4, h5⟩ := h
  refine run_convert_bytes_back w 65 9 5 ⟨g, 0, none⟩ cap l Tryz.underlying65 Tryz.underlying5 Tryz.underlying9 fun j hj => ?_
  rw [Go.WideShapes.add_plain, Nat.zero_add]
  exact h5 j hj
/-- A text's bytes as a row. -/
theorem RowZ.made (w : World) (s : ByteArray) (base : Nat) (hb : base ≤ w.heap.size) (hs : s.size ≤ maxLen) : RowZ (Lib.bytesWorld w 5 s) base (.slice (some ⟨w.heap.size, 0, none⟩) s.size (grownCap w s.size 0 5)) (bs s) := by
  have hg := Lib.bytesWorld_at_new w 5 s
  have hge := grownCap_ge w s.size 0 5
  have hcz : (Lib.bytesCells w 5 s).size = grownCap w s.size 0 5 := by
    unfold Lib.bytesCells
    simp only [Array.size_append, Array.size_map, Array.size_replicate]
    show s.size + _ = _
    omega
  refine ⟨w.heap.size, grownCap w s.size 0 5, _, _, by rw [bs_len], hb, hg, by rw [bs_len]; exact hge, grownCap_le_maxLen w s.size 0 5 hs, fun j hj => ?_, fun j hj => ?_, fun j hj => ?_⟩
  · rw [Joins.cell_of_block hg]
    simp [hcz, hj]
  · simp only [World.frozen?, hg, Bool.and_eq_false_iff, decide_eq_false_iff_not]
    left
    simp only [hcz]
    omega
  · have hj' : j < s.size := by rwa [bs_len] at hj
    rw [Lib.bytesWorld_cell w 5 s j hj']
    unfold bs at hj ⊢
    simp only [B8]
    rw [getD_lt _ _ _ hj]
theorem made_below (w : World) (s : ByteArray) : Below w.heap.size w (Lib.bytesWorld w 5 s) := by
  refine ⟨rfl, rfl, rfl, by rw [Lib.bytesWorld_size]; omega, fun k hk => Lib.bytesWorld_at_old w 5 s k hk⟩
theorem setCells_other (b k : Nat) (hk : k ≠ b) : ∀ (vs : List Value) (o : Nat) (w : World), (w.setCells b o vs).heap[k]? = w.heap[k]?
  | [], _, _ => rfl
  | v :: r, o, w => by rw [World.setCells, setCells_other b k hk r, Below.heap_setCell _ _ _ _ (by simpa using hk)]
theorem setCells_rest (b : Nat) : ∀ (vs : List Value) (o : Nat) (w : World), (w.setCells b o vs).os = w.os ∧ (w.setCells b o vs).tape = w.tape ∧ (w.setCells b o vs).output = w.output ∧ (w.setCells b o vs).heap.size = w.heap.size
  | [], _, _ => ⟨rfl, rfl, rfl, rfl⟩
  | v :: r, o, w => by
    obtain ⟨h1, h2, h3, h4⟩ := setCells_rest b r (o + 1) (w.setCell ⟨b, o, none⟩ v)
    refine ⟨h1, h2, h3, ?_⟩
    rw [World.setCells, h4]
    simp [World.setCell]
theorem setCells_block (b : Nat) {t : TypeId} {fz : Nat × Nat} : ∀ (vs : List Value) (o : Nat) (w : World) (cs : Array Value), w.heap[b]? = some (.cells cs t fz) → ∃ cs', (w.setCells b o vs).heap[b]? = some (.cells cs' t fz)
  | [], _, _, cs, h => ⟨cs, h⟩
  | v :: r, o, w, cs, h => by
    rw [World.setCells]
    exact setCells_block b r (o + 1) _ _ (Joins.block_setCell h v)
/-- Bytes put behind it. -/
theorem RowZ.append (h : RowZ w base v l) {tx ty : TypeId} {x : Value} {n : Nat} {news : List UInt8} (hs : Src Tryz.prog 1 tx x n (news.map B8) w) (h63 : l.length + news.length ≤ 140737488355328) (hbase : base ≤ w.heap.size) :
    ∃ v' w', (Builtin.append_ #[65, tx] ty #[v, x]).run Tryz.prog w = .ok v' w' ∧ RowZ w' base v' (l ++ news) ∧ w.grownBy w' v.ownBlock := by
  obtain ⟨i0, hi, hz0, hz1, hz2⟩ := info_parts info8
  obtain ⟨g, cap, cur, fz, rfl, hB, hg, h1, h2, h3, h4, h5⟩ := h
  have hn : n = news.length := by have := hs.newsLen; simpa using this.symm
  subst hn
  rw [← hz1] at hs
  by_cases hroom : l.length + news.length ≤ cap
  · have hc : ∀ j, j < (news.map B8).length → (w.cell? ⟨g, 0 + l.length * i0.size + j, none⟩).isSome = true := fun j hj => h3 _ (by rw [hz1]; simp at hj; omega)
    have hf : ∀ j, j < (news.map B8).length → w.frozen? ⟨g, 0 + l.length * i0.size + j, none⟩ = false := fun j hj => h4 _ (by rw [hz1]; simp at hj; omega)
    have hr := run_append_room_src (P := Tryz.prog) w 65 tx ty 5 i0 Tryz.underlying65 hi g 0 l.length cap x news.length (news.map B8) hs hroom hc hf
    rw [hz1, Nat.zero_add, Nat.mul_one] at hr
    have hc' : ∀ j, j < (news.map B8).length → (w.cell? ⟨g, l.length + j, none⟩).isSome = true := fun j hj => h3 _ (by simp at hj; omega)
    obtain ⟨r1, r2, r3, r4⟩ := setCells_rest g (news.map B8) l.length w
    obtain ⟨cur', hg'⟩ := setCells_block g (news.map B8) l.length w cur hg
    refine ⟨_, _, hr, ⟨g, cap, cur', fz, by rw [List.length_append], hB, hg', by rw [List.length_append]; exact hroom, h2, fun j hj => ?_, fun j hj => by rw [World.frozen?_setCells]; exact h4 j hj, fun j hj => ?_⟩, ⟨r1, r2, r3, by rw [r4]; exact Nat.le_refl _, fun k hk hne => setCells_other g k (fun e => hne (by rw [e]; rfl)) _ _ _⟩⟩
    · by_cases hin : l.length ≤ j ∧ j < l.length + news.length
      · obtain ⟨m, rfl⟩ : ∃ m, j = l.length + m := ⟨j - l.length, by omega⟩
        rw [World.cell?_setCells_in g (news.map B8) l.length w hc' m (by simp; omega)]; rfl
      · rw [World.cell?_setCells_out g (news.map B8) l.length w _ (fun _ _ => by simp; omega)]
        exact h3 j hj
    · by_cases hin : j < l.length
      · rw [World.cell?_setCells_out g (news.map B8) l.length w _ (fun _ _ => .inl hin), List.getElem_append_left hin]
        exact h5 j hin
      · obtain ⟨m, rfl⟩ : ∃ m, j = l.length + m := ⟨j - l.length, by omega⟩
        rw [List.length_append] at hj
        rw [World.cell?_setCells_in g (news.map B8) l.length w hc' m (by simp; omega)]
        simp
  · have hold : (Builtin.firstCells i0.size l.length (.slice (some ⟨g, 0, none⟩) l.length cap)).run Tryz.prog w.drew = .ok (l.map B8).toArray w.drew := by
      rw [hz1]
      refine run_firstCells_some w.drew 1 l.length ⟨g, 0, none⟩ l.length cap (l.map B8) (by simp) fun j u hu => ?_
      have hj : j < l.length := by have := (List.getElem?_eq_some_iff.1 hu).1; simpa using this
      rw [Go.WideShapes.add_plain, Nat.zero_add]
      have h6 := h5 j hj
      have : u = B8 l[j] := by simp [hj] at hu; exact hu.symm
      rw [this]; exact h6
    have hr := run_append_grow_src (P := Tryz.prog) w 65 tx ty 5 i0 (.int .u8 0) Tryz.underlying65 hi hz0 (some ⟨g, 0, none⟩) l.length cap (l.map B8) hold x news.length (news.map B8) hs (by omega) (by omega) (by rw [hz2]; exact growslice_fits (by omega) (by omega))
    have hge := grownCap_ge w (l.length + news.length) cap 5
    have hcm2 : grownCap w (l.length + news.length) cap 5 ≤ maxLen := grownCap_le_maxLen w (l.length + news.length) cap 5 (by unfold maxLen; omega)
    have hnew := heap_alloc_new w.drew (.cells ((l.map B8 ++ news.map B8).toArray ++ Builtin.zeroCells (Value.cells (.int .u8 0)) (grownCap w (l.length + news.length) cap 5 - (l.length + news.length))) 5)
    have hsz : ((l.map B8 ++ news.map B8).toArray ++ Builtin.zeroCells (Value.cells (.int .u8 0)) (grownCap w (l.length + news.length) cap 5 - (l.length + news.length))).size = grownCap w (l.length + news.length) cap 5 := by
      have hz1' : (Value.int IntKind.u8 0).cells.size = 1 := rfl
      simp only [Array.size_append, List.size_toArray, size_zeroCells, hz1', List.length_append, List.length_map]
      omega
    refine ⟨_, _, hr, ⟨w.heap.size, _, _, (0, 0), by rw [List.length_append], hbase, hnew, by rw [List.length_append]; exact hge, hcm2, fun j hj => ?_, fun j hj => ?_, fun j hj => ?_⟩, ⟨rfl, rfl, rfl, by simp, fun k hk _ => Below.heap_alloc w.drew _ k hk⟩⟩
    · have := Joins.cell_of_block (i := j) hnew
      rw [show (w.drew.alloc _).cell? ⟨w.heap.size, j, none⟩ = _ from this]
      rw [Array.getElem?_eq_getElem (by rw [hsz]; exact hj)]; rfl
    · have hnew' : (w.drew.alloc (.cells ((l.map B8 ++ news.map B8).toArray ++ Builtin.zeroCells (Value.cells (.int .u8 0)) (grownCap w (l.length + news.length) cap 5 - (l.length + news.length))) 5)).heap[w.heap.size]? = _ := hnew
      simp only [World.frozen?]
      rw [hnew']
      simp
    · have := Joins.cell_of_block (i := j) hnew
      rw [show (w.drew.alloc _).cell? ⟨w.heap.size, j, none⟩ = _ from this]
      rw [List.length_append] at hj
      rw [Array.getElem?_append_left (by simp; omega)]
      simp only [List.getElem?_toArray, ← List.map_append]
      rw [List.getElem?_map, List.getElem?_eq_getElem (by simp; omega)]
      rfl
end
/-- append to such a row, in a plain region. -/
theorem wpList_rowz {ops : Array Oper} {rest : List Oper} {o : Oper} {a : Act} {Q : Exit → Act → World → Prop} (w : World) (hgd : o.guard = none) (sl x : Operand) (tx : TypeId)
    (ho : o.op = .call { callee := .builtin .append, args := #[sl, x], argTypes := #[65, tx] }) (base : Nat) (v xv : Value) (l news : List UInt8) (n : Nat) (hs : a.eval sl = v) (hx : a.eval x = xv)
    (hrow : RowZ w base v l) (hsrc : Src Tryz.prog 1 tx xv n (news.map B8) w) (h63 : l.length + news.length ≤ 140737488355328) (hbase : base ≤ w.heap.size)
    (h : ∀ v' w', RowZ w' base v' (l ++ news) → w.grownBy w' v.ownBlock → wpList Tryz.prog ops Q rest (a.put o.dst v') w') : wpList Tryz.prog ops Q (o :: rest) a w := by
  refine wpList_plain hgd fun K hK => ?_
  obtain ⟨v', w', hr, h2, h3⟩ := hrow.append (ty := o.type) hsrc h63 hbase
  unfold Oper.wp execOp
  simp only [ho, resolve, invoke, builtin, Sem.run_bind, Sem.run_pure, Result.andThen_ok, List.map_toArray, List.map_cons, List.map_nil, hs, hx, hr]
  exact hK _ _ (h v' w' h2 h3)
/-- append to such a row, as one step of a region that draws its order. -/
theorem step_rowz {ops : Array Oper} {o : Oper} {a : Act} {K : Act → World → Prop} {Q : Exit → Act → World → Prop} {E : Prop} (w : World) (hgd : o.guard = none) (sl x : Operand) (tx : TypeId)
    (ho : o.op = .call { callee := .builtin .append, args := #[sl, x], argTypes := #[65, tx] }) (base : Nat) (v xv : Value) (l news : List UInt8) (n : Nat) (hs : a.eval sl = v) (hx : a.eval x = xv)
    (hrow : RowZ w base v l) (hsrc : Src Tryz.prog 1 tx xv n (news.map B8) w) (h63 : l.length + news.length ≤ 140737488355328) (hbase : base ≤ w.heap.size)
    (h : ∀ v' w', RowZ w' base v' (l ++ news) → w.grownBy w' v.ownBlock → K (a.put o.dst v') w') : if Region.wanted o (yielded ops a.tmps) = true then Oper.wp Tryz.prog o a w K Q else E := by
  have hw : Region.wanted o (yielded ops a.tmps) = true := by simp [Region.wanted, hgd]
  rw [if_pos hw]
  obtain ⟨v', w', hr, h2, h3⟩ := hrow.append (ty := o.type) hsrc h63 hbase
  unfold Oper.wp execOp
  simp only [ho, resolve, invoke, builtin, Sem.run_bind, Sem.run_pure, Result.andThen_ok, List.map_toArray, List.map_cons, List.map_nil, hs, hx, hr]
  exact h v' w' h2 h3
theorem src_str (w : World) (l : List UInt8) : Src Tryz.prog 1 9 (.string ⟨l.toArray⟩) l.length (l.map B8) w := by
  have := Src.ofString (P := Tryz.prog) w (tx := 9) Tryz.underlying9 ⟨l.toArray⟩
  have h1 : (⟨l.toArray⟩ : ByteArray).size = l.length := by rw [← bs_len, bs_mk]
  rw [h1] at this
  exact this
end Go.Proofs.YtjfanbemihheiaaGreatDoor.Ma
