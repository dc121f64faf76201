/-
  The texts BlockKeep.
-/
import Derived.Test.YtedjohkdfchocaaGreatQBlockFits
import Derived.Deep.RegionLaw

/-
  Package block's reader: a piece kept, and the key that it makes.
-/
namespace Go.Proofs.YtedjohkdfchocaaGreat.Bk
open Go.RowKit Cm Mm
open Pk (WrAt RdAt Step enc enc_len fold text)
set_option linter.unusedVariables false

theorem infoPc : (Tryz.prog.info? 144).map (fun i => (i.zero, i.size, i.bytes)) = some (some (.agg #[.string ⟨#[]⟩, .int .i64 0, .bool false, .string ⟨#[]⟩, .int .i64 0]), 5, 56) := by kernel_rfl
/-- append of a text to an owned row, as one step of a region that draws its order. -/
theorem step_append_str {P : Program} (w : World) {ops : Array Oper} {o : Oper} {a : Act} {K : Act → World → Prop} {Q : Exit → Act → World → Prop} {E : Prop} (hgd : o.guard = none) (sl x : Operand) (t u : TypeId)
    (ho : o.op = .call { callee := .builtin .append, args := #[sl, x], argTypes := #[t, u] })
    (base : Nat) (e : TypeId) (i : TypeInfo) (ht : P.underlying t = some (.slice e)) (hu : P.underlying u = some .string) (hi : P.info? e = some i) (hz : i.zero = some (.int .u8 0))
    (hsize : i.size = 1) (hby : i.bytes = 1) (v : Value) (n : Nat) (xs : List Value) (hs : a.eval sl = v) (hown : w.ownsRow base e 1 v n xs) (s : ByteArray) (hx : a.eval x = .string s)
    (h63 : n + s.size ≤ maxLen) (hbytes : n + s.size ≤ 140737488355328) (hbase : base ≤ w.heap.size)
    (h : ∀ ao cap w', w'.ownsRow base e 1 (.slice ao (n + s.size) cap) (n + s.size) (xs ++ Lib.strCells s) → w.grownBy w' v.ownBlock → ((Value.slice ao (n + s.size) cap).ownBlock = v.ownBlock ∨ (Value.slice ao (n + s.size) cap).ownBlock = some w.heap.size) → K (a.put o.dst (.slice ao (n + s.size) cap)) w') :
    if Region.wanted o (yielded ops a.tmps) = true then Oper.wp P o a w K Q else E := by
  have hw : Region.wanted o (yielded ops a.tmps) = true := by simp [Region.wanted, hgd]
  rw [if_pos hw]
  obtain ⟨v', w', hr, h2, h3, h4⟩ := run_append_str_at (P := P) w base t u o.type e i ht hu hi hz hsize hby v n xs hown s h63 hbytes hbase
  have hf : ∃ ao cap, v' = .slice ao (n + s.size) cap := by
    rcases h2.2 with ⟨rfl, h0⟩ | ⟨g, cap, cur, rfl, _⟩
    · rw [h0]; exact ⟨_, _, rfl⟩
    · exact ⟨_, _, rfl⟩
  obtain ⟨ao, cap, rfl⟩ := hf
  unfold Oper.wp execOp
  simp only [ho, resolve, invoke, builtin, Sem.run_bind, Sem.run_pure, Result.andThen_ok, List.map_toArray, List.map_cons, List.map_nil, hs, hx, hr]
  exact h ao cap w' h2 h3 h4
/-- A row's beginning. -/
theorem own_front {w : World} {base n c k : Nat} {ao : Option Addr} {bsl : List UInt8} (h : w.ownsRow base 5 1 (.slice ao n c) n (bsl.map B8)) (hk : k ≤ n) : w.ownsRow base 5 1 (.slice ao k c) k ((bsl.take k).map B8) := by
  have hl : bsl.length = n := by simpa using h.1
  refine ⟨by simp; omega, ?_⟩
  rcases h.2 with ⟨e1, h0⟩ | ⟨g, cap, cur, e1, hB, hg, hle, hcm, hcs, htk⟩
  · cases e1
    have : k = 0 := by omega
    subst this
    exact .inl ⟨rfl, rfl⟩
  · cases e1
    refine .inr ⟨g, c, cur, rfl, hB, hg, by omega, hcm, hcs, ?_⟩
    rw [List.map_take]
    have : (bsl.map B8).take k = (cur.toList.take (n * 1)).take k := by rw [htk]
    rw [this, List.take_take]
    congr 1
    omega

/-- The reader while a piece is kept: the piece's box g beside it. -/
structure KS (w : World) (base q b : Nat) (s : ByteArray) (p : Pc) (g n : Nat) (xs : List Value) (key : List UInt8) (v1 v2 : Value) (X : World) : Prop where
  hq : X.heap[q]? = some (brObj b v1 v2)
  own1 : X.ownsRow base 144 5 v1 n xs
  own2 : X.ownsRow base 5 1 v2 key.length (key.map B8)
  rd : RdAt X b s
  bel : Below base w X
  box : X.heap[g]? = some (pcObj p)
section
variable {w X Y : World} {base q b g n n' : Nat} {s : ByteArray} {p : Pc} {xs xs' : List Value} {key key' : List UInt8} {v1 v2 v' : Value}
theorem row_block {t : TypeId} {size m : Nat} {v : Value} {ys : List Value} (h : X.ownsRow base t size v m ys) {k : Nat} (hk : v.ownBlock = some k) : ∃ cur, X.heap[k]? = some (.cells cur t (0, 0)) := by
  rcases h.2 with ⟨rfl, _⟩ | ⟨g, cap, cur, rfl, _, hg, _⟩
  · simp [Value.ownBlock] at hk
  · simp [Value.ownBlock] at hk
    subst hk
    exact ⟨cur, hg⟩
theorem KS.below (h : KS w base q b s p g n xs key v1 v2 X) (hB : base ≤ X.heap.size) (hb : Below X.heap.size X Y) : KS w base q b s p g n xs key v1 v2 Y :=
  ⟨(hb.block _ (lt_of_block h.hq)).trans h.hq, rows_keep h.own1 (fun k hk => hb.block _ (h.own1.lt k hk).2), rows_keep h.own2 (fun k hk => hb.block _ (h.own2.lt k hk).2), h.rd.below hb h.rd.lt, h.bel.trans (hb.mono hB), (hb.block _ (lt_of_block h.box)).trans h.box⟩
theorem KS.far1 (h : KS w base q b s p g n xs key v1 v2 X) : v1.ownBlock ≠ some q ∧ v1.ownBlock ≠ some b ∧ ∀ k, v2.ownBlock = some k → v1.ownBlock ≠ some k := by
  refine ⟨rows_far h.own1 h.hq (fun cs e => by simp [brObj] at e), rows_far h.own1 h.rd (fun cs e => by simp at e), fun k hk => ?_⟩
  obtain ⟨cur, hc⟩ := row_block h.own2 hk
  exact rows_far h.own1 hc (fun cs e => by simp at e)
theorem KS.far2 (h : KS w base q b s p g n xs key v1 v2 X) : v2.ownBlock ≠ some q ∧ v2.ownBlock ≠ some b ∧ v2.ownBlock ≠ some g ∧ ∀ k, v1.ownBlock = some k → v2.ownBlock ≠ some k := by
  refine ⟨rows_far h.own2 h.hq (fun cs e => by simp [brObj] at e), rows_far h.own2 h.rd (fun cs e => by simp at e), rows_far h.own2 h.box (fun cs e => by simp [pcObj] at e), fun k hk => ?_⟩
  obtain ⟨cur, hc⟩ := row_block h.own1 hk
  exact rows_far h.own2 hc (fun cs e => by simp at e)
/-- What the pieces' append leaves. -/
theorem KS.grow1 (h : KS w base q b s p g n xs key v1 v2 X) (hap : v1.ownBlock ≠ some g) (hB : base ≤ X.heap.size) (hown : Y.ownsRow base 144 5 v' n' xs') (hgr : X.grownBy Y v1.ownBlock) :
    Y.heap[q]? = some (brObj b v1 v2) ∧ Y.heap[g]? = some (pcObj p) ∧ ∀ hq : base ≤ q, KS w base q b s p g n' xs' key v' v2 (Y.setCell ⟨q, 1, none⟩ v') := by
  have f := h.far1
  have k1 : Y.heap[q]? = some (brObj b v1 v2) := (hgr.block q (lt_of_block h.hq) (fun e => f.1 e.symm)).trans h.hq
  have k2 : Y.heap[g]? = some (pcObj p) := (hgr.block g (lt_of_block h.box) (fun e => hap e.symm)).trans h.box
  refine ⟨k1, k2, fun hq => ?_⟩
  have hbq := br_far h.hq h.rd
  have kb : Y.heap[b]? = X.heap[b]? := hgr.block b h.rd.lt (fun e => f.2.1 e.symm)
  have own2 : Y.ownsRow base 5 1 v2 key.length (key.map B8) := rows_keep h.own2 (fun k hk => hgr.block k (h.own2.lt k hk).2 (fun e => f.2.2 k hk e.symm))
  have hf' : v'.ownBlock ≠ some q := rows_far hown k1 (fun cs e => by simp [brObj] at e)
  have hgq : g ≠ q := by
    rintro rfl
    have := h.hq
    rw [h.box] at this
    simp [brObj, pcObj] at this
  refine ⟨?_, ownsRow_setCell_other hown hf' _, ownsRow_setCell_other own2 (rows_far own2 k1 (fun cs e => by simp [brObj] at e)) _, ?_, ?_, ?_⟩
  · have := Joins.block_setCell k1 (i := 1) v'
    simpa [brObj] using this
  · show (Y.setCell _ _).heap[b]? = _
    rw [Below.heap_setCell _ _ _ _ (by simpa using hbq.symm), kb]
    exact h.rd
  · exact (h.bel.grown hgr (by have := h.bel.size; omega) (fun k hk => (h.own1.lt k hk).1)).setCell (by simpa using hq) _
  · rw [Below.heap_setCell _ _ _ _ (by simpa using hgq)]; exact k2
/-- What the key's append leaves. -/
theorem KS.grow2 (h : KS w base q b s p g n xs key v1 v2 X) (hB : base ≤ X.heap.size) (hown : Y.ownsRow base 5 1 v' key'.length (key'.map B8)) (hgr : X.grownBy Y v2.ownBlock) :
    Y.heap[q]? = some (brObj b v1 v2) ∧ Y.heap[g]? = some (pcObj p) ∧ ∀ hq : base ≤ q, KS w base q b s p g n xs key' v1 v' (Y.setCell ⟨q, 2, none⟩ v') := by
  have f := h.far2
  have k1 : Y.heap[q]? = some (brObj b v1 v2) := (hgr.block q (lt_of_block h.hq) (fun e => f.1 e.symm)).trans h.hq
  have k2 : Y.heap[g]? = some (pcObj p) := (hgr.block g (lt_of_block h.box) (fun e => f.2.2.1 e.symm)).trans h.box
  refine ⟨k1, k2, fun hq => ?_⟩
  have hbq := br_far h.hq h.rd
  have kb : Y.heap[b]? = X.heap[b]? := hgr.block b h.rd.lt (fun e => f.2.1 e.symm)
  have own1 : Y.ownsRow base 144 5 v1 n xs := rows_keep h.own1 (fun k hk => hgr.block k (h.own1.lt k hk).2 (fun e => f.2.2.2 k hk e.symm))
  have hf' : v'.ownBlock ≠ some q := rows_far hown k1 (fun cs e => by simp [brObj] at e)
  have hgq : g ≠ q := by
    rintro rfl
    have := h.hq
    rw [h.box] at this
    simp [brObj, pcObj] at this
  refine ⟨?_, ownsRow_setCell_other own1 (rows_far own1 k1 (fun cs e => by simp [brObj] at e)) _, ownsRow_setCell_other hown hf' _, ?_, ?_, ?_⟩
  · have := Joins.block_setCell k1 (i := 2) v'
    simpa [brObj] using this
  · show (Y.setCell _ _).heap[b]? = _
    rw [Below.heap_setCell _ _ _ _ (by simpa using hbq.symm), kb]
    exact h.rd
  · exact (h.bel.grown hgr (by have := h.bel.size; omega) (fun k hk => (h.own2.lt k hk).1)).setCell (by simpa using hq) _
  · rw [Below.heap_setCell _ _ _ _ (by simpa using hgq)]; exact k2
end

theorem str_cells (s : ByteArray) : Lib.strCells s = (bs s).map B8 := rfl
set_option maxRecDepth 100000 in
set_option maxHeartbeats 2000000 in
theorem keep_any (w : World) (base q b : Nat) (s : ByteArray) (es : List En) (v1 v2 : Value) (p : Pc) (X : World) (h : RS w base q b s es v1 v2 X) (hbase : base ≤ w.heap.size) (hbq : base ≤ q) (hp : p.share ≤ (lastKey [] es).length) (hl : es.length ≤ 100000000000) (hk : (lastKey [] es).length ≤ 1000000000000) (hr : p.rest.size ≤ 1000000000000)
    (hpc : pc (lastKey [] es) (glue (lastKey [] es) p) = p) :
    Calls Tryz.prog 84 #[.pointer (some ⟨q, 0, none⟩), pcv p] X fun e w' => e = .returned (.tuple #[]) ∧ ∃ v1' v2', RS w base q b s (es ++ [glue (lastKey [] es) p]) v1' v2' w' := by
  obtain ⟨i0, hi, hz0, hz1, hz2⟩ := info_parts infoPc
  obtain ⟨j0, gi, gz0, gz1, gz2⟩ := info_parts info8
  obtain ⟨K, hK⟩ : ∃ K, K = lastKey [] es := ⟨_, rfl⟩
  have HE : Hid (∀ v1' v2' Y n xs, KS w base q b s p X.heap.size n xs (K.take p.share ++ bs p.rest) v1' v2' Y → n = es.length + 1 → xs = pcShape.vals (pcs [] es) ++ pcShape.enc p → RS w base q b s (es ++ [glue (lastKey [] es) p]) v1' v2' Y) := fun v1' v2' Y n xs k e1 e2 => by
    have hb : lastKey [] (es ++ [glue (lastKey [] es) p]) = K.take p.share ++ bs p.rest := by rw [lastKey_snoc, hK]; unfold glue; rw [bs_mk]
    refine ⟨k.hq, ?_, ?_, k.rd, k.bel⟩
    · rw [pcs_snoc, hpc, Shape.vals_append, List.length_append]
      have := k.own1
      rw [e1, e2] at this
      simpa [Shape.vals] using this
    · rw [hb]; exact k.own2
  have hXs := h.bel.size
  have hb0 : base ≤ X.heap.size := by omega
  obtain ⟨X1, hX1⟩ : ∃ X1, X1 = X.alloc (pcObj p) := ⟨_, rfl⟩
  have hB1 : Below X.heap.size X X1 := by rw [hX1]; exact (Below.refl _ _).alloc (Nat.le_refl _) _
  have hz1' : X1.heap.size = X.heap.size + 1 := by rw [hX1]; simp
  have hg1 : X1.heap[X.heap.size]? = some (pcObj p) := by rw [hX1]; exact heap_alloc_new X _
  have K1 : KS w base q b s p X.heap.size es.length (pcShape.vals (pcs [] es)) K v1 v2 X1 :=
    ⟨(hB1.block _ (lt_of_block h.hq)).trans h.hq, rows_keep h.own1 (fun k hk => hB1.block _ (h.own1.lt k hk).2), by rw [hK]; exact rows_keep h.own2 (fun k hk => hB1.block _ (h.own2.lt k hk).2), h.rd.below hB1 h.rd.lt, h.bel.trans (hB1.mono hb0), hg1⟩
  have hap : v1.ownBlock ≠ some X.heap.size := fun e => by have := (h.own1.lt _ e).2; omega
  rw [← hK] at hp hk
  -- behind the draw, with the piece laid into a row of its own
  obtain ⟨X2, hX2⟩ : ∃ X2, X2 = (X1.alloc (pcObj p)).drew := ⟨_, rfl⟩
  have hB2 : Below X1.heap.size X1 X2 := by rw [hX2]; exact ((Below.refl _ _).alloc (Nat.le_refl _) _).drew
  have K2 : KS w base q b s p X.heap.size es.length (pcShape.vals (pcs [] es)) K v1 v2 X2 := K1.below (by omega) hB2
  have hg2 : X2.heap[X1.heap.size]? = some (pcObj p) := by rw [hX2]; exact heap_alloc_new X1 _
  have hz2' : X2.heap.size = X1.heap.size + 1 := by rw [hX2]; show (X1.alloc _).heap.size = _; simp
  have HN2 : Hid (∀ j u, (pcShape.enc p)[j]? = some u → X2.cell? ((⟨X1.heap.size, 0, none⟩ : Addr).add j) = some u) := by
    unfold pcObj at hg2
    exact World.news_of_block hg2
  have HG1 : Hid (∀ g5 cap5 w5, w5.ownsRow base 144 5 (.slice (some ⟨g5, 0, none⟩) (es.length + 1) cap5) (es.length + 1) (pcShape.vals (pcs [] es) ++ pcShape.enc p) → X2.grownBy w5 v1.ownBlock → _) := fun g5 cap5 w5 ho hg => K2.grow1 hap (by omega) ho hg
  have HO2 : Hid _ := K2.own1
  have hb2 : base ≤ X2.heap.size := by omega
  obtain ⟨c0, c1, c2, cf⟩ := br_cells K1.hq
  obtain ⟨d0, d1, d2, d3, d4, _⟩ := pc_cells K1.box
  have cf1 := cf 1
  have y1 : (X1.alloc (pcObj p)).cell? ⟨q, 1, none⟩ = some v1 := by have := (br_cells K2.hq).2.1; rw [hX2] at this; exact this
  have HK1 : Hid _ := K1
  have HX1 : Hid (X1.heap.size = X.heap.size + 1) := hz1'
  unfold pcObj at hX1 hX2 y1
  unfold pcv
  clear h hB1 hg1 K1 K2 hB2 hg2 hz1' hz2' cf hpc hK hXs
  obtain ⟨sh, R, Q, D, V⟩ := p
  simp only at *
  go_enter Tryz.func84, Tryz.ntmps84
  go_wp2_with fail
  rw [← hX1]
  clear hX1
  subst hX2
  go_region_law ((refine step_append_lies _ (by rfl) (.tmp 8) (.tmp 10) 140 (by rfl) base 144 i0 (.agg #[.string ⟨#[]⟩, .int .i64 0, .bool false, .string ⟨#[]⟩, .int .i64 0]) 5 56 Tryz.underlying140 hi hz0 hz1 hz2 rfl (by decide) v1 es.length (pcShape.vals (pcs [] es)) (by rfl) HO2.out ⟨X1.heap.size, 0, none⟩ 1 1 (pcShape.enc ⟨sh, R, Q, D, V⟩) (by rfl) rfl HN2.out (pcShape.one _) (by decide) (by unfold maxLen; omega) (by omega) hb2 _ rfl ?_; intro g5 cap5 w5 hown5 hgrow5 hat5 hlt5; obtain ⟨k1, k2, k3⟩ := HG1.out g5 cap5 w5 hown5 hgrow5; obtain ⟨e0, e1, e2, ef⟩ := br_cells k1; have ef1 := ef 1))
  all_goals
    have k4 := k3 hbq
    clear k3 k1 k2 hown5 hgrow5 hat5 hlt5 e0 e1 e2 ef ef1 y1 c0 c1 c2 d0 d1 d2 d3 d4 cf1
    obtain ⟨a2, n2, rfl, hle2⟩ := row1 k4.own2
    obtain ⟨w6, hw6⟩ : ∃ w6, w6 = w5.setCell ⟨q, 1, none⟩ (.slice (some ⟨g5, 0, none⟩) (es.length + 1) cap5) := ⟨_, rfl⟩
    rw [← hw6] at k4 ⊢
    clear hw6
    obtain ⟨c0, c1, c2, cf⟩ := br_cells k4.hq
    obtain ⟨d0, _, _, _, d4, _⟩ := pc_cells k4.box
    have cf2 := cf 2
    simp only at d0 d4
    have HB6 : Hid (base ≤ w6.drew.heap.size) := by have := k4.bel.size; show base ≤ w6.heap.size; omega
    have HO6 : Hid (w6.drew.ownsRow base 5 1 (.slice a2 sh n2) sh ((K.take sh).map B8)) := rows_keep (own_front k4.own2 hp) (fun _ _ => rfl)
    have k5 : KS w base q b s ⟨sh, R, Q, D, V⟩ X.heap.size (es.length + 1) (pcShape.vals (pcs [] es) ++ pcShape.enc ⟨sh, R, Q, D, V⟩) K (.slice (some ⟨g5, 0, none⟩) (es.length + 1) cap5) (.slice a2 K.length n2) w6.drew := k4.below (by have := k4.bel.size; omega) (Below.refl _ _).drew
    have HG6 : Hid (∀ ao cap w7, w7.ownsRow base 5 1 (.slice ao (sh + R.size) cap) (sh + R.size) ((K.take sh).map B8 ++ Lib.strCells R) → w6.drew.grownBy w7 (Value.slice a2 sh n2).ownBlock → w7.heap[q]? = some (brObj b (.slice (some ⟨g5, 0, none⟩) (es.length + 1) cap5) (.slice a2 K.length n2)) ∧ RS w base q b s (es ++ [glue (lastKey [] es) ⟨sh, R, Q, D, V⟩]) (.slice (some ⟨g5, 0, none⟩) (es.length + 1) cap5) (.slice ao (sh + R.size) cap) (w7.setCell ⟨q, 2, none⟩ (.slice ao (sh + R.size) cap))) := fun ao cap w7 ho hg => by
      have hl7 : (K.take sh ++ bs R).length = sh + R.size := by simp [bs_len]; omega
      have ho' : w7.ownsRow base 5 1 (.slice ao (sh + R.size) cap) (K.take sh ++ bs R).length ((K.take sh ++ bs R).map B8) := by rw [hl7, List.map_append]; exact ho
      obtain ⟨q1, q2, q3⟩ := k5.grow2 HB6.out ho' (by cases a2 <;> exact hg)
      exact ⟨q1, HE.out _ _ _ _ _ (q3 hbq) rfl rfl⟩
    have hb1 : (0 : Int) ≤ (sh : Int) := by omega
    have hb2' : (sh : Int) ≤ (n2 : Int) := by omega
    have h63 : sh + R.size ≤ maxLen := by unfold maxLen; omega
    have hby : sh + R.size ≤ 140737488355328 := by omega
    clear k4 k5 HE HK1 HO2 HG1 HN2 cf
    go_wp2_with fail
    go_region_law ((refine step_append_str _ (by rfl) (.tmp 21) (.tmp 24) 76 9 (by rfl) base 5 j0 Tryz.underlying76 Tryz.underlying9 gi gz0 gz1 gz2 (.slice a2 sh n2) sh ((K.take sh).map B8) (by rfl) HO6.out R (by rfl) h63 hby HB6.out ?_; intro ao7 cap7 w7 hown7 hgrow7 hat7; obtain ⟨k6, k7⟩ := HG6.out ao7 cap7 w7 hown7 hgrow7; obtain ⟨e0, e1, e2, ef⟩ := br_cells k6; have ef2 := ef 2))
    all_goals
      clear hown7 hgrow7 hat7 HG6 HO6 HB6
      go_wp2
      go_end0
      exact ⟨rfl, _, _, k7⟩
end Go.Proofs.YtedjohkdfchocaaGreat.Bk
