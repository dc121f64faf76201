/-
  The texts BlockGlue.
-/
import Derived.Test.YtedjohkdfchocaaGreatQBlockFits
import Derived.Test.YtedjohkdfchocaaGreatQEnRef
import Derived.Laws.MakeOwn

/-
  Package block's reader: the pieces with their whole keys.
-/
namespace Go.Proofs.YtedjohkdfchocaaGreat.Bk
open Go.RowKit Cm Mm
open Pk (WrAt RdAt Step enc enc_len fold text)
set_option linter.unusedVariables false

/-- The cells of a row of which the first k versions are laid. -/
structure Filled (cs : Array Value) (es : List En) (k : Nat) : Prop where
  size : cs.size = es.length * 4
  at' : ∀ i (h : i < es.length), i < k → ∀ j u, (enShape.enc es[i])[j]? = some u → cs[i * 4 + j]? = some u
theorem Filled.next {cs : Array Value} {es : List En} {k : Nat} (h : Filled cs es k) (hk : k < es.length) (a : Value) :
    Filled (((((cs.setIfInBounds (k * 4) a).setIfInBounds (k * 4 + 1) (.int .i64 es[k].seq)).setIfInBounds (k * 4 + 2) (.bool es[k].dead)).setIfInBounds (k * 4 + 3) (.string es[k].val)).setIfInBounds (k * 4) (.string es[k].key)) es (k + 1) := by
  have hs := h.size
  refine ⟨by simpa using hs, fun i hi hik j u hu => ?_⟩
  have hj : j < 4 := by
    have := (List.getElem?_eq_some_iff.1 hu).1
    rw [enShape.len] at this
    exact this
  simp only [Array.getElem?_setIfInBounds, Array.size_setIfInBounds]
  rcases Nat.lt_or_ge i k with h1 | h1
  · have := h.at' i hi h1 j u hu
    rw [if_neg (by omega), if_neg (by omega), if_neg (by omega), if_neg (by omega), if_neg (by omega)]
    exact this
  · obtain rfl : i = k := by omega
    match j, hj, hu with
    | 0, _, hu =>
      simp [enShape] at hu
      rw [if_pos (by omega), if_pos (by omega)]; rw [hu]
    | 1, _, hu =>
      simp [enShape] at hu
      rw [if_neg (by omega), if_neg (by omega), if_neg (by omega), if_pos rfl, if_pos (by omega)]; rw [hu]
    | 2, _, hu =>
      simp [enShape] at hu
      rw [if_neg (by omega), if_neg (by omega), if_pos rfl, if_pos (by omega)]; rw [hu]
    | 3, _, hu =>
      simp [enShape] at hu
      rw [if_neg (by omega), if_pos rfl, if_pos (by omega)]; rw [hu]
theorem Filled.all {cs : Array Value} {es : List En} (h : Filled cs es es.length) : cs.toList = enShape.vals es := by
  apply List.ext_getElem?
  intro m
  have hs := h.size
  have hv : (enShape.vals es).length = es.length * 4 := enShape.vals_length es
  by_cases hm : m < es.length * 4
  · have hi : m / 4 < es.length := by omega
    have e1 := enShape.vals_get es (m / 4) hi (m % 4) (Nat.mod_lt _ (by decide))
    have e2 : m / 4 * 4 + m % 4 = m := by omega
    have e3 : m / 4 * enShape.sz + m % 4 = m := e2
    rw [e3] at e1
    have hl : m % 4 < (enShape.enc es[m / 4]).length := by rw [enShape.len]; exact Nat.mod_lt _ (by decide)
    have := h.at' (m / 4) hi hi (m % 4) _ (List.getElem?_eq_getElem hl)
    rw [e2] at this
    rw [e1, List.getElem?_eq_getElem hl, ← this]
    simp
  · rw [List.getElem?_eq_none (by simp; omega), List.getElem?_eq_none (by omega)]
theorem Filled.cell {cs : Array Value} {es : List En} {k j : Nat} {w : World} {g : Nat} (h : Filled cs es k) (hk : k < es.length) (hj : j < 4) (hg : w.heap[g]? = some (.cells cs 25 (0, 0))) : ∃ u, w.cell? ⟨g, k * 4 + j, none⟩ = some u := by
  have hs := h.size
  rw [Joins.cell_of_block hg]
  exact ⟨_, Array.getElem?_eq_getElem (by omega)⟩
theorem Filled.own {cs : Array Value} {es : List En} {w : World} {base g : Nat} (h : Filled cs es es.length) (hg : w.heap[g]? = some (.cells cs 25 (0, 0))) (hb : base ≤ g) (hl : es.length ≤ 100000000000) : w.ownsRow base 25 4 (.slice (some ⟨g, 0, none⟩) es.length es.length) es.length (enShape.vals es) := by
  have hs := h.size
  refine ⟨enShape.vals_length es, .inr ⟨g, es.length, cs, rfl, hb, hg, Nat.le_refl _, by unfold maxLen; omega, hs, ?_⟩⟩
  rw [h.all, List.take_of_length_le]
  rw [enShape.vals_length es]; exact Nat.le_refl _
theorem add_key (es : List En) (k : Nat) (hk : k < es.length) (L : ByteArray) (hL : bs L = lastKey [] (es.take k)) :
    L.extract 0 ((pcs [] es).getD k Pc.zero).share ++ ((pcs [] es).getD k Pc.zero).rest = (es.getD k En.zero).key := by
  rw [pcs_at _ _ _ hk]
  apply bs_inj
  have := congrArg En.key (glue_pc (lastKey [] (es.take k)) (es.getD k En.zero))
  have h2 := congrArg bs this
  unfold glue at h2
  rw [bs_mk] at h2
  rw [← h2, ← hL]
  unfold bs
  rw [Go.Joins.data_append, Lib.extract_data]
  simp

set_option maxRecDepth 100000 in
set_option maxHeartbeats 2000000 in
theorem whole_any (ao : Option Addr) (ca : Nat) (es : List En) (w : World) (hx : ElemsAt pcShape w ao (pcs [] es)) (hl : es.length ≤ 100000000000) (hz : ∀ k, (es.getD k En.zero).key.size ≤ 1000000000000) :
    Calls Tryz.prog 86 #[.slice ao es.length ca] w fun e w' => ∃ v, e = .returned v ∧ w'.ownsRow w.heap.size 25 4 v es.length (enShape.vals es) ∧ Below w.heap.size w w' := by
  obtain ⟨i0, hi0, hz0, hz1, hz2⟩ := info_parts infoEn
  obtain ⟨Z, hZ⟩ : ∃ Z : Array Value, Z = madeCells (Value.cells (.agg #[.string ⟨#[]⟩, .int .i64 0, .bool false, .string ⟨#[]⟩])) (es.length * 4) := ⟨_, rfl⟩
  have hZs : Z.size = es.length * 4 := by rw [hZ]; exact size_madeCells _ _
  have hmk : ∀ w : World, (Instr.makeSlice 22 (.int .i64 es.length) (.int .i64 es.length)).run Tryz.prog w = .ok (.slice (some ⟨w.heap.size, 0, none⟩) es.length es.length) (w.alloc (.cells Z 25)) := fun w => by
    have := run_make (P := Tryz.prog) w 22 25 i0 _ Tryz.underlying22 hi0 hz0 .i64 .i64 es.length es.length (by omega) (by omega) (by rw [hz2]; omega) (by omega)
    rw [hz1] at this
    simp only [Int.toNat_natCast] at this
    rw [hZ]
    exact this
  have HX : Hid (∀ wr, Below w.heap.size w wr → ElemsAt pcShape wr ao (pcs [] es)) := fun wr hb => hx.later hb
  have HF0 : Hid (Filled Z es 0 ∧ (w.alloc (.cells Z 25)).heap[w.heap.size]? = some (.cells Z 25 (0, 0)) ∧ Below w.heap.size w (w.alloc (.cells Z 25))) := ⟨⟨hZs, fun i hi h0 => by omega⟩, heap_alloc_new w _, (Below.refl _ _).alloc (Nat.le_refl _) _⟩
  have HK : Hid (∀ k, (⟨(lastKey [] (es.take k)).toArray⟩ : ByteArray).size ≤ 1000000000000) := fun k => by
    cases k with
    | zero => show 0 ≤ _; omega
    | succ k =>
      rcases Nat.eq_zero_or_pos (es.take (k + 1)).length with h0 | h0
      · rw [List.eq_nil_of_length_eq_zero h0]; show 0 ≤ _; omega
      · rw [lastKey_last h0, ← bs_len, bs_mk, bs_len]
        have hlt : (es.take (k + 1)).length - 1 < es.length := by simp at h0 ⊢; omega
        have e : (es.take (k + 1)).getD ((es.take (k + 1)).length - 1) En.zero = es.getD ((es.take (k + 1)).length - 1) En.zero := by
          rw [getD_lt _ _ _ (by omega), getD_lt _ _ _ hlt, List.getElem_take]
        rw [e]; exact hz _
  have HZ : Hid _ := hz
  clear hx hZ hZs hi0 hz0 hz1 hz2 hz
  go_enter Tryz.func86, Tryz.ntmps86
  go_wp2
  clear hmk
  go_loopw [4, 12] (fun kv i wr => ∃ (k : Nat) (cs : Array Value), k ≤ es.length ∧ i = .int .i64 k ∧ kv = .string ⟨(lastKey [] (es.take k)).toArray⟩ ∧ Hid (Filled cs es k) ∧ Hid (wr.heap[w.heap.size]? = some (.cells cs 25 (0, 0))) ∧ Hid (Below w.heap.size w wr)) (fun _ i _ => es.length - (intOf i).toNat)
  case atStart => exact ⟨0, Z, by omega, rfl, rfl, HF0.out.1, HF0.out.2.1, HF0.out.2.2⟩
  case round =>
    obtain ⟨k, cs, hk, rfl, rfl, HF, HG, HB⟩ := hrel
    by_cases hlt : k < es.length
    · obtain ⟨pb, off, rfl, c0, c1, c2, c3, c4⟩ := piece_cells (HX.out wr HB.out) (k := k) (by rw [pcs_len]; exact hlt)
      have HA : Hid _ := add_key es k hlt ⟨(lastKey [] (es.take k)).toArray⟩ (bs_mk _)
      have hsh : ((pcs [] es).getD k Pc.zero).share ≤ (⟨(lastKey [] (es.take k)).toArray⟩ : ByteArray).size := by
        rw [pcs_at _ _ _ hlt, ← bs_len, bs_mk]
        exact (share_le _ _).1
      have hrs : ((pcs [] es).getD k Pc.zero).rest.size ≤ 1000000000000 := by
        rw [pcs_at _ _ _ hlt]
        exact Nat.le_trans (pc_len _ _) (HZ.out k)
      have hq : ((pcs [] es).getD k Pc.zero).seq = es[k].seq ∧ ((pcs [] es).getD k Pc.zero).dead = es[k].dead ∧ ((pcs [] es).getD k Pc.zero).val = es[k].val := by
        rw [pcs_at _ _ _ hlt, getD_lt _ _ _ hlt]
        exact ⟨rfl, rfl, rfl⟩
      rw [hq.1] at c1
      rw [hq.2.1] at c2
      rw [hq.2.2] at c3
      have hLs := HK.out k
      have HKn : Hid ((⟨(lastKey [] (es.take (k + 1))).toArray⟩ : ByteArray) = es[k].key) := by
        show _ = _
        apply bs_inj
        rw [bs_mk, take_at hlt, lastKey_snoc, getD_lt _ _ _ hlt]
      rw [getD_lt _ _ _ hlt] at HA
      generalize (⟨(lastKey [] (es.take k)).toArray⟩ : ByteArray) = L at *
      generalize (pcs [] es).getD k Pc.zero = P at *
      obtain ⟨sh, R, _, _, _⟩ := P
      simp only at *
      have hglt : w.heap.size < wr.heap.size := lt_of_block HG.out
      have HW5 : Hid (∀ n, ((wr.alloc (.cells #[.string R, .int .i64 es[k].seq, .bool es[k].dead, .string es[k].val, .int .i64 sh] 144)).drewN n).heap[w.heap.size]? = some (.cells cs 25 (0, 0)) ∧ ((wr.alloc (.cells #[.string R, .int .i64 es[k].seq, .bool es[k].dead, .string es[k].val, .int .i64 sh] 144)).drewN n).heap[wr.heap.size]? = some (pcObj ⟨sh, R, es[k].seq, es[k].dead, es[k].val⟩) ∧ Below w.heap.size w ((wr.alloc (.cells #[.string R, .int .i64 es[k].seq, .bool es[k].dead, .string es[k].val, .int .i64 sh] 144)).drewN n)) := fun n =>
        ⟨(Below.heap_alloc _ _ _ hglt).trans HG.out, heap_alloc_new wr _, by
          have := HB.out.alloc HB.out.size (.cells #[.string R, .int .i64 es[k].seq, .bool es[k].dead, .string es[k].val, .int .i64 sh] 144)
          exact ⟨this.os, this.tape, this.output, this.size, this.block⟩⟩
      have HFn : Hid (∀ a, _) := fun a => HF.out.next hlt a
      have HFc : Hid _ := HF.out
      have hk0 : (0 : Int) ≤ (k : Int) := by omega
      have hk1 : (k : Int) < (es.length : Int) := by omega
      have hs0 : (0 : Int) ≤ (sh : Int) := by omega
      have hs1 : (sh : Int) ≤ (L.size : Int) := by omega
      have hel : (L.extract 0 sh).size ≤ 1000000000000 := by rw [ByteArray.size_extract]; omega
      clear HX HG HB HF0 hq HK HZ HF
      generalize es[k].seq = eq at *
      generalize es[k].dead = ed at *
      generalize es[k].val = ev at *
      generalize es[k].key = ek at *
      go_wp2_with fail
      go_quiet (fail)
      have HW6 : Hid _ := HW5.out nq
      obtain ⟨w5, hw5⟩ : ∃ w5, w5 = (wr.alloc (.cells #[.string R, .int .i64 eq, .bool ed, .string ev, .int .i64 sh] 144)).drewN nq := ⟨_, rfl⟩
      rw [← hw5] at HW6 ⊢
      clear hw5 HW5 c0 c1 c2 c3 c4
      obtain ⟨d0, d1, d2, d3, d4, _⟩ := pc_cells HW6.out.2.1
      obtain ⟨u0, g0⟩ := HFc.out.cell hlt (j := 0) (by decide) HW6.out.1
      obtain ⟨u1, g1⟩ := HFc.out.cell hlt (j := 1) (by decide) HW6.out.1
      obtain ⟨u2, g2⟩ := HFc.out.cell hlt (j := 2) (by decide) HW6.out.1
      obtain ⟨u3, g3⟩ := HFc.out.cell hlt (j := 3) (by decide) HW6.out.1
      rw [Nat.add_zero] at g0
      have gf : ∀ i, w5.frozen? ⟨w.heap.size, i, none⟩ = false := fun i => by have := HW6.out.1; simp [World.frozen?, this]
      have gf0 := gf (k * 4)
      have gf1 := gf (k * 4 + 1)
      have gf2 := gf (k * 4 + 2)
      have gf3 := gf (k * 4 + 3)
      clear gf
      simp only at d0 d1 d2 d3 d4
      go_wp2
      go_roundw
      case rel =>
        rw [HA.out]
        refine ⟨k + 1, _, by omega, by go_num, by rw [HKn.out], HFn.out (.string R), ?_, ?_⟩
        · exact Joins.block_setCell (Joins.block_setCell (Joins.block_setCell (Joins.block_setCell (Joins.block_setCell HW6.out.1 _) _) _) _) _
        · exact ((((HW6.out.2.2.setCell (by simp) _).setCell (by simp) _).setCell (by simp) _).setCell (by simp) _).setCell (by simp) _
      case measure => simp [intOf]; omega
    · obtain rfl : k = es.length := by omega
      have HO : Hid _ := HF.out.own HG.out (Nat.le_refl _) hl
      clear HX HK HZ HF0
      go_wp2
      go_ret
      exact ⟨_, rfl, HO.out, HB.out⟩
end Go.Proofs.YtedjohkdfchocaaGreat.Bk
