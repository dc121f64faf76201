/-
  The texts TableCalls.
-/
import Derived.Test.YtedjohkdfchocaaGreatQTableOpen
import Derived.Test.YtedjohkdfchocaaGreatQTableSearch
import Derived.Laws.CopyRow
import Derived.Laws.MakeOwn
import Derived.Laws.StructEq

/-
  Package table: what an opened table answers.
-/
namespace Go.Proofs.YtedjohkdfchocaaGreat.Tb
open Go.RowKit Cm Mm Bk
open Fr (str)
set_option linter.unusedVariables false

section
variable {w X Y : World} {base b : Nat} {es : List En}
theorem TabAt.later (h : TabAt w base b es X) (hB : base ≤ w.heap.size) (hb : Below X.heap.size X Y) : TabAt w base b es Y := by
  obtain ⟨v, h1, h2⟩ := h.row
  exact ⟨⟨v, (hb.block _ (lt_of_block h1)).trans h1, rows_keep h2 (fun j hj => hb.block j (h2.lt j hj).2)⟩, h.lo, h.bel.trans (hb.mono (by have := h.bel.size; omega))⟩
theorem TabAt.head (h : TabAt w base b es X) {ao : Option Addr} {n ca : Nat} (hc : X.cell? ⟨b, 0, none⟩ = some (.slice ao n ca)) : ao = none ∨ ∃ g, ao = some ⟨g, 0, none⟩ := by
  obtain ⟨v, h1, h2⟩ := h.row
  have e : X.cell? ⟨b, 0, none⟩ = some v := by rw [Lib.cell_of_heap h1]; rfl
  rw [hc] at e
  cases e
  rcases h2.2 with ⟨hv, _⟩ | ⟨g, cap, cur, hv, _⟩
  · cases hv; exact .inl rfl
  · cases hv; exact .inr ⟨g, rfl⟩
theorem TabAt.open' (h : TabAt w base b es X) : ∃ ao ca, X.cell? ⟨b, 0, none⟩ = some (.slice ao es.length ca) ∧ X.cell? ⟨b, 1, none⟩ = some (.string (str (filt (keysE es)))) ∧ (ao = none → ca = 0) ∧ es.length ≤ ca ∧ ElemsAt enShape X ao es := by
  obtain ⟨v, h1, h2⟩ := h.row
  obtain ⟨ao, ca, rfl, hn, _, hc, hel⟩ := own_rows (F := enShape) (show X.ownsRow _ _ enShape.sz _ _ _ from h2)
  exact ⟨ao, ca, by rw [Lib.cell_of_heap h1]; rfl, by rw [Lib.cell_of_heap h1]; rfl, hn, hc, hel⟩
end
set_option maxRecDepth 100000 in
theorem tLen_any (b : Nat) (es : List En) (w v : World) (base : Nat) (h : TabAt v base b es w) :
    Calls Tryz.prog 12 #[.pointer (some ⟨b, 0, none⟩)] w fun e w' => e = .returned (.int .i64 (es.length : Nat)) ∧ w' = w := by
  obtain ⟨ao, ca, c0, _⟩ := h.open'
  clear h
  go_enter Tryz.func12, Tryz.ntmps12
  go_wp2
  go_ret
  exact ⟨rfl, rfl⟩
set_option maxRecDepth 100000 in
theorem tBlocks_any (b : Nat) (es : List En) (w v : World) (base : Nat) (h : TabAt v base b es w) (hl : es.length ≤ 100000000000) :
    Calls Tryz.prog 13 #[.pointer (some ⟨b, 0, none⟩)] w fun e w' => e = .returned (.int .i64 (nch es : Nat)) ∧ w' = w := by
  obtain ⟨ao, ca, c0, _⟩ := h.open'
  clear h
  have HN : Hid (((es.length : Int) + 8 - 1) / 8 = ((nch es : Nat) : Int)) := by show _ = _; unfold nch; omega
  go_enter Tryz.func13, Tryz.ntmps13
  go_wp2
  go_ret
  exact ⟨by rw [← HN.out]; rfl, rfl⟩
set_option maxRecDepth 100000 in
theorem place_any (b : Nat) (es : List En) (K : ByteArray) (s : Int) (w v : World) (base : Nat) (h : TabAt v base b es w) (hs : Sorted es) (hl : es.length ≤ 100000000000) :
    Calls Tryz.prog 33 #[.pointer (some ⟨b, 0, none⟩), .string K, .int .i64 s] w fun e w' => e = .returned (.int .i64 ((pre es K s).length : Nat)) ∧ Below w.heap.size w w' := by
  obtain ⟨ao, ca, c0, _, _, _, hel⟩ := h.open'
  have HS : Hid _ := search_any ao ca es K s w hel hs hl
  clear h hel hs
  unfold env at HS
  go_enter Tryz.func33, Tryz.ntmps33
  go_wp2_with fail
  refine (show Calls _ _ _ _ _ from HS.out).mono ?_
  rintro e w1 ⟨⟨bb, rfl⟩, hb⟩
  go_wp2
  go_ret
  exact ⟨rfl, hb⟩
def foundT (o : Option En) : Value := .tuple #[env (o.getD En.zero), .bool o.isSome]
theorem post_drop (es : List En) (K : ByteArray) (s : Int) : post es K s = es.drop (pre es K s).length := by
  have h := congrArg (List.drop (pre es K s).length) (pre_post es K s)
  rwa [List.drop_left] at h
theorem get_at {es : List En} (hs : Sorted es) (K : ByteArray) (s : Int) : getE es K s = if h : (pre es K s).length < es.length then (if (es.getD (pre es K s).length En.zero).key = K then some (es.getD (pre es K s).length En.zero) else none) else none := by
  rw [← getP_eq hs]
  unfold getP
  rw [post_drop]
  by_cases h : (pre es K s).length < es.length
  · rw [dif_pos h, List.drop_eq_getElem_cons h, getD_lt _ _ _ h]
  · rw [dif_neg h, List.drop_eq_nil_of_le (by omega)]
set_option maxRecDepth 100000 in
set_option maxHeartbeats 1000000 in
theorem tGet_any (b : Nat) (es : List En) (K : ByteArray) (s : Int) (w v : World) (base : Nat) (h : TabAt v base b es w) (hs : Sorted es) (hB : base ≤ v.heap.size) (hl : es.length ≤ 100000000000) :
    Calls Tryz.prog 11 #[.pointer (some ⟨b, 0, none⟩), .string K, .int .i64 s] w fun e w' => e = .returned (foundT (getE es K s)) ∧ Below w.heap.size w w' := by
  have HG : Hid _ := get_at hs K s
  obtain ⟨W1, hW1⟩ : ∃ W1, W1 = w.alloc zeroObj := ⟨_, rfl⟩
  have hb1 : Below w.heap.size w W1 := by rw [hW1]; exact (Below.refl _ _).alloc (Nat.le_refl _) _
  have hz1 : W1.heap[w.heap.size]? = some zeroObj := by rw [hW1]; exact heap_alloc_new w _
  have hsz1 : W1.heap.size = w.heap.size + 1 := by rw [hW1]; simp
  have HP : Hid _ := place_any b es K s W1 v base (h.later hB hb1) hs hl
  have HPL : Hid ((pre es K s).length ≤ es.length) := by
    have := congrArg List.length (pre_post es K s)
    rw [List.length_append] at this
    show _ ≤ _
    omega
  have HT : Hid (∀ Y, Below W1.heap.size W1 Y → TabAt v base b es Y ∧ Y.heap[w.heap.size]? = some zeroObj ∧ Below w.heap.size w Y) := fun Y hY => ⟨(h.later hB hb1).later hB hY, (hY.block _ (by omega)).trans hz1, hb1.trans (hY.mono (by omega))⟩
  have HW1 : Hid _ := hW1
  clear hs h hb1 hz1 hsz1
  unfold zeroObj at hW1
  go_enter Tryz.func11, Tryz.ntmps11
  go_wp2_with fail
  rw [← hW1]
  refine (show Calls _ _ _ _ _ from HP.out).mono ?_
  rintro e W2 ⟨rfl, hb2⟩
  obtain ⟨ht2, hz2, hB2⟩ := HT.out W2 hb2
  obtain ⟨ao, ca, c0, _, _, _, hel⟩ := ht2.open'
  have HB2 : Hid _ := hB2
  obtain ⟨z0, z1, z2, z3, zf⟩ := ent_cells (e := En.zero) hz2
  have f0 := zf 0
  have f1 := zf 1
  have f2 := zf 2
  have f3 := zf 3
  clear hb2 HP HT hB2 ht2 zf hW1 HW1
  have hPl := HPL.out
  generalize (pre es K s).length = P at *
  by_cases hP : P < es.length
  · have HG' : Hid (getE es K s = if (es.getD P En.zero).key = K then some (es.getD P En.zero) else none) := by
      have := HG.out
      rw [dif_pos hP] at this
      exact this
    obtain ⟨pb, off, rfl, d0, d1, d2, d3⟩ := elem_cells hel hP
    have hne : ((P : Int) == (es.length : Int)) = false := by rw [beq_eq_false_iff_ne]; omega
    have hk0 : (0 : Int) ≤ (P : Int) := by omega
    have hk1 : (P : Int) < (es.length : Int) := by omega
    clear HG hel HPL
    generalize es.getD P En.zero = y at *
    by_cases hkk : y.key = K
    · have hq : (y.key.toList == K.toList) = true := by rw [hkk]; simp
      have HV : Hid _ := HG'.out.trans (if_pos hkk)
      clear HG' hkk
      have hs4 := ent_set (e := En.zero) hz2 y.key y.seq y.dead y.val
      obtain ⟨g0, g1, g2, g3⟩ := hs4
      go_wp2
      refine bodyPost_ret (by simp [results, Tryz.results11, go_sem, g0, g1, g2, g3]; try rfl) rfl ?_
      exact ⟨by rw [HV.out]; rfl, ((((HB2.out.setCell (p := ⟨w.heap.size, 0, none⟩) (Nat.le_refl _) _).setCell (p := ⟨w.heap.size, 1, none⟩) (Nat.le_refl _) _).setCell (p := ⟨w.heap.size, 2, none⟩) (Nat.le_refl _) _).setCell (p := ⟨w.heap.size, 3, none⟩) (Nat.le_refl _) _)⟩
    · have hq : (y.key.toList == K.toList) = false := by
        rw [beq_eq_false_iff_ne]
        intro e
        exact hkk (Mm.toList_inj e)
      have HV : Hid _ := HG'.out.trans (if_neg hkk)
      clear HG' hkk
      have hs4 := ent_set (e := En.zero) hz2 ⟨#[]⟩ 0 false ⟨#[]⟩
      obtain ⟨g0, g1, g2, g3⟩ := hs4
      go_wp2
      refine bodyPost_ret (by simp [results, Tryz.results11, go_sem, g0, g1, g2, g3]; try rfl) rfl ?_
      exact ⟨by rw [HV.out]; rfl, ((((HB2.out.setCell (p := ⟨w.heap.size, 0, none⟩) (Nat.le_refl _) _).setCell (p := ⟨w.heap.size, 1, none⟩) (Nat.le_refl _) _).setCell (p := ⟨w.heap.size, 2, none⟩) (Nat.le_refl _) _).setCell (p := ⟨w.heap.size, 3, none⟩) (Nat.le_refl _) _)⟩
  · obtain rfl : P = es.length := by omega
    have HV : Hid (getE es K s = none) := by
      have := HG.out
      rw [dif_neg hP] at this
      exact this
    have heq : ((es.length : Int) == (es.length : Int)) = true := by simp
    clear HG hel HPL hP
    have hs4 := ent_set (e := En.zero) hz2 ⟨#[]⟩ 0 false ⟨#[]⟩
    obtain ⟨g0, g1, g2, g3⟩ := hs4
    go_wp2
    refine bodyPost_ret (by simp [results, Tryz.results11, go_sem, g0, g1, g2, g3]; try rfl) rfl ?_
    exact ⟨by rw [HV.out]; rfl, ((((HB2.out.setCell (p := ⟨w.heap.size, 0, none⟩) (Nat.le_refl _) _).setCell (p := ⟨w.heap.size, 1, none⟩) (Nat.le_refl _) _).setCell (p := ⟨w.heap.size, 2, none⟩) (Nat.le_refl _) _).setCell (p := ⟨w.heap.size, 3, none⟩) (Nat.le_refl _) _)⟩
/-! ### Lists -/
theorem below_setRow' {w W : World} {cs : Array Value} (hb : Below w.heap.size w W) : Below w.heap.size w (W.setRow w.heap.size cs) :=
  hb.trans ⟨rfl, rfl, rfl, by simp [World.setRow], fun k hk => setRow_other W w.heap.size k cs (by omega)⟩
theorem run_copy4 (w : World) (ty : TypeId) (g n dCap : Nat) (a : Addr) (sCap : Nat) (cur : Array Value) (cs : List Value) (hg : w.heap[g]? = some (.cells cur 25 (0, 0))) (hn : cs.length = n * 4) (hc : cur.size = n * 4)
    (hsrc : ∀ j v, cs[j]? = some v → w.cell? (a.add j) = some v) (h1 : ∀ v ∈ cs, v.oneCell' = true) :
    (Builtin.copy_ #[22, 22] ty #[.slice (some ⟨g, 0, none⟩) n dCap, .slice (some a) n sCap]).run Tryz.prog w = .ok (goInt n) (w.setRow g cs.toArray) := by
  obtain ⟨i0, hi0, _, hz1, _⟩ := info_parts infoEn
  have hl := run_loadCells_list (P := Tryz.prog) w a cs hsrc
  have hst := run_storeCells_at Tryz.prog g 0 25 cs 0 cur w hg (by simp; omega) h1
  rw [hn] at hl
  have e : (cur.toList.take (0 + 0) ++ cs ++ cur.toList.drop (0 + 0 + cs.length)).toArray = cs.toArray := by
    rw [List.drop_eq_nil_of_le (by simp; omega)]
    simp
  rw [e] at hst
  simp [Builtin.copy_, run_underlying Tryz.underlying22, Builtin.lenOf, Builtin.firstCells, sizeOf, typeInfo, hi0, hz1, hl, hst]
theorem run_copy4_nil (w : World) (ty : TypeId) (g dCap : Nat) (ao : Option Addr) (sCap : Nat) :
    (Builtin.copy_ #[22, 22] ty #[.slice (some ⟨g, 0, none⟩) 0 dCap, .slice ao 0 sCap]).run Tryz.prog w = .ok (goInt 0) w := by
  obtain ⟨i0, hi0, _, hz1, _⟩ := info_parts infoEn
  cases ao with
  | none => simp [Builtin.copy_, run_underlying Tryz.underlying22, Builtin.lenOf, Builtin.firstCells, sizeOf, typeInfo, hi0, storeCells]
  | some a =>
    have hl := run_loadCells_list (P := Tryz.prog) w a [] (fun j v h => by simp at h)
    simp only [List.length_nil] at hl
    simp [Builtin.copy_, run_underlying Tryz.underlying22, Builtin.lenOf, Builtin.firstCells, sizeOf, typeInfo, hi0, hl, storeCells]
set_option maxRecDepth 100000 in
set_option maxHeartbeats 1000000 in
theorem copied_any (ao : Option Addr) (ca : Nat) (es : List En) (w : World) (hx : ElemsAt enShape w ao es) (hl : es.length ≤ 10000000000) :
    Calls Tryz.prog 32 #[.slice ao es.length ca] w fun e w' => (∃ v, e = .returned v ∧ w'.ownsRow w.heap.size 25 4 v es.length (enShape.vals es)) ∧ Below w.heap.size w w' := by
  obtain ⟨i0, hi0, hz0, hz1, hz2⟩ := info_parts infoEn
  obtain ⟨Z, hZ⟩ : ∃ Z, Z = madeCells (Value.agg #[.string ⟨#[]⟩, .int .i64 0, .bool false, .string ⟨#[]⟩]).cells (es.length * 4) := ⟨_, rfl⟩
  have hmk : ∀ w : World, (Instr.makeSlice 22 (.int .i64 es.length) (.int .i64 es.length)).run Tryz.prog w = .ok (.slice (some ⟨w.heap.size, 0, none⟩) es.length es.length) (w.alloc (.cells Z 25)) := fun w => by
    have := run_make (P := Tryz.prog) w 22 25 i0 _ Tryz.underlying22 hi0 hz0 .i64 .i64 es.length es.length (by omega) (by omega) (by rw [hz2]; omega) (by omega)
    rw [hz1] at this
    simp only [Int.toNat_natCast] at this
    rw [hZ]
    exact this
  have hZs : Z.size = es.length * 4 := by rw [hZ]; simp [madeCells]
  obtain ⟨W1, hW1⟩ : ∃ W1, W1 = w.alloc (.cells Z 25) := ⟨_, rfl⟩
  have hg1 : W1.heap[w.heap.size]? = some (.cells Z 25 (0, 0)) := by rw [hW1]; exact heap_alloc_new w _
  have hb1 : Below w.heap.size w W1 := by rw [hW1]; exact (Below.refl _ _).alloc (Nat.le_refl _) _
  have hx1 := hx.later hb1
  have hvl := Shape.vals_length enShape es
  have HCP : Hid (∃ W2, (Builtin.copy_ #[22, 22] 3 #[.slice (some ⟨w.heap.size, 0, none⟩) es.length es.length, .slice ao es.length ca]).run Tryz.prog W1 = .ok (goInt es.length) W2 ∧ W2.ownsRow w.heap.size 25 4 (.slice (some ⟨w.heap.size, 0, none⟩) es.length es.length) es.length (enShape.vals es) ∧ Below w.heap.size w W2) := by
    by_cases h0 : es.length = 0
    · have he : es = [] := List.eq_nil_of_length_eq_zero h0
      subst he
      refine ⟨W1, run_copy4_nil W1 _ _ _ _ _, ?_, hb1⟩
      have hZ0 : Z = #[] := Array.eq_empty_of_size_eq_zero (by simpa using hZs)
      subst hZ0
      rw [hW1]
      exact own_emptyT w 25 4 w.heap.size (Nat.le_refl _)
    · rcases hx1 with he | ⟨pb, off, rfl, hpl, hcell⟩
      · rw [he] at h0; simp at h0
      · have hsrc := ElemsAt.vals (F := enShape) (w := W1) (xs := es) (.inr ⟨pb, off, rfl, hpl, hcell⟩) rfl
        refine ⟨W1.setRow w.heap.size (enShape.vals es).toArray, run_copy4 W1 _ _ _ _ _ _ Z (enShape.vals es) hg1 hvl hZs hsrc (Shape.vals_one enShape es), ?_, below_setRow' hb1⟩
        exact ⟨by rw [hvl]; rfl, .inr ⟨w.heap.size, es.length, (enShape.vals es).toArray, rfl, Nat.le_refl _, setRow_heap W1 w.heap.size _ _ _ _ hg1, Nat.le_refl _, by unfold maxLen; omega, by rw [List.size_toArray, hvl]; rfl, by rw [List.take_of_length_le (by simp [hvl]; exact Nat.le_refl _)]⟩⟩
  obtain ⟨W2, hrun, hown, hb2⟩ := HCP.out
  have HO : Hid _ := hown
  have HB : Hid _ := hb2
  clear hx hx1 hb1 hg1 HCP hown hb2 hZ hi0 hz0 hz1 hz2 hvl hZs
  rw [hW1] at hrun
  go_enter Tryz.func32, Tryz.ntmps32
  go_wp2
  go_ret
  exact ⟨⟨_, rfl, HO.out⟩, HB.out⟩
set_option maxRecDepth 100000 in
theorem tAll_any (b : Nat) (es : List En) (w v : World) (base : Nat) (h : TabAt v base b es w) (hl : es.length ≤ 10000000000) :
    Calls Tryz.prog 10 #[.pointer (some ⟨b, 0, none⟩)] w fun e w' => (∃ v, e = .returned v ∧ w'.ownsRow w.heap.size 25 4 v es.length (enShape.vals es)) ∧ Below w.heap.size w w' := by
  obtain ⟨ao, ca, c0, _, _, _, hel⟩ := h.open'
  have HC : Hid _ := copied_any ao ca es w hel hl
  clear h hel
  go_enter Tryz.func10, Tryz.ntmps10
  go_wp2_with fail
  refine (show Calls _ _ _ _ _ from HC.out).mono ?_
  rintro e w1 ⟨⟨v1, rfl, ho⟩, hb⟩
  go_wp2
  go_ret
  exact ⟨⟨_, rfl, ho⟩, hb⟩
end Go.Proofs.YtedjohkdfchocaaGreat.Tb
