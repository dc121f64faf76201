/-
  The texts TableCalls.
-/
import Derived.Test.YtedjohkdfchocaaQTableOpen
import Derived.Test.YtedjohkdfchocaaQTableSearch
import Derived.Laws.CopyRow
import Derived.Laws.MakeOwn
import Derived.Laws.StructEq

/-
  Package table: what an opened table answers.
-/
namespace Go.Proofs.Ytedjohkdfchocaa.Tb
open Go.RowKit Cm Mm Bk
open Fr (str)
set_option linter.unusedVariables false

section
variable {w X Y : World} {base b : Nat} {es : List En}
theorem TabAt.later (h : TabAt w base b es X) (hB : base ≤ w.heap.size) (hb : Below X.heap.size X Y) : TabAt w base b es Y := by
  obtain ⟨v, h1, h2⟩ := h.row
  exact ⟨⟨v, (hb.block _ (lt_of_block h1)).trans h1, rows_keep h2 (fun j hj => hb.block j (h2.lt j hj).2)⟩, h.lo, h.bel.trans (hb.mono (by have := h.bel.size; omega))⟩
theorem TabAt.head (h : TabAt w base b es X) {ao : Option Addr} {n ca : Nat} (hc : X.cell? ⟨b, 0, none⟩ = some (.slice ao n ca)) : ao = none ∨ ∃ g, ao = some ⟨g, 0, none⟩ := by
  obtain ⟨v, h1, h2⟩ := h.row
  have e : X.cell? ⟨b, 0, none⟩ = some v := by rw [Lib.cell_of_heap h1]; rfl
  rw [hc] at e
  cases e
  rcases h2.2 with ⟨hv, _⟩ | ⟨g, cap, cur, hv, _⟩
  · cases hv; exact .inl rfl
  · cases hv; exact .inr ⟨g, rfl⟩
theorem TabAt.open' (h : TabAt w base b es X) : ∃ ao ca, X.cell? ⟨b, 0, none⟩ = some (.slice ao es.length ca) ∧ X.cell? ⟨b, 1, none⟩ = some (.string (str (filt (keysE es)))) ∧ (ao = none → ca = 0) ∧ es.length ≤ ca ∧ ElemsAt enShape X ao es := by
  obtain ⟨v, h1, h2⟩ := h.row
  obtain ⟨ao, ca, rfl, hn, _, hc, hel⟩ := own_rows (F := enShape) (show X.ownsRow _ _ enShape.sz _ _ _ from h2)
  exact ⟨ao, ca, by rw [Lib.cell_of_heap h1]; rfl, by rw [Lib.cell_of_heap h1]; rfl, hn, hc, hel⟩
end
set_option maxRecDepth 100000 in
theorem tLen_any (b : Nat) (es : List En) (w v : World) (base : Nat) (h : TabAt v base b es w) :
    Calls Try.prog 12 #[.pointer (some ⟨b, 0, none⟩)] w fun e w' => e = .returned (.int .i64 (es.length : Nat)) ∧ w' = w := by
  obtain ⟨ao, ca, c0, _⟩ := h.open'
  clear h
  go_enter Try.func12, Try.ntmps12
  go_wp2
  go_ret
  exact ⟨rfl, rfl⟩
set_option maxRecDepth 100000 in
theorem tBlocks_any (b : Nat) (es : List En) (w v : World) (base : Nat) (h : TabAt v base b es w) (hl : es.length ≤ 100000000000) :
    Calls Try.prog 21 #[.pointer (some ⟨b, 0, none⟩)] w fun e w' => e = .returned (.int .i64 (nch es : Nat)) ∧ w' = w := by
  obtain ⟨ao, ca, c0, _⟩ := h.open'
  clear h
  have HN : Hid (((es.length : Int) + 8 - 1) / 8 = ((nch es : Nat) : Int)) := by show _ = _; unfold nch; omega
  go_enter Try.func21, Try.ntmps21
  go_wp2
  go_ret
  exact ⟨by rw [← HN.out]; rfl, rfl⟩
def firstV (es : List En) : Value := .tuple #[.string (es.getD 0 En.zero).key, .bool (decide (0 < es.length))]
def lastV (es : List En) : Value := .tuple #[.string (es.getD (es.length - 1) En.zero).key, .bool (decide (0 < es.length))]
set_option maxRecDepth 100000 in
theorem tFirst_any (b : Nat) (es : List En) (w v : World) (base : Nat) (h : TabAt v base b es w) (hl : es.length ≤ 100000000000) :
    Calls Try.prog 28 #[.pointer (some ⟨b, 0, none⟩)] w fun e w' => e = .returned (firstV es) ∧ w' = w := by
  obtain ⟨ao, ca, c0, _, _, _, hel⟩ := h.open'
  clear h
  by_cases h0 : es.length = 0
  · have he : es = [] := List.eq_nil_of_length_eq_zero h0
    subst he
    go_enter Try.func28, Try.ntmps28
    go_wp2
    go_ret2
    exact ⟨rfl, rfl⟩
  · obtain ⟨pb, off, rfl, d0, _⟩ := elem_cells hel (k := 0) (by omega)
    rw [Nat.zero_mul, Nat.add_zero] at d0
    have HV : Hid (firstV es = .tuple #[.string (es.getD 0 En.zero).key, .bool true]) := by show _ = _; unfold firstV; rw [decide_eq_true (by omega)]
    have hl0 : (0 : Int) < (es.length : Int) := by omega
    have hz : ((es.length : Int) == 0) = false := by rw [beq_eq_false_iff_ne]; omega
    clear hel
    generalize es.getD 0 En.zero = y at *
    go_enter Try.func28, Try.ntmps28
    go_wp2
    go_ret2
    exact ⟨by rw [HV.out]; rfl, rfl⟩
set_option maxRecDepth 100000 in
theorem tLast_any (b : Nat) (es : List En) (w v : World) (base : Nat) (h : TabAt v base b es w) (hl : es.length ≤ 100000000000) :
    Calls Try.prog 29 #[.pointer (some ⟨b, 0, none⟩)] w fun e w' => e = .returned (lastV es) ∧ ∃ n, w' = w.drewN n := by
  obtain ⟨ao, ca, c0, _, _, _, hel⟩ := h.open'
  clear h
  by_cases h0 : es.length = 0
  · have he : es = [] := List.eq_nil_of_length_eq_zero h0
    subst he
    go_enter Try.func29, Try.ntmps29
    go_wp2
    go_ret2
    exact ⟨rfl, 0, rfl⟩
  · obtain ⟨k, hk⟩ : ∃ k, k + 1 = es.length := ⟨es.length - 1, by omega⟩
    obtain ⟨pb, off, rfl, d0, _⟩ := elem_cells hel (k := k) (by omega)
    have hk' : es.length - 1 = k := by omega
    have HV : Hid (lastV es = .tuple #[.string (es.getD k En.zero).key, .bool true]) := by show _ = _; unfold lastV; rw [decide_eq_true (by omega), hk']
    have hwk : IntKind.i64.wrap ((es.length : Int) - 1) = (k : Int) := wrap_nat (by omega) (by omega)
    have hl0 : (0 : Int) ≤ (k : Int) := by omega
    have hl1 : (k : Int) < (es.length : Int) := by omega
    have hz : ((es.length : Int) == 0) = false := by rw [beq_eq_false_iff_ne]; omega
    clear hel hk' hk
    generalize es.getD k En.zero = y at *
    go_enter Try.func29, Try.ntmps29
    go_wp2_with fail
    go_quiet (fail)
    go_wp2
    go_ret2
    exact ⟨by rw [HV.out]; rfl, _, rfl⟩
set_option maxRecDepth 100000 in
theorem tMay_any (b : Nat) (es : List En) (K : ByteArray) (w v : World) (base : Nat) (h : TabAt v base b es w) (hl : es.length ≤ 1000000000) (hK : K.size ≤ 9223372036854775807) :
    Calls Try.prog 24 #[.pointer (some ⟨b, 0, none⟩), .string K] w fun e w' => e = .returned (.bool (Bl.may (filt (keysE es)) K)) ∧ Below w.heap.size w w' := by
  obtain ⟨ao, ca, _, c1, _⟩ := h.open'
  have HM : Hid _ := Bl.may_any (str (filt (keysE es))) K hK (by
    rw [Fr.str_size, filt_len]
    have := ks_len es es.length
    unfold keysE Bl.len
    omega) w
  clear h
  rw [Fr.str_data] at HM
  generalize str (filt (keysE es)) = F at *
  go_enter Try.func24, Try.ntmps24
  go_wp2_with fail
  refine (show Calls _ _ _ _ _ from HM.out).mono ?_
  rintro e w1 ⟨rfl, hb⟩
  go_wp2
  go_ret
  exact ⟨rfl, hb⟩
set_option maxRecDepth 100000 in
theorem place_any (b : Nat) (es : List En) (K : ByteArray) (s : Int) (w v : World) (base : Nat) (h : TabAt v base b es w) (hs : Sorted es) (hl : es.length ≤ 100000000000) :
    Calls Try.prog 43 #[.pointer (some ⟨b, 0, none⟩), .string K, .int .i64 s] w fun e w' => e = .returned (.int .i64 ((pre es K s).length : Nat)) ∧ Below w.heap.size w w' := by
  obtain ⟨ao, ca, c0, _, _, _, hel⟩ := h.open'
  have HS : Hid _ := search_any ao ca es K s w hel hs hl
  clear h hel hs
  unfold env at HS
  go_enter Try.func43, Try.ntmps43
  go_wp2_with fail
  refine (show Calls _ _ _ _ _ from HS.out).mono ?_
  rintro e w1 ⟨⟨bb, rfl⟩, hb⟩
  go_wp2
  go_ret
  exact ⟨rfl, hb⟩
def foundT (o : Option En) : Value := .tuple #[env (o.getD En.zero), .bool o.isSome]
theorem post_drop (es : List En) (K : ByteArray) (s : Int) : post es K s = es.drop (pre es K s).length := by
  have h := congrArg (List.drop (pre es K s).length) (pre_post es K s)
  rwa [List.drop_left] at h
theorem get_at {es : List En} (hs : Sorted es) (K : ByteArray) (s : Int) : getE es K s = if h : (pre es K s).length < es.length then (if (es.getD (pre es K s).length En.zero).key = K then some (es.getD (pre es K s).length En.zero) else none) else none := by
  rw [← getP_eq hs]
  unfold getP
  rw [post_drop]
  by_cases h : (pre es K s).length < es.length
  · rw [dif_pos h, List.drop_eq_getElem_cons h, getD_lt _ _ _ h]
  · rw [dif_neg h, List.drop_eq_nil_of_le (by omega)]
set_option maxRecDepth 100000 in
set_option maxHeartbeats 1000000 in
theorem tGet_any (b : Nat) (es : List En) (K : ByteArray) (s : Int) (w v : World) (base : Nat) (h : TabAt v base b es w) (hs : Sorted es) (hB : base ≤ v.heap.size) (hl : es.length ≤ 100000000000) :
    Calls Try.prog 16 #[.pointer (some ⟨b, 0, none⟩), .string K, .int .i64 s] w fun e w' => e = .returned (foundT (getE es K s)) ∧ Below w.heap.size w w' := by
  have HG : Hid _ := get_at hs K s
  obtain ⟨W1, hW1⟩ : ∃ W1, W1 = w.alloc zeroObj := ⟨_, rfl⟩
  have hb1 : Below w.heap.size w W1 := by rw [hW1]; exact (Below.refl _ _).alloc (Nat.le_refl _) _
  have hz1 : W1.heap[w.heap.size]? = some zeroObj := by rw [hW1]; exact heap_alloc_new w _
  have hsz1 : W1.heap.size = w.heap.size + 1 := by rw [hW1]; simp
  have HP : Hid _ := place_any b es K s W1 v base (h.later hB hb1) hs hl
  have HPL : Hid ((pre es K s).length ≤ es.length) := by
    have := congrArg List.length (pre_post es K s)
    rw [List.length_append] at this
    show _ ≤ _
    omega
  have HT : Hid (∀ Y, Below W1.heap.size W1 Y → TabAt v base b es Y ∧ Y.heap[w.heap.size]? = some zeroObj ∧ Below w.heap.size w Y) := fun Y hY => ⟨(h.later hB hb1).later hB hY, (hY.block _ (by omega)).trans hz1, hb1.trans (hY.mono (by omega))⟩
  have HW1 : Hid _ := hW1
  clear hs h hb1 hz1 hsz1
  unfold zeroObj at hW1
  go_enter Try.func16, Try.ntmps16
  go_wp2_with fail
  rw [← hW1]
  refine (show Calls _ _ _ _ _ from HP.out).mono ?_
  rintro e W2 ⟨rfl, hb2⟩
  obtain ⟨ht2, hz2, hB2⟩ := HT.out W2 hb2
  obtain ⟨ao, ca, c0, _, _, _, hel⟩ := ht2.open'
  have HB2 : Hid _ := hB2
  obtain ⟨z0, z1, z2, z3, zf⟩ := ent_cells (e := En.zero) hz2
  have f0 := zf 0
  have f1 := zf 1
  have f2 := zf 2
  have f3 := zf 3
  clear hb2 HP HT hB2 ht2 zf hW1 HW1
  have hPl := HPL.out
  generalize (pre es K s).length = P at *
  by_cases hP : P < es.length
  · have HG' : Hid (getE es K s = if (es.getD P En.zero).key = K then some (es.getD P En.zero) else none) := by
      have := HG.out
      rw [dif_pos hP] at this
      exact this
    obtain ⟨pb, off, rfl, d0, d1, d2, d3⟩ := elem_cells hel hP
    have hne : ((P : Int) == (es.length : Int)) = false := by rw [beq_eq_false_iff_ne]; omega
    have hk0 : (0 : Int) ≤ (P : Int) := by omega
    have hk1 : (P : Int) < (es.length : Int) := by omega
    clear HG hel HPL
    generalize es.getD P En.zero = y at *
    by_cases hkk : y.key = K
    · have hq : (y.key.toList == K.toList) = true := by rw [hkk]; simp
      have HV : Hid _ := HG'.out.trans (if_pos hkk)
      clear HG' hkk
      have hs4 := ent_set (e := En.zero) hz2 y.key y.seq y.dead y.val
      obtain ⟨g0, g1, g2, g3⟩ := hs4
      go_wp2
      refine bodyPost_ret (by simp [results, Try.results16, go_sem, g0, g1, g2, g3]; try rfl) rfl ?_
      exact ⟨by rw [HV.out]; rfl, ((((HB2.out.setCell (p := ⟨w.heap.size, 0, none⟩) (Nat.le_refl _) _).setCell (p := ⟨w.heap.size, 1, none⟩) (Nat.le_refl _) _).setCell (p := ⟨w.heap.size, 2, none⟩) (Nat.le_refl _) _).setCell (p := ⟨w.heap.size, 3, none⟩) (Nat.le_refl _) _)⟩
    · have hq : (y.key.toList == K.toList) = false := by
        rw [beq_eq_false_iff_ne]
        intro e
        exact hkk (Mm.toList_inj e)
      have HV : Hid _ := HG'.out.trans (if_neg hkk)
      clear HG' hkk
      have hs4 := ent_set (e := En.zero) hz2 ⟨#[]⟩ 0 false ⟨#[]⟩
      obtain ⟨g0, g1, g2, g3⟩ := hs4
      go_wp2
      refine bodyPost_ret (by simp [results, Try.results16, go_sem, g0, g1, g2, g3]; try rfl) rfl ?_
      exact ⟨by rw [HV.out]; rfl, ((((HB2.out.setCell (p := ⟨w.heap.size, 0, none⟩) (Nat.le_refl _) _).setCell (p := ⟨w.heap.size, 1, none⟩) (Nat.le_refl _) _).setCell (p := ⟨w.heap.size, 2, none⟩) (Nat.le_refl _) _).setCell (p := ⟨w.heap.size, 3, none⟩) (Nat.le_refl _) _)⟩
  · obtain rfl : P = es.length := by omega
    have HV : Hid (getE es K s = none) := by
      have := HG.out
      rw [dif_neg hP] at this
      exact this
    have heq : ((es.length : Int) == (es.length : Int)) = true := by simp
    clear HG hel HPL hP
    have hs4 := ent_set (e := En.zero) hz2 ⟨#[]⟩ 0 false ⟨#[]⟩
    obtain ⟨g0, g1, g2, g3⟩ := hs4
    go_wp2
    refine bodyPost_ret (by simp [results, Try.results16, go_sem, g0, g1, g2, g3]; try rfl) rfl ?_
    exact ⟨by rw [HV.out]; rfl, ((((HB2.out.setCell (p := ⟨w.heap.size, 0, none⟩) (Nat.le_refl _) _).setCell (p := ⟨w.heap.size, 1, none⟩) (Nat.le_refl _) _).setCell (p := ⟨w.heap.size, 2, none⟩) (Nat.le_refl _) _).setCell (p := ⟨w.heap.size, 3, none⟩) (Nat.le_refl _) _)⟩
/-! ### Lists -/
theorem below_setRow' {w W : World} {cs : Array Value} (hb : Below w.heap.size w W) : Below w.heap.size w (W.setRow w.heap.size cs) :=
  hb.trans ⟨rfl, rfl, rfl, by simp [World.setRow], fun k hk => setRow_other W w.heap.size k cs (by omega)⟩
theorem run_copy4 (w : World) (ty : TypeId) (g n dCap : Nat) (a : Addr) (sCap : Nat) (cur : Array Value) (cs : List Value) (hg : w.heap[g]? = some (.cells cur 44 (0, 0))) (hn : cs.length = n * 4) (hc : cur.size = n * 4)
    (hsrc : ∀ j v, cs[j]? = some v → w.cell? (a.add j) = some v) (h1 : ∀ v ∈ cs, v.oneCell' = true) :
    (Builtin.copy_ #[23, 23] ty #[.slice (some ⟨g, 0, none⟩) n dCap, .slice (some a) n sCap]).run Try.prog w = .ok (goInt n) (w.setRow g cs.toArray) := by
  obtain ⟨i0, hi0, _, hz1, _⟩ := info_parts infoEn
  have hl := run_loadCells_list (P := Try.prog) w a cs hsrc
  have hst := run_storeCells_at Try.prog g 0 44 cs 0 cur w hg (by simp; omega) h1
  rw [hn] at hl
  have e : (cur.toList.take (0 + 0) ++ cs ++ cur.toList.drop (0 + 0 + cs.length)).toArray = cs.toArray := by
    rw [List.drop_eq_nil_of_le (by simp; omega)]
    simp
  rw [e] at hst
  simp [Builtin.copy_, run_underlying Try.underlying23, Builtin.lenOf, Builtin.firstCells, sizeOf, typeInfo, hi0, hz1, hl, hst]
theorem run_copy4_nil (w : World) (ty : TypeId) (g dCap : Nat) (ao : Option Addr) (sCap : Nat) :
    (Builtin.copy_ #[23, 23] ty #[.slice (some ⟨g, 0, none⟩) 0 dCap, .slice ao 0 sCap]).run Try.prog w = .ok (goInt 0) w := by
  obtain ⟨i0, hi0, _, hz1, _⟩ := info_parts infoEn
  cases ao with
  | none => simp [Builtin.copy_, run_underlying Try.underlying23, Builtin.lenOf, Builtin.firstCells, sizeOf, typeInfo, hi0, storeCells]
  | some a =>
    have hl := run_loadCells_list (P := Try.prog) w a [] (fun j v h => by simp at h)
    simp only [List.length_nil] at hl
    simp [Builtin.copy_, run_underlying Try.underlying23, Builtin.lenOf, Builtin.firstCells, sizeOf, typeInfo, hi0, hl, storeCells]
set_option maxRecDepth 100000 in
set_option maxHeartbeats 1000000 in
theorem copied_any (ao : Option Addr) (ca : Nat) (es : List En) (w : World) (hx : ElemsAt enShape w ao es) (hl : es.length ≤ 10000000000) :
    Calls Try.prog 42 #[.slice ao es.length ca] w fun e w' => (∃ v, e = .returned v ∧ w'.ownsRow w.heap.size 44 4 v es.length (enShape.vals es)) ∧ Below w.heap.size w w' := by
  obtain ⟨i0, hi0, hz0, hz1, hz2⟩ := info_parts infoEn
  obtain ⟨Z, hZ⟩ : ∃ Z, Z = madeCells (Value.agg #[.string ⟨#[]⟩, .int .i64 0, .bool false, .string ⟨#[]⟩]).cells (es.length * 4) := ⟨_, rfl⟩
  have hmk : ∀ w : World, (Instr.makeSlice 23 (.int .i64 es.length) (.int .i64 es.length)).run Try.prog w = .ok (.slice (some ⟨w.heap.size, 0, none⟩) es.length es.length) (w.alloc (.cells Z 44)) := fun w => by
    have := run_make (P := Try.prog) w 23 44 i0 _ Try.underlying23 hi0 hz0 .i64 .i64 es.length es.length (by omega) (by omega) (by rw [hz2]; omega) (by omega)
    rw [hz1] at this
    simp only [Int.toNat_natCast] at this
    rw [hZ]
    exact this
  have hZs : Z.size = es.length * 4 := by rw [hZ]; simp [madeCells]
  obtain ⟨W1, hW1⟩ : ∃ W1, W1 = w.alloc (.cells Z 44) := ⟨_, rfl⟩
  have hg1 : W1.heap[w.heap.size]? = some (.cells Z 44 (0, 0)) := by rw [hW1]; exact heap_alloc_new w _
  have hb1 : Below w.heap.size w W1 := by rw [hW1]; exact (Below.refl _ _).alloc (Nat.le_refl _) _
  have hx1 := hx.later hb1
  have hvl := Shape.vals_length enShape es
  have HCP : Hid (∃ W2, (Builtin.copy_ #[23, 23] 3 #[.slice (some ⟨w.heap.size, 0, none⟩) es.length es.length, .slice ao es.length ca]).run Try.prog W1 = .ok (goInt es.length) W2 ∧ W2.ownsRow w.heap.size 44 4 (.slice (some ⟨w.heap.size, 0, none⟩) es.length es.length) es.length (enShape.vals es) ∧ Below w.heap.size w W2) := by
    by_cases h0 : es.length = 0
    · have he : es = [] := List.eq_nil_of_length_eq_zero h0
      subst he
      refine ⟨W1, run_copy4_nil W1 _ _ _ _ _, ?_, hb1⟩
      have hZ0 : Z = #[] := Array.eq_empty_of_size_eq_zero (by simpa using hZs)
      subst hZ0
      rw [hW1]
      exact own_emptyT w 44 4 w.heap.size (Nat.le_refl _)
    · rcases hx1 with he | ⟨pb, off, rfl, hpl, hcell⟩
      · rw [he] at h0; simp at h0
      · have hsrc := ElemsAt.vals (F := enShape) (w := W1) (xs := es) (.inr ⟨pb, off, rfl, hpl, hcell⟩) rfl
        refine ⟨W1.setRow w.heap.size (enShape.vals es).toArray, run_copy4 W1 _ _ _ _ _ _ Z (enShape.vals es) hg1 hvl hZs hsrc (Shape.vals_one enShape es), ?_, below_setRow' hb1⟩
        exact ⟨by rw [hvl]; rfl, .inr ⟨w.heap.size, es.length, (enShape.vals es).toArray, rfl, Nat.le_refl _, setRow_heap W1 w.heap.size _ _ _ _ hg1, Nat.le_refl _, by unfold maxLen; omega, by rw [List.size_toArray, hvl]; rfl, by rw [List.take_of_length_le (by simp [hvl]; exact Nat.le_refl _)]⟩⟩
  obtain ⟨W2, hrun, hown, hb2⟩ := HCP.out
  have HO : Hid _ := hown
  have HB : Hid _ := hb2
  clear hx hx1 hb1 hg1 HCP hown hb2 hZ hi0 hz0 hz1 hz2 hvl hZs
  rw [hW1] at hrun
  go_enter Try.func42, Try.ntmps42
  go_wp2
  go_ret
  exact ⟨⟨_, rfl, HO.out⟩, HB.out⟩
set_option maxRecDepth 100000 in
theorem tAll_any (b : Nat) (es : List En) (w v : World) (base : Nat) (h : TabAt v base b es w) (hl : es.length ≤ 10000000000) :
    Calls Try.prog 15 #[.pointer (some ⟨b, 0, none⟩)] w fun e w' => (∃ v, e = .returned v ∧ w'.ownsRow w.heap.size 44 4 v es.length (enShape.vals es)) ∧ Below w.heap.size w w' := by
  obtain ⟨ao, ca, c0, _, _, _, hel⟩ := h.open'
  have HC : Hid _ := copied_any ao ca es w hel hl
  clear h hel
  go_enter Try.func15, Try.ntmps15
  go_wp2_with fail
  refine (show Calls _ _ _ _ _ from HC.out).mono ?_
  rintro e w1 ⟨⟨v1, rfl, ho⟩, hb⟩
  go_wp2
  go_ret
  exact ⟨⟨_, rfl, ho⟩, hb⟩
set_option maxRecDepth 100000 in
set_option maxHeartbeats 1000000 in
theorem tFrom_any (b : Nat) (es : List En) (K : ByteArray) (w v : World) (base : Nat) (h : TabAt v base b es w) (hs : Sorted es) (hok : AllOk es) (hB : base ≤ v.heap.size) (hl : es.length ≤ 10000000000) :
    Calls Try.prog 18 #[.pointer (some ⟨b, 0, none⟩), .string K] w fun e w' => (∃ v, e = .returned v ∧ w'.ownsRow w.heap.size 44 4 v (fromE es K).length (enShape.vals (fromE es K))) ∧ Below w.heap.size w w' := by
  obtain ⟨P, hP⟩ : ∃ P, P = (pre es K 9223372036854775807).length := ⟨_, rfl⟩
  have HF : Hid (fromE es K = es.drop P) := by show _ = _; rw [hP, ← post_drop, post_max hok]
  have hPl : P ≤ es.length := by
    rw [hP]
    have := congrArg List.length (pre_post es K 9223372036854775807)
    rw [List.length_append] at this
    omega
  obtain ⟨ao, ca, c0, _, hnil, hca, hel⟩ := h.open'
  have HPL : Hid (∀ X, Below w.heap.size w X → Calls Try.prog 43 #[.pointer (some ⟨b, 0, none⟩), .string K, .int .i64 9223372036854775807] X fun e w' => e = .returned (.int .i64 (P : Nat)) ∧ Below X.heap.size X w') := fun X hX => by
    rw [hP]
    exact place_any b es K 9223372036854775807 X v base (h.later hB hX) hs (by omega)
  have HPD : Hid _ := HPL.out w.drew (Below.refl _ w).drew
  have HX : Hid (∀ X, Below w.heap.size w X → ElemsAt enShape X ao es) := fun X hX => hel.later hX
  have HC0 : Hid (∀ X, Below w.heap.size w X → X.cell? ⟨b, 0, none⟩ = some (.slice ao es.length ca)) := fun X hX => cell_later hX c0
  have hk0 : (0 : Int) ≤ (P : Int) := by omega
  have hk1 : (P : Int) ≤ (es.length : Int) := by omega
  have hk2 : (P : Int) ≤ (ca : Int) := by omega
  have HLD : Hid ((es.drop P).length = es.length - P) := by show _ = _; rw [List.length_drop]
  have HDR : Hid (∀ X, Below w.heap.size w X → ∀ a2 c2, (0 < es.length - P → ∃ bb oo, ao = some ⟨bb, oo, none⟩ ∧ a2 = some (⟨bb, oo + P * 4, none⟩ : Addr)) → Calls Try.prog 42 #[.slice a2 (es.length - P) c2] X fun e w' => (∃ v, e = .returned v ∧ w'.ownsRow X.heap.size 44 4 v (fromE es K).length (enShape.vals (fromE es K))) ∧ Below X.heap.size X w') := fun X hX a2 c2 ha => by
    rw [HF.out]
    rw [← HLD.out]
    refine copied_any a2 c2 (es.drop P) X ?_ (by rw [List.length_drop]; omega)
    by_cases h0 : 0 < es.length - P
    · obtain ⟨bb, oo, e1, rfl⟩ := ha h0
      have := HX.out X hX
      rw [e1] at this
      exact elems_drop this P
    · exact .inl (List.eq_nil_of_length_eq_zero (by rw [List.length_drop]; omega))
  have hhd := h.head c0
  clear h hs hok hel hP HF HLD HPL
  have c1 : w.drew.cell? ⟨b, 0, none⟩ = some (.slice ao es.length ca) := c0
  rcases hhd with rfl | ⟨g, rfl⟩
  · have hca0 := hnil rfl
    subst hca0
    have hl0 : es.length = 0 := by omega
    obtain rfl : P = 0 := by omega
    have HCO : Hid (∀ X, Below w.heap.size w X → Calls Try.prog 42 #[.slice none 0 0] X fun e w' => (∃ v, e = .returned v ∧ w'.ownsRow X.heap.size 44 4 v (fromE es K).length (enShape.vals (fromE es K))) ∧ Below X.heap.size X w') := fun X hX => by
      have := HDR.out X hX none 0 (fun h => by omega)
      rwa [hl0] at this
    rw [hl0] at c1 c0 HC0
    clear HDR HX hnil hk1 hk2 hPl hca
    go_enter Try.func18, Try.ntmps18
    go_wp2_with fail
    go_region_held3 (fun w' => w'.cell? ⟨b, 0, none⟩ = some (.slice none 0 0)) (first | exact c1 | exact d1 | exact d2)
      ((first
        | (go_at_call 43; refine (show Calls _ _ _ _ _ from HPD.out).mono ?_; rintro e w1 ⟨rfl, hb1⟩; have hB1 : Below w.heap.size w w1 := (Below.refl _ w).drew.trans hb1; have d1 := HC0.out w1 hB1)
        | (go_at_call 42; refine (show Calls _ _ _ _ _ from HCO.out w1 hB1).mono ?_; rintro e w2 ⟨⟨v2, rfl, ho2⟩, hb2⟩; have hB2 : Below w.heap.size w w2 := hB1.trans (hb2.mono hB1.size); have d2 := HC0.out w2 hB2)))
    go_wp2
    go_ret
    exact ⟨⟨_, rfl, ⟨ho2.1, ho2.2.imp id (fun ⟨g, cap, cur, a, b, c⟩ => ⟨g, cap, cur, a, Nat.le_trans hB1.size b, c⟩)⟩⟩, hB2⟩
  · by_cases hcp : ca = P
    · subst hcp
      have hl0 : es.length = ca := by omega
      have HCO : Hid (∀ X, Below w.heap.size w X → Calls Try.prog 42 #[.slice (some ⟨g, 0, none⟩) 0 0] X fun e w' => (∃ v, e = .returned v ∧ w'.ownsRow X.heap.size 44 4 v (fromE es K).length (enShape.vals (fromE es K))) ∧ Below X.heap.size X w') := fun X hX => by
        have := HDR.out X hX (some ⟨g, 0, none⟩) 0 (fun h => by omega)
        rwa [hl0, Nat.sub_self] at this
      rw [hl0] at c1 c0 HC0
      clear HDR HX hnil hk1 hk2 hPl hca
      go_enter Try.func18, Try.ntmps18
      go_wp2_with fail
      go_region_held3 (fun w' => w'.cell? ⟨b, 0, none⟩ = some (.slice (some ⟨g, 0, none⟩) ca ca)) (first | exact c1 | exact d1 | exact d2)
        ((first
          | (go_at_call 43; refine (show Calls _ _ _ _ _ from HPD.out).mono ?_; rintro e w1 ⟨rfl, hb1⟩; have hB1 : Below w.heap.size w w1 := (Below.refl _ w).drew.trans hb1; have d1 := HC0.out w1 hB1)
          | (go_at_call 42; refine (show Calls _ _ _ _ _ from HCO.out w1 hB1).mono ?_; rintro e w2 ⟨⟨v2, rfl, ho2⟩, hb2⟩; have hB2 : Below w.heap.size w w2 := hB1.trans (hb2.mono hB1.size); have d2 := HC0.out w2 hB2)))
      go_wp2
      go_ret
      exact ⟨⟨_, rfl, ⟨ho2.1, ho2.2.imp id (fun ⟨g, cap, cur, a, b, c⟩ => ⟨g, cap, cur, a, Nat.le_trans hB1.size b, c⟩)⟩⟩, hB2⟩
    · have HCO : Hid (∀ X, Below w.heap.size w X → Calls Try.prog 42 #[.slice (some ⟨g, P * 4, none⟩) (es.length - P) (ca - P)] X fun e w' => (∃ v, e = .returned v ∧ w'.ownsRow X.heap.size 44 4 v (fromE es K).length (enShape.vals (fromE es K))) ∧ Below X.heap.size X w') := fun X hX => HDR.out X hX _ _ (fun _ => ⟨g, 0, rfl, by rw [Nat.zero_add]⟩)
      clear HDR HX hnil
      go_enter Try.func18, Try.ntmps18
      go_wp2_with fail
      go_region_held3 (fun w' => w'.cell? ⟨b, 0, none⟩ = some (.slice (some ⟨g, 0, none⟩) es.length ca)) (first | exact c1 | exact d1 | exact d2)
        ((first
          | (go_at_call 43; refine (show Calls _ _ _ _ _ from HPD.out).mono ?_; rintro e w1 ⟨rfl, hb1⟩; have hB1 : Below w.heap.size w w1 := (Below.refl _ w).drew.trans hb1; have d1 := HC0.out w1 hB1)
          | (go_at_call 42; refine (show Calls _ _ _ _ _ from HCO.out w1 hB1).mono ?_; rintro e w2 ⟨⟨v2, rfl, ho2⟩, hb2⟩; have hB2 : Below w.heap.size w w2 := hB1.trans (hb2.mono hB1.size); have d2 := HC0.out w2 hB2)))
      go_wp2
      go_ret
      exact ⟨⟨_, rfl, ⟨ho2.1, ho2.2.imp id (fun ⟨g, cap, cur, a, b, c⟩ => ⟨g, cap, cur, a, Nat.le_trans hB1.size b, c⟩)⟩⟩, hB2⟩
end Go.Proofs.Ytedjohkdfchocaa.Tb
