/-
  The texts TableCalls, TableLives, TableWholeWalk, CmOpen, MemOpen, joined.
-/
import Derived.Test.YtedjohkdfchocaaPart12
import Derived.Laws.CopyRow
import Derived.Laws.MakeOwn
import Derived.Laws.StructEq
import Derived.Test.YtedjohkdfchocaaRows
import Derived.Deep.Slices
import Derived.Lib.SmallJoins
import Derived.ProofKit
import Derived.OpenShut
import Derived.Deep.Strs

/-
  Package table: what an opened table answers.
-/
namespace Go.Proofs.Ytedjohkdfchocaa.Tb
open Go.RowKit Cm Mm Bk
open Fr (str)
set_option linter.unusedVariables false

section
variable {w X Y : World} {base b : Nat} {es : List En}
theorem TabAt.later (h : TabAt w base b es X) (hB : base ≤ w.heap.size) (hb : Below X.heap.size X Y) : TabAt w base b es Y := by
  obtain ⟨v, h1, h2⟩ := h.row
  exact ⟨⟨v, (hb.block _ (lt_of_block h1)).trans h1, rows_keep h2 (fun j hj => hb.block j (h2.lt j hj).2)⟩, h.lo, h.bel.trans (hb.mono (by have := h.bel.size; omega))⟩
theorem TabAt.head (h : TabAt w base b es X) {ao : Option Addr} {n ca : Nat} (hc : X.cell? ⟨b, 0, none⟩ = some (.slice ao n ca)) : ao = none ∨ ∃ g, ao = some ⟨g, 0, none⟩ := by
  obtain ⟨v, h1, h2⟩ := h.row
  have e : X.cell? ⟨b, 0, none⟩ = some v := by rw [Lib.cell_of_heap h1]; rfl
  rw [hc] at e
  cases e
  rcases h2.2 with ⟨hv, _⟩ | ⟨g, cap, cur, hv, _⟩
  · cases hv; exact .inl rfl
  · cases hv; exact .inr ⟨g, rfl⟩
theorem TabAt.open' (h : TabAt w base b es X) : ∃ ao ca, X.cell? ⟨b, 0, none⟩ = some (.slice ao es.length ca) ∧ X.cell? ⟨b, 1, none⟩ = some (.string (str (filt (keysE es)))) ∧ (ao = none → ca = 0) ∧ es.length ≤ ca ∧ ElemsAt enShape X ao es := by
  obtain ⟨v, h1, h2⟩ := h.row
  obtain ⟨ao, ca, rfl, hn, _, hc, hel⟩ := own_rows (F := enShape) (show X.ownsRow _ _ enShape.sz _ _ _ from h2)
  exact ⟨ao, ca, by rw [Lib.cell_of_heap h1]; rfl, by rw [Lib.cell_of_heap h1]; rfl, hn, hc, hel⟩
end
set_option maxRecDepth 100000 in
theorem tLen_any (b : Nat) (es : List En) (w v : World) (base : Nat) (h : TabAt v base b es w) :
    Calls Try.prog 12 #[.pointer (some ⟨b, 0, none⟩)] w fun e w' => e = .returned (.int .i64 (es.length : Nat)) ∧ w' = w := by
  obtain ⟨ao, ca, c0, _⟩ := h.open'
  clear h
  go_enter Try.func12, Try.ntmps12
  go_wp2
  go_ret
  exact ⟨rfl, rfl⟩
set_option maxRecDepth 100000 in
theorem tBlocks_any (b : Nat) (es : List En) (w v : World) (base : Nat) (h : TabAt v base b es w) (hl : es.length ≤ 100000000000) :
    Calls Try.prog 21 #[.pointer (some ⟨b, 0, none⟩)] w fun e w' => e = .returned (.int .i64 (nch es : Nat)) ∧ w' = w := by
  obtain ⟨ao, ca, c0, _⟩ := h.open'
  clear h
  have HN : Hid (((es.length : Int) + 8 - 1) / 8 = ((nch es : Nat) : Int)) := by show _ = _; unfold nch; omega
  go_enter Try.func21, Try.ntmps21
  go_wp2
  go_ret
  exact ⟨by rw [← HN.out]; rfl, rfl⟩
def firstV (es : List En) : Value := .tuple #[.string (es.getD 0 En.zero).key, .bool (decide (0 < es.length))]
def lastV (es : List En) : Value := .tuple #[.string (es.getD (es.length - 1) En.zero).key, .bool (decide (0 < es.length))]
set_option maxRecDepth 100000 in
theorem tFirst_any (b : Nat) (es : List En) (w v : World) (base : Nat) (h : TabAt v base b es w) (hl : es.length ≤ 100000000000) :
    Calls Try.prog 28 #[.pointer (some ⟨b, 0, none⟩)] w fun e w' => e = .returned (firstV es) ∧ w' = w := by
  obtain ⟨ao, ca, c0, _, _, _, hel⟩ := h.open'
  clear h
  by_cases h0 : es.length = 0
  · have he : es = [] := List.eq_nil_of_length_eq_zero h0
    subst he
    go_enter Try.func28, Try.ntmps28
    go_wp2
    go_ret2
    exact ⟨rfl, rfl⟩
  · obtain ⟨pb, off, rfl, d0, _⟩ := elem_cells hel (k := 0) (by omega)
    rw [Nat.zero_mul, Nat.add_zero] at d0
    have HV : Hid (firstV es = .tuple #[.string (es.getD 0 En.zero).key, .bool true]) := by show _ = _; unfold firstV; rw [decide_eq_true (by omega)]
    have hl0 : (0 : Int) < (es.length : Int) := by omega
    have hz : ((es.length : Int) == 0) = false := by rw [beq_eq_false_iff_ne]; omega
    clear hel
    generalize es.getD 0 En.zero = y at *
    go_enter Try.func28, Try.ntmps28
    go_wp2
    go_ret2
    exact ⟨by rw [HV.out]; rfl, rfl⟩
set_option maxRecDepth 100000 in
theorem tLast_any (b : Nat) (es : List En) (w v : World) (base : Nat) (h : TabAt v base b es w) (hl : es.length ≤ 100000000000) :
    Calls Try.prog 29 #[.pointer (some ⟨b, 0, none⟩)] w fun e w' => e = .returned (lastV es) ∧ ∃ n, w' = w.drewN n := by
  obtain ⟨ao, ca, c0, _, _, _, hel⟩ := h.open'
  clear h
  by_cases h0 : es.length = 0
  · have he : es = [] := List.eq_nil_of_length_eq_zero h0
    subst he
    go_enter Try.func29, Try.ntmps29
    go_wp2
    go_ret2
    exact ⟨rfl, 0, rfl⟩
  · obtain ⟨k, hk⟩ : ∃ k, k + 1 = es.length := ⟨es.length - 1, by omega⟩
    obtain ⟨pb, off, rfl, d0, _⟩ := elem_cells hel (k := k) (by omega)
    have hk' : es.length - 1 = k := by omega
    have HV : Hid (lastV es = .tuple #[.string (es.getD k En.zero).key, .bool true]) := by show _ = _; unfold lastV; rw [decide_eq_true (by omega), hk']
    have hwk : IntKind.i64.wrap ((es.length : Int) - 1) = (k : Int) := wrap_nat (by omega) (by omega)
    have hl0 : (0 : Int) ≤ (k : Int) := by omega
    have hl1 : (k : Int) < (es.length : Int) := by omega
    have hz : ((es.length : Int) == 0) = false := by rw [beq_eq_false_iff_ne]; omega
    clear hel hk' hk
    generalize es.getD k En.zero = y at *
    go_enter Try.func29, Try.ntmps29
    go_wp2_with fail
    go_quiet (fail)
    go_wp2
    go_ret2
    exact ⟨by rw [HV.out]; rfl, _, rfl⟩
set_option maxRecDepth 100000 in
theorem tMay_any (b : Nat) (es : List En) (K : ByteArray) (w v : World) (base : Nat) (h : TabAt v base b es w) (hl : es.length ≤ 1000000000) (hK : K.size ≤ 9223372036854775807) :
    Calls Try.prog 24 #[.pointer (some ⟨b, 0, none⟩), .string K] w fun e w' => e = .returned (.bool (Bl.may (filt (keysE es)) K)) ∧ Below w.heap.size w w' := by
  obtain ⟨ao, ca, _, c1, _⟩ := h.open'
  have HM : Hid _ := Bl.may_any (str (filt (keysE es))) K hK (by
    rw [Fr.str_size, filt_len]
    have := ks_len es es.length
    unfold keysE Bl.len
    omega) w
  clear h
  rw [Fr.str_data] at HM
  generalize str (filt (keysE es)) = F at *
  go_enter Try.func24, Try.ntmps24
  go_wp2_with fail
  refine (show Calls _ _ _ _ _ from HM.out).mono ?_
  rintro e w1 ⟨rfl, hb⟩
  go_wp2
  go_ret
  exact ⟨rfl, hb⟩
set_option maxRecDepth 100000 in
theorem place_any (b : Nat) (es : List En) (K : ByteArray) (s : Int) (w v : World) (base : Nat) (h : TabAt v base b es w) (hs : Sorted es) (hl : es.length ≤ 100000000000) :
    Calls Try.prog 43 #[.pointer (some ⟨b, 0, none⟩), .string K, .int .i64 s] w fun e w' => e = .returned (.int .i64 ((pre es K s).length : Nat)) ∧ Below w.heap.size w w' := by
  obtain ⟨ao, ca, c0, _, _, _, hel⟩ := h.open'
  have HS : Hid _ := search_any ao ca es K s w hel hs hl
  clear h hel hs
  unfold env at HS
  go_enter Try.func43, Try.ntmps43
  go_wp2_with fail
  refine (show Calls _ _ _ _ _ from HS.out).mono ?_
  rintro e w1 ⟨⟨bb, rfl⟩, hb⟩
  go_wp2
  go_ret
  exact ⟨rfl, hb⟩
def foundT (o : Option En) : Value := .tuple #[env (o.getD En.zero), .bool o.isSome]
theorem post_drop (es : List En) (K : ByteArray) (s : Int) : post es K s = es.drop (pre es K s).length := by
  have h := congrArg (List.drop (pre es K s).length) (pre_post es K s)
  rwa [List.drop_left] at h
theorem get_at {es : List En} (hs : Sorted es) (K : ByteArray) (s : Int) : getE es K s = if h : (pre es K s).length < es.length then (if (es.getD (pre es K s).length En.zero).key = K then some (es.getD (pre es K s).length En.zero) else none) else none := by
  rw [← getP_eq hs]
  unfold getP
  rw [post_drop]
  by_cases h : (pre es K s).length < es.length
  · rw [dif_pos h, List.drop_eq_getElem_cons h, getD_lt _ _ _ h]
  · rw [dif_neg h, List.drop_eq_nil_of_le (by omega)]
set_option maxRecDepth 100000 in
set_option maxHeartbeats 1000000 in
theorem tGet_any (b : Nat) (es : List En) (K : ByteArray) (s : Int) (w v : World) (base : Nat) (h : TabAt v base b es w) (hs : Sorted es) (hB : base ≤ v.heap.size) (hl : es.length ≤ 100000000000) :
    Calls Try.prog 16 #[.pointer (some ⟨b, 0, none⟩), .string K, .int .i64 s] w fun e w' => e = .returned (foundT (getE es K s)) ∧ Below w.heap.size w w' := by
  have HG : Hid _ := get_at hs K s
  obtain ⟨W1, hW1⟩ : ∃ W1, W1 = w.alloc zeroObj := ⟨_, rfl⟩
  have hb1 : Below w.heap.size w W1 := by rw [hW1]; exact (Below.refl _ _).alloc (Nat.le_refl _) _
  have hz1 : W1.heap[w.heap.size]? = some zeroObj := by rw [hW1]; exact heap_alloc_new w _
  have hsz1 : W1.heap.size = w.heap.size + 1 := by rw [hW1]; simp
  have HP : Hid _ := place_any b es K s W1 v base (h.later hB hb1) hs hl
  have HPL : Hid ((pre es K s).length ≤ es.length) := by
    have := congrArg List.length (pre_post es K s)
    rw [List.length_append] at this
    show _ ≤ _
    omega
  have HT : Hid (∀ Y, Below W1.heap.size W1 Y → TabAt v base b es Y ∧ Y.heap[w.heap.size]? = some zeroObj ∧ Below w.heap.size w Y) := fun Y hY => ⟨(h.later hB hb1).later hB hY, (hY.block _ (by omega)).trans hz1, hb1.trans (hY.mono (by omega))⟩
  have HW1 : Hid _ := hW1
  clear hs h hb1 hz1 hsz1
  unfold zeroObj at hW1
  go_enter Try.func16, Try.ntmps16
  go_wp2_with fail
  rw [← hW1]
  refine (show Calls _ _ _ _ _ from HP.out).mono ?_
  rintro e W2 ⟨rfl, hb2⟩
  obtain ⟨ht2, hz2, hB2⟩ := HT.out W2 hb2
  obtain ⟨ao, ca, c0, _, _, _, hel⟩ := ht2.open'
  have HB2 : Hid _ := hB2
  obtain ⟨z0, z1, z2, z3, zf⟩ := ent_cells (e := En.zero) hz2
  have f0 := zf 0
  have f1 := zf 1
  have f2 := zf 2
  have f3 := zf 3
  clear hb2 HP HT hB2 ht2 zf hW1 HW1
  have hPl := HPL.out
  generalize (pre es K s).length = P at *
  by_cases hP : P < es.length
  · have HG' : Hid (getE es K s = if (es.getD P En.zero).key = K then some (es.getD P En.zero) else none) := by
      have := HG.out
      rw [dif_pos hP] at this
      exact this
    obtain ⟨pb, off, rfl, d0, d1, d2, d3⟩ := elem_cells hel hP
    have hne : ((P : Int) == (es.length : Int)) = false := by rw [beq_eq_false_iff_ne]; omega
    have hk0 : (0 : Int) ≤ (P : Int) := by omega
    have hk1 : (P : Int) < (es.length : Int) := by omega
    clear HG hel HPL
    generalize es.getD P En.zero = y at *
    by_cases hkk : y.key = K
    · have hq : (y.key.toList == K.toList) = true := by rw [hkk]; simp
      have HV : Hid _ := HG'.out.trans (if_pos hkk)
      clear HG' hkk
      have hs4 := ent_set (e := En.zero) hz2 y.key y.seq y.dead y.val
      obtain ⟨g0, g1, g2, g3⟩ := hs4
      go_wp2
      refine bodyPost_ret (by simp [results, Try.results16, go_sem, g0, g1, g2, g3]; try rfl) rfl ?_
      exact ⟨by rw [HV.out]; rfl, ((((HB2.out.setCell (p := ⟨w.heap.size, 0, none⟩) (Nat.le_refl _) _).setCell (p := ⟨w.heap.size, 1, none⟩) (Nat.le_refl _) _).setCell (p := ⟨w.heap.size, 2, none⟩) (Nat.le_refl _) _).setCell (p := ⟨w.heap.size, 3, none⟩) (Nat.le_refl _) _)⟩
    · have hq : (y.key.toList == K.toList) = false := by
        rw [beq_eq_false_iff_ne]
        intro e
        exact hkk (Mm.toList_inj e)
      have HV : Hid _ := HG'.out.trans (if_neg hkk)
      clear HG' hkk
      have hs4 := ent_set (e := En.zero) hz2 ⟨#[]⟩ 0 false ⟨#[]⟩
      obtain ⟨g0, g1, g2, g3⟩ := hs4
      go_wp2
      refine bodyPost_ret (by simp [results, Try.results16, go_sem, g0, g1, g2, g3]; try rfl) rfl ?_
      exact ⟨by rw [HV.out]; rfl, ((((HB2.out.setCell (p := ⟨w.heap.size, 0, none⟩) (Nat.le_refl _) _).setCell (p := ⟨w.heap.size, 1, none⟩) (Nat.le_refl _) _).setCell (p := ⟨w.heap.size, 2, none⟩) (Nat.le_refl _) _).setCell (p := ⟨w.heap.size, 3, none⟩) (Nat.le_refl _) _)⟩
  · obtain rfl : P = es.length := by omega
    have HV : Hid (getE es K s = none) := by
      have := HG.out
      rw [dif_neg hP] at this
      exact this
    have heq : ((es.length : Int) == (es.length : Int)) = true := by simp
    clear HG hel HPL hP
    have hs4 := ent_set (e := En.zero) hz2 ⟨#[]⟩ 0 false ⟨#[]⟩
    obtain ⟨g0, g1, g2, g3⟩ := hs4
    go_wp2
    refine bodyPost_ret (by simp [results, Try.results16, go_sem, g0, g1, g2, g3]; try rfl) rfl ?_
    exact ⟨by rw [HV.out]; rfl, ((((HB2.out.setCell (p := ⟨w.heap.size, 0, none⟩) (Nat.le_refl _) _).setCell (p := ⟨w.heap.size, 1, none⟩) (Nat.le_refl _) _).setCell (p := ⟨w.heap.size, 2, none⟩) (Nat.le_refl _) _).setCell (p := ⟨w.heap.size, 3, none⟩) (Nat.le_refl _) _)⟩
/-! ### Lists -/
theorem below_setRow' {w W : World} {cs : Array Value} (hb : Below w.heap.size w W) : Below w.heap.size w (W.setRow w.heap.size cs) :=
  hb.trans ⟨rfl, rfl, rfl, by simp [World.setRow], fun k hk => setRow_other W w.heap.size k cs (by omega)⟩
theorem run_copy4 (w : World) (ty : TypeId) (g n dCap : Nat) (a : Addr) (sCap : Nat) (cur : Array Value) (cs : List Value) (hg : w.heap[g]? = some (.cells cur 44 (0, 0))) (hn : cs.length = n * 4) (hc : cur.size = n * 4)
    (hsrc : ∀ j v, cs[j]? = some v → w.cell? (a.add j) = some v) (h1 : ∀ v ∈ cs, v.oneCell' = true) :
    (Builtin.copy_ #[23, 23] ty #[.slice (some ⟨g, 0, none⟩) n dCap, .slice (some a) n sCap]).run Try.prog w = .ok (goInt n) (w.setRow g cs.toArray) := by
  obtain ⟨i0, hi0, _, hz1, _⟩ := info_parts infoEn
  have hl := run_loadCells_list (P := Try.prog) w a cs hsrc
  have hst := run_storeCells_at Try.prog g 0 44 cs 0 cur w hg (by simp; omega) h1
  rw [hn] at hl
  have e : (cur.toList.take (0 + 0) ++ cs ++ cur.toList.drop (0 + 0 + cs.length)).toArray = cs.toArray := by
    rw [List.drop_eq_nil_of_le (by simp; omega)]
    simp
  rw [e] at hst
  simp [Builtin.copy_, run_underlying Try.underlying23, Builtin.lenOf, Builtin.firstCells, sizeOf, typeInfo, hi0, hz1, hl, hst]
theorem run_copy4_nil (w : World) (ty : TypeId) (g dCap : Nat) (ao : Option Addr) (sCap : Nat) :
    (Builtin.copy_ #[23, 23] ty #[.slice (some ⟨g, 0, none⟩) 0 dCap, .slice ao 0 sCap]).run Try.prog w = .ok (goInt 0) w := by
  obtain ⟨i0, hi0, _, hz1, _⟩ := info_parts infoEn
  cases ao with
  | none => simp [Builtin.copy_, run_underlying Try.underlying23, Builtin.lenOf, Builtin.firstCells, sizeOf, typeInfo, hi0, storeCells]
  | some a =>
    have hl := run_loadCells_list (P := Try.prog) w a [] (fun j v h => by simp at h)
    simp only [List.length_nil] at hl
    simp [Builtin.copy_, run_underlying Try.underlying23, Builtin.lenOf, Builtin.firstCells, sizeOf, typeInfo, hi0, hl, storeCells]
set_option maxRecDepth 100000 in
set_option maxHeartbeats 1000000 in
theorem copied_any (ao : Option Addr) (ca : Nat) (es : List En) (w : World) (hx : ElemsAt enShape w ao es) (hl : es.length ≤ 10000000000) :
    Calls Try.prog 42 #[.slice ao es.length ca] w fun e w' => (∃ v, e = .returned v ∧ w'.ownsRow w.heap.size 44 4 v es.length (enShape.vals es)) ∧ Below w.heap.size w w' := by
  obtain ⟨i0, hi0, hz0, hz1, hz2⟩ := info_parts infoEn
  obtain ⟨Z, hZ⟩ : ∃ Z, Z = madeCells (Value.agg #[.string ⟨#[]⟩, .int .i64 0, .bool false, .string ⟨#[]⟩]).cells (es.length * 4) := ⟨_, rfl⟩
  have hmk : ∀ w : World, (Instr.makeSlice 23 (.int .i64 es.length) (.int .i64 es.length)).run Try.prog w = .ok (.slice (some ⟨w.heap.size, 0, none⟩) es.length es.length) (w.alloc (.cells Z 44)) := fun w => by
    have := run_make (P := Try.prog) w 23 44 i0 _ Try.underlying23 hi0 hz0 .i64 .i64 es.length es.length (by omega) (by omega) (by rw [hz2]; omega) (by omega)
    rw [hz1] at this
    simp only [Int.toNat_natCast] at this
    rw [hZ]
    exact this
  have hZs : Z.size = es.length * 4 := by rw [hZ]; simp [madeCells]
  obtain ⟨W1, hW1⟩ : ∃ W1, W1 = w.alloc (.cells Z 44) := ⟨_, rfl⟩
  have hg1 : W1.heap[w.heap.size]? = some (.cells Z 44 (0, 0)) := by rw [hW1]; exact heap_alloc_new w _
  have hb1 : Below w.heap.size w W1 := by rw [hW1]; exact (Below.refl _ _).alloc (Nat.le_refl _) _
  have hx1 := hx.later hb1
  have hvl := Shape.vals_length enShape es
  have HCP : Hid (∃ W2, (Builtin.copy_ #[23, 23] 3 #[.slice (some ⟨w.heap.size, 0, none⟩) es.length es.length, .slice ao es.length ca]).run Try.prog W1 = .ok (goInt es.length) W2 ∧ W2.ownsRow w.heap.size 44 4 (.slice (some ⟨w.heap.size, 0, none⟩) es.length es.length) es.length (enShape.vals es) ∧ Below w.heap.size w W2) := by
    by_cases h0 : es.length = 0
    · have he : es = [] := List.eq_nil_of_length_eq_zero h0
      subst he
      refine ⟨W1, run_copy4_nil W1 _ _ _ _ _, ?_, hb1⟩
      have hZ0 : Z = #[] := Array.eq_empty_of_size_eq_zero (by simpa using hZs)
      subst hZ0
      rw [hW1]
      exact own_emptyT w 44 4 w.heap.size (Nat.le_refl _)
    · rcases hx1 with he | ⟨pb, off, rfl, hpl, hcell⟩
      · rw [he] at h0; simp at h0
      · have hsrc := ElemsAt.vals (F := enShape) (w := W1) (xs := es) (.inr ⟨pb, off, rfl, hpl, hcell⟩) rfl
        refine ⟨W1.setRow w.heap.size (enShape.vals es).toArray, run_copy4 W1 _ _ _ _ _ _ Z (enShape.vals es) hg1 hvl hZs hsrc (Shape.vals_one enShape es), ?_, below_setRow' hb1⟩
        exact ⟨by rw [hvl]; rfl, .inr ⟨w.heap.size, es.length, (enShape.vals es).toArray, rfl, Nat.le_refl _, setRow_heap W1 w.heap.size _ _ _ _ hg1, Nat.le_refl _, by unfold maxLen; omega, by rw [List.size_toArray, hvl]; rfl, by rw [List.take_of_length_le (by simp [hvl]; exact Nat.le_refl _)]⟩⟩
  obtain ⟨W2, hrun, hown, hb2⟩ := HCP.out
  have HO : Hid _ := hown
  have HB : Hid _ := hb2
  clear hx hx1 hb1 hg1 HCP hown hb2 hZ hi0 hz0 hz1 hz2 hvl hZs
  rw [hW1] at hrun
  go_enter Try.func42, Try.ntmps42
  go_wp2
  go_ret
  exact ⟨⟨_, rfl, HO.out⟩, HB.out⟩
set_option maxRecDepth 100000 in
theorem tAll_any (b : Nat) (es : List En) (w v : World) (base : Nat) (h : TabAt v base b es w) (hl : es.length ≤ 10000000000) :
    Calls Try.prog 15 #[.pointer (some ⟨b, 0, none⟩)] w fun e w' => (∃ v, e = .returned v ∧ w'.ownsRow w.heap.size 44 4 v es.length (enShape.vals es)) ∧ Below w.heap.size w w' := by
  obtain ⟨ao, ca, c0, _, _, _, hel⟩ := h.open'
  have HC : Hid _ := copied_any ao ca es w hel hl
  clear h hel
  go_enter Try.func15, Try.ntmps15
  go_wp2_with fail
  refine (show Calls _ _ _ _ _ from HC.out).mono ?_
  rintro e w1 ⟨⟨v1, rfl, ho⟩, hb⟩
  go_wp2
  go_ret
  exact ⟨⟨_, rfl, ho⟩, hb⟩
set_option maxRecDepth 100000 in
set_option maxHeartbeats 1000000 in
theorem tFrom_any (b : Nat) (es : List En) (K : ByteArray) (w v : World) (base : Nat) (h : TabAt v base b es w) (hs : Sorted es) (hok : AllOk es) (hB : base ≤ v.heap.size) (hl : es.length ≤ 10000000000) :
    Calls Try.prog 18 #[.pointer (some ⟨b, 0, none⟩), .string K] w fun e w' => (∃ v, e = .returned v ∧ w'.ownsRow w.heap.size 44 4 v (fromE es K).length (enShape.vals (fromE es K))) ∧ Below w.heap.size w w' := by
  obtain ⟨P, hP⟩ : ∃ P, P = (pre es K 9223372036854775807).length := ⟨_, rfl⟩
  have HF : Hid (fromE es K = es.drop P) := by show _ = _; rw [hP, ← post_drop, post_max hok]
  have hPl : P ≤ es.length := by
    rw [hP]
    have := congrArg List.length (pre_post es K 9223372036854775807)
    rw [List.length_append] at this
    omega
  obtain ⟨ao, ca, c0, _, hnil, hca, hel⟩ := h.open'
  have HPL : Hid (∀ X, Below w.heap.size w X → Calls Try.prog 43 #[.pointer (some ⟨b, 0, none⟩), .string K, .int .i64 9223372036854775807] X fun e w' => e = .returned (.int .i64 (P : Nat)) ∧ Below X.heap.size X w') := fun X hX => by
    rw [hP]
    exact place_any b es K 9223372036854775807 X v base (h.later hB hX) hs (by omega)
  have HPD : Hid _ := HPL.out w.drew (Below.refl _ w).drew
  have HX : Hid (∀ X, Below w.heap.size w X → ElemsAt enShape X ao es) := fun X hX => hel.later hX
  have HC0 : Hid (∀ X, Below w.heap.size w X → X.cell? ⟨b, 0, none⟩ = some (.slice ao es.length ca)) := fun X hX => cell_later hX c0
  have hk0 : (0 : Int) ≤ (P : Int) := by omega
  have hk1 : (P : Int) ≤ (es.length : Int) := by omega
  have hk2 : (P : Int) ≤ (ca : Int) := by omega
  have HLD : Hid ((es.drop P).length = es.length - P) := by show _ = _; rw [List.length_drop]
  have HDR : Hid (∀ X, Below w.heap.size w X → ∀ a2 c2, (0 < es.length - P → ∃ bb oo, ao = some ⟨bb, oo, none⟩ ∧ a2 = some (⟨bb, oo + P * 4, none⟩ : Addr)) → Calls Try.prog 42 #[.slice a2 (es.length - P) c2] X fun e w' => (∃ v, e = .returned v ∧ w'.ownsRow X.heap.size 44 4 v (fromE es K).length (enShape.vals (fromE es K))) ∧ Below X.heap.size X w') := fun X hX a2 c2 ha => by
    rw [HF.out]
    rw [← HLD.out]
    refine copied_any a2 c2 (es.drop P) X ?_ (by rw [List.length_drop]; omega)
    by_cases h0 : 0 < es.length - P
    · obtain ⟨bb, oo, e1, rfl⟩ := ha h0
      have := HX.out X hX
      rw [e1] at this
      exact elems_drop this P
    · exact .inl (List.eq_nil_of_length_eq_zero (by rw [List.length_drop]; omega))
  have hhd := h.head c0
  clear h hs hok hel hP HF HLD HPL
  have c1 : w.drew.cell? ⟨b, 0, none⟩ = some (.slice ao es.length ca) := c0
  rcases hhd with rfl | ⟨g, rfl⟩
  · have hca0 := hnil rfl
    subst hca0
    have hl0 : es.length = 0 := by omega
    obtain rfl : P = 0 := by omega
    have HCO : Hid (∀ X, Below w.heap.size w X → Calls Try.prog 42 #[.slice none 0 0] X fun e w' => (∃ v, e = .returned v ∧ w'.ownsRow X.heap.size 44 4 v (fromE es K).length (enShape.vals (fromE es K))) ∧ Below X.heap.size X w') := fun X hX => by
      have := HDR.out X hX none 0 (fun h => by omega)
      rwa [hl0] at this
    rw [hl0] at c1 c0 HC0
    clear HDR HX hnil hk1 hk2 hPl hca
    go_enter Try.func18, Try.ntmps18
    go_wp2_with fail
    go_region_held3 (fun w' => w'.cell? ⟨b, 0, none⟩ = some (.slice none 0 0)) (first | exact c1 | exact d1 | exact d2)
      ((first
        | (go_at_call 43; refine (show Calls _ _ _ _ _ from HPD.out).mono ?_; rintro e w1 ⟨rfl, hb1⟩; have hB1 : Below w.heap.size w w1 := (Below.refl _ w).drew.trans hb1; have d1 := HC0.out w1 hB1)
        | (go_at_call 42; refine (show Calls _ _ _ _ _ from HCO.out w1 hB1).mono ?_; rintro e w2 ⟨⟨v2, rfl, ho2⟩, hb2⟩; have hB2 : Below w.heap.size w w2 := hB1.trans (hb2.mono hB1.size); have d2 := HC0.out w2 hB2)))
    go_wp2
    go_ret
    exact ⟨⟨_, rfl, ⟨ho2.1, ho2.2.imp id (fun ⟨g, cap, cur, a, b, c⟩ => ⟨g, cap, cur, a, Nat.le_trans hB1.size b, c⟩)⟩⟩, hB2⟩
  · by_cases hcp : ca = P
    · subst hcp
      have hl0 : es.length = ca := by omega
      have HCO : Hid (∀ X, Below w.heap.size w X → Calls Try.prog 42 #[.slice (some ⟨g, 0, none⟩) 0 0] X fun e w' => (∃ v, e = .returned v ∧ w'.ownsRow X.heap.size 44 4 v (fromE es K).length (enShape.vals (fromE es K))) ∧ Below X.heap.size X w') := fun X hX => by
        have := HDR.out X hX (some ⟨g, 0, none⟩) 0 (fun h => by omega)
        rwa [hl0, Nat.sub_self] at this
      rw [hl0] at c1 c0 HC0
      clear HDR HX hnil hk1 hk2 hPl hca
      go_enter Try.func18, Try.ntmps18
      go_wp2_with fail
      go_region_held3 (fun w' => w'.cell? ⟨b, 0, none⟩ = some (.slice (some ⟨g, 0, none⟩) ca ca)) (first | exact c1 | exact d1 | exact d2)
        ((first
          | (go_at_call 43; refine (show Calls _ _ _ _ _ from HPD.out).mono ?_; rintro e w1 ⟨rfl, hb1⟩; have hB1 : Below w.heap.size w w1 := (Below.refl _ w).drew.trans hb1; have d1 := HC0.out w1 hB1)
          | (go_at_call 42; refine (show Calls _ _ _ _ _ from HCO.out w1 hB1).mono ?_; rintro e w2 ⟨⟨v2, rfl, ho2⟩, hb2⟩; have hB2 : Below w.heap.size w w2 := hB1.trans (hb2.mono hB1.size); have d2 := HC0.out w2 hB2)))
      go_wp2
      go_ret
      exact ⟨⟨_, rfl, ⟨ho2.1, ho2.2.imp id (fun ⟨g, cap, cur, a, b, c⟩ => ⟨g, cap, cur, a, Nat.le_trans hB1.size b, c⟩)⟩⟩, hB2⟩
    · have HCO : Hid (∀ X, Below w.heap.size w X → Calls Try.prog 42 #[.slice (some ⟨g, P * 4, none⟩) (es.length - P) (ca - P)] X fun e w' => (∃ v, e = .returned v ∧ w'.ownsRow X.heap.size 44 4 v (fromE es K).length (enShape.vals (fromE es K))) ∧ Below X.heap.size X w') := fun X hX => HDR.out X hX _ _ (fun _ => ⟨g, 0, rfl, by rw [Nat.zero_add]⟩)
      clear HDR HX hnil
      go_enter Try.func18, Try.ntmps18
      go_wp2_with fail
      go_region_held3 (fun w' => w'.cell? ⟨b, 0, none⟩ = some (.slice (some ⟨g, 0, none⟩) es.length ca)) (first | exact c1 | exact d1 | exact d2)
        ((first
          | (go_at_call 43; refine (show Calls _ _ _ _ _ from HPD.out).mono ?_; rintro e w1 ⟨rfl, hb1⟩; have hB1 : Below w.heap.size w w1 := (Below.refl _ w).drew.trans hb1; have d1 := HC0.out w1 hB1)
          | (go_at_call 42; refine (show Calls _ _ _ _ _ from HCO.out w1 hB1).mono ?_; rintro e w2 ⟨⟨v2, rfl, ho2⟩, hb2⟩; have hB2 : Below w.heap.size w w2 := hB1.trans (hb2.mono hB1.size); have d2 := HC0.out w2 hB2)))
      go_wp2
      go_ret
      exact ⟨⟨_, rfl, ⟨ho2.1, ho2.2.imp id (fun ⟨g, cap, cur, a, b, c⟩ => ⟨g, cap, cur, a, Nat.le_trans hB1.size b, c⟩)⟩⟩, hB2⟩
end Go.Proofs.Ytedjohkdfchocaa.Tb

/-
  The statements' own example: nine versions of one key, in two blocks.
-/
namespace Go.Proofs.Ytedjohkdfchocaa.Tb
open Go.RowKit Cm Mm Bk
open Fr (framesB str sealed)
set_option linter.unusedVariables false

def ninth (i : Nat) : En := ⟨⟨#[107]⟩, 9 - (i : Int), false, ⟨#[118]⟩⟩
def nine (k : Nat) : List En := (List.range k).map ninth
theorem nine_succ (k : Nat) : nine (k + 1) = nine k ++ [ninth k] := by simp [nine, List.range_succ]
theorem nine_len (k : Nat) : (nine k).length = k := by simp [nine]
theorem nine_right : right (nine 9) = true := by decide
theorem nine_ok : AllOk (nine 9) := fun e he => by
  obtain ⟨i, hi, rfl⟩ := List.mem_map.1 he
  have : i < 9 := by simpa using hi
  exact ⟨by show _ ≤ (9 : Int) - i; omega, by show (9 : Int) - i ≤ _; omega⟩
theorem nine_small : (nine 9).length + bytesE (nine 9) ≤ 1048576 := by decide
theorem pays_small {es : List En} (h : es.length + bytesE es ≤ 1000) : ∀ x ∈ tpays es, x.size ≤ 65536 := fun x hx => by
  have h1 := index_len es (nch es) (Nat.le_refl _)
  have h3 := bytes_take es (8 * nch es)
  have h6 : nch es ≤ (es.length + 7) / 8 := Nat.le_refl _
  rcases List.mem_append.1 hx with hx | hx
  · obtain ⟨k, hk, rfl⟩ := List.mem_map.1 hx
    have h4 := block_len (chunk es k)
    have h5 := chunk_bytes es k
    have h7 := chunk_len es k
    unfold blk
    rw [Fr.str_size]
    omega
  · simp only [tailB, List.mem_cons, List.not_mem_nil, or_false] at hx
    rcases hx with rfl | rfl | rfl
    · rw [Fr.str_size]; omega
    · rw [Fr.str_size, filt_len]
      have := ks_len es es.length
      unfold keysE Bl.len
      omega
    · have h7 := (Pk.enc_len (place es (nch es))).2
      have h8 := (Pk.enc_len es.length).2
      rw [Fr.str_size]
      simp only [footer, List.length_append, List.length_cons, List.length_nil]
      omega
theorem nine_table : tableV (nine 9) = .tuple #[.string (str (framesB (tpays (nine 9)))), .int .i64 0] := by
  unfold tableV
  rw [nine_right, if_pos rfl, Fr.sealed_ok (pays_small (by decide))]
theorem nine_get : getE (nine 9) ⟨#[107]⟩ 4 = some (ninth 5) := by rfl
theorem nine_nch : nch (nine 9) = 2 := by decide
set_option maxRecDepth 100000 in
set_option maxHeartbeats 1000000 in
theorem lives_any (w : World) : Calls Try.prog 6 #[] w fun e w' => e = .returned (.bool true) ∧ Below w.heap.size w w' := by
  obtain ⟨i0, hi, hz0, hz1, hz2⟩ := info_parts infoEn
  go_enter Try.func6, Try.ntmps6
  go_wp2
  go_loopw [1, 2] (fun v i wr => ∃ k : Nat, k ≤ 9 ∧ i = .int .i64 k ∧ Hid (wr.ownsRow w.heap.size 44 4 v (nine k).length (enShape.vals (nine k))) ∧ Hid (Below w.heap.size w wr)) (fun _ i _ => 9 - (intOf i).toNat)
  case atStart => exact ⟨0, by omega, rfl, World.ownsRow_nil _ _ _ _, Below.refl _ _⟩
  case round =>
    obtain ⟨k, hk, rfl, HO, HB⟩ := hrel
    by_cases hlt : k < 9
    · have hel : ElemsAt enShape (wr.alloc (entObj (ninth k))) (some ⟨wr.heap.size, 0, none⟩) [ninth k] := elems1 (ninth k)
      unfold entObj ninth at hel
      have ho := World.ownsRow.alloc HO.out (.cells #[.string ⟨#[107]⟩, .int .i64 (9 - (k : Int)), .bool false, .string ⟨#[118]⟩] 44)
      rw [nine_len] at ho
      have hsz := HB.out.size
      have HOA : Hid _ := ho
      have HN : Hid _ := nine_succ k
      clear ho
      go_wp2_with (at_builtin; refine wpList_append_rows (F := enShape) _ rfl _ _ 23 rfl w.heap.size 44 i0 _ 48 Try.underlying23 hi hz0 hz1 hz2 rfl u1 k (nine k) rfl HOA.out (some ⟨wr.heap.size, 0, none⟩) 1 1 [⟨⟨#[107]⟩, 9 - (k : Int), false, ⟨#[118]⟩⟩] rfl (by simp) rfl hel ?d1 ?d2 ?d3 ?_)
      case d1 => unfold maxLen; omega
      case d2 => omega
      case d3 => omega
      intro v3 w3 hown3 hgrow3 hat3
      have HO3 : Hid (w3.ownsRow w.heap.size 44 4 v3 (nine (k + 1)).length (enShape.vals (nine (k + 1)))) := by
        rw [nine_len, HN.out]
        exact hown3
      have HB3 : Hid (Below w.heap.size w w3) := grown_below (HB.out.alloc hsz _) (Nat.le_refl _) HOA.out hgrow3
      clear hown3 hgrow3 hat3 hel HOA HO HB
      go_wp2
      go_roundw
      case rel => exact ⟨k + 1, by omega, by go_num, HO3, HB3⟩
      case measure => simp [intOf]; omega
    · obtain rfl : k = 9 := by omega
      obtain ⟨ao, ca, rfl, _, _, hca, hel⟩ := own_rows (F := enShape) (show wr.ownsRow _ _ enShape.sz _ _ _ from HO.out)
      have HBU : Hid _ := build_any ao ca (nine 9) wr hel nine_ok hca (small_of nine_small)
      rw [nine_table] at HBU
      have HIT : Hid _ := built nine_ok nine_small nine_table
      rw [nine_len] at HBU hca
      clear hel HO
      rw [nine_len]
      generalize str (framesB (tpays (nine 9))) = S at *
      go_wp2_with fail
      refine (show Calls _ _ _ _ _ from HBU.out).mono ?_
      rintro e w1 ⟨rfl, hb1⟩
      have HB1 : Hid (Below w.heap.size w w1) := HB.out.trans (hb1.mono HB.out.size)
      clear hb1 HBU HB
      go_wp2_with fail
      refine (open_any S w1 (by have := HIT.out.2; omega)).mono ?_
      intro e w2 hA
      obtain ⟨b, rfl, ht, hsm⟩ := open_built HIT.out.1 hA
      have HB2 : Hid (Below w.heap.size w w2) := HB1.out.trans (hA.2.mono HB1.out.size)
      have HG : Hid _ := tGet_any b (nine 9) ⟨#[107]⟩ 4 w2 w1 w1.heap.size ht (right_sorted nine_right) (Nat.le_refl _) (by rw [nine_len]; omega)
      rw [nine_get] at HG
      have HT : Hid (∀ X, Below w2.heap.size w2 X → TabAt w1 w1.heap.size b (nine 9) X) := fun X hX => ht.later (Nat.le_refl _) hX
      unfold foundT env ninth at HG
      clear hA ht hsm HIT HB1
      go_wp2_with fail
      refine (show Calls _ _ _ _ _ from HG.out).mono ?_
      rintro e w3 ⟨rfl, hb3⟩
      have HLN : Hid (∀ X, Below w2.heap.size w2 X → Calls Try.prog 12 #[.pointer (some ⟨b, 0, none⟩)] X fun e w' => e = .returned (.int .i64 9) ∧ w' = X) := fun X hX => by
        have := tLen_any b (nine 9) X w1 _ (HT.out X hX)
        rwa [nine_len] at this
      have HBL : Hid (∀ X, Below w2.heap.size w2 X → Calls Try.prog 21 #[.pointer (some ⟨b, 0, none⟩)] X fun e w' => e = .returned (.int .i64 2) ∧ w' = X) := fun X hX => by
        have := tBlocks_any b (nine 9) X w1 _ (HT.out X hX) (by rw [nine_len]; omega)
        rwa [nine_nch] at this
      have HB3 : Hid _ := hb3
      have HB23 : Hid (Below w.heap.size w w3) := HB2.out.trans (hb3.mono HB2.out.size)
      clear hb3 HG HT HB2
      go_wp2_with (first | (go_at_call 12; refine (show Calls _ _ _ _ _ from HLN.out _ (HB3.out.alloc HB3.out.size _)).mono ?_; rintro e wa ⟨rfl, rfl⟩) | (go_at_call 21; refine (show Calls _ _ _ _ _ from HBL.out _ (HB3.out.alloc HB3.out.size _)).mono ?_; rintro e wb ⟨rfl, rfl⟩))
      go_ret
      exact ⟨rfl, HB23.out.alloc HB23.out.size _⟩
end Go.Proofs.Ytedjohkdfchocaa.Tb

/-
  The walk of the statement TableWhole.
-/
namespace Go.Proofs.Ytedjohkdfchocaa.Tb
open Go.RowKit Cm Mm Bk
open Fr (framesB str sealed)
set_option linter.unusedVariables false

theorem bs_front (s : ByteArray) (k : Nat) : bs (s.extract 0 k) = (bs s).take k := by
  unfold bs
  rw [Lib.extract_data]
  simp
theorem one_string (c : UInt8) (W : World) : (convert 67 9 (.slice (some ⟨W.heap.size, 0, none⟩) 1 1)).run Try.prog (W.alloc (.cells #[.int .u8 c.toNat] 5)) = .ok (.string ⟨#[c]⟩) (W.alloc (.cells #[.int .u8 c.toNat] 5)) := by
  refine run_convert_bytes_back _ 67 9 5 ⟨W.heap.size, 0, none⟩ 1 [c] Try.underlying67 Try.underlying5 Try.underlying9 fun j hj => ?_
  obtain rfl : j = 0 := by simpa using hj
  rw [Go.WideShapes.add_plain, Joins.cell_of_block (heap_alloc_new W _)]
  rfl
set_option maxRecDepth 100000 in
set_option maxHeartbeats 1000000 in
theorem tableWhole_walk (ao : Option Addr) (ca : Nat) (es : List En) (c : UInt8) (w : World) (hx : ElemsAt enShape w ao es) (hca : es.length ≤ ca) (hok : AllOk es) (hsz : es.length + bytesE es ≤ 1048576) :
    Calls Try.prog 5 #[.slice ao es.length ca, .int .u8 c.toNat] w fun e w' => e = .returned (.bool true) ∧ Below w.heap.size w w' := by
  have HX : Hid (∀ X, Below w.heap.size w X → Calls Try.prog 9 #[.slice ao es.length ca] X fun e w' => e = .returned (tableV es) ∧ Below w.heap.size w w') := fun X hX =>
    (build_any ao ca es X (hx.later hX) hok hca (small_of hsz)).mono fun e w' ⟨h1, h2⟩ => ⟨h1, hX.trans (h2.mono hX.size)⟩
  have HI : Hid (∀ T, tableV es = .tuple #[.string T, .int .i64 0] → IsTable (bs T) es ∧ T.size ≤ 59000000) := fun T h => built hok hsz h
  have HSM : Hid (Small es) := small_of hsz
  clear hx hok
  go_enter Try.func5, Try.ntmps5
  go_wp2_with fail
  refine (lives_any _).mono ?_
  rintro e w1 ⟨rfl, hb1⟩
  go_wp2_with fail
  refine (HX.out w1 hb1).mono ?_
  rintro e w2 ⟨rfl, hb2⟩
  have HB2 : Hid _ := hb2
  clear hb1 hb2 HX
  rcases tableV_form es with ⟨S, hS⟩ | hS | hS
  · obtain ⟨hit, hSs⟩ := HI.out S hS
    have HIT : Hid _ := hit
    rw [hS]
    clear hS HI hit
    go_wp2
    go_loopw [7] (fun i wr => ∃ k : Nat, i = .int .i64 k ∧ k ≤ S.size ∧ k ≤ 150 ∧ Hid (Below w.heap.size w wr)) (fun i _ => 150 - (intOf i).toNat)
    case atStart => exact ⟨0, rfl, by omega, by omega, HB2⟩
    case round =>
      obtain ⟨k, rfl, hk1, hk2, HB⟩ := hrel
      by_cases hlt : k < S.size ∧ k < 150
      · obtain ⟨h1, h2⟩ := hlt
        have HD : Hid (∀ j X, j < S.size → Below w.heap.size w X → Calls Try.prog 11 #[.string (S.extract 0 j)] X fun e w' => e = .returned (.tuple #[.pointer none, .int .i64 10]) ∧ Below w.heap.size w w') := fun j X hj hX => by
          refine (open_any (S.extract 0 j) X (by rw [ByteArray.size_extract]; omega)).mono ?_
          intro e w' hA
          rw [bs_front] at hA
          obtain ⟨he, hB⟩ := open_none (no_begin HIT.out HSM.out (by rw [bs_len]; exact hj)) hA
          exact ⟨he, hX.trans (hB.mono hX.size)⟩
        obtain ⟨m, hm⟩ : ∃ m, m + 1 + k = S.size := ⟨S.size - 1 - k, by omega⟩
        have HDr : Hid _ := HD.out k wr h1 HB.out
        have HDs : Hid (∀ X, Below w.heap.size w X → Calls Try.prog 11 #[.string (S.extract 0 m)] X fun e w' => e = .returned (.tuple #[.pointer none, .int .i64 10]) ∧ Below w.heap.size w w') := fun X hX => HD.out m X (by omega) hX
        have hk0 : (0 : Int) ≤ (k : Int) := by omega
        have hk3 : (k : Int) ≤ (S.size : Int) := by omega
        have hm0 : (0 : Int) ≤ (m : Int) := by omega
        have hm3 : (m : Int) ≤ (S.size : Int) := by omega
        have HMM : Hid ((S.size : Int) - 1 - (k : Int) = (m : Int)) := by show _ = _; omega
        have hmw : IntKind.i64.wrap ((S.size : Int) - 1 - (k : Int)) = (m : Int) := wrap_nat (by omega) (by omega)
        clear HD HB HIT
        go_wp2_with fail
        refine (show Calls _ _ _ _ _ from HDr.out).mono ?_
        rintro e w3 ⟨rfl, hb3⟩
        have HB3 : Hid _ := hb3
        clear hb3 HDr
        go_wp2_with fail
        refine (show Calls _ _ _ _ _ from HDs.out _ HB3.out).mono ?_
        rintro e w4 ⟨rfl, hb4⟩
        have HB4 : Hid _ := hb4
        clear hb4 HDs HB3
        go_wp2
        go_roundw
        case rel => exact ⟨k + 1, by go_num, by omega, by omega, HB4⟩
        case measure => simp [intOf]; omega
      · obtain ⟨C, hC⟩ : ∃ C : ByteArray, C = ⟨#[c]⟩ := ⟨_, rfl⟩
        have hcv := one_string c wr
        rw [← hC] at hcv
        have hadd : bs (S ++ C) = bs S ++ [c] := by rw [hC]; unfold bs; rw [Go.Joins.data_append]
        have hc1 : C.size = 1 := by rw [hC]; rfl
        have hsz2 : (S ++ C).size ≤ 60000000 := by rw [← bs_len, hadd, List.length_append, bs_len]; simp; omega
        have HD : Hid (∀ X, Below w.heap.size w X → Calls Try.prog 11 #[.string (S ++ C)] X fun e w' => e = .returned (.tuple #[.pointer none, .int .i64 10]) ∧ Below w.heap.size w w') := fun X hX => by
          refine (open_any (S ++ C) X hsz2).mono ?_
          intro e w' hA
          rw [hadd] at hA
          obtain ⟨he, hB⟩ := open_none (no_more HIT.out c) hA
          exact ⟨he, hX.trans (hB.mono hX.size)⟩
        have HDr : Hid _ := HD.out (wr.alloc (.cells #[.int .u8 c.toNat] 5)) (HB.out.alloc HB.out.size _)
        clear HB HIT hadd hC hsz2 HD
        by_cases hz : k < S.size
        · have h3 : decide ((k : Int) < 150) = false := by simp; omega
          have h4 : decide (k < 150) = false := by simp; omega
          go_wp2_with fail
          refine (show Calls _ _ _ _ _ from HDr.out).mono ?_
          rintro e w3 ⟨rfl, hb3⟩
          have HB3 : Hid _ := hb3
          clear hb3 HDr
          go_wp2
          go_ret
          exact ⟨rfl, HB3.out⟩
        · have h3 : decide ((k : Int) < (S.size : Int)) = false := by simp; omega
          have h4 : decide (k < S.size) = false := by simp; omega
          go_wp2_with fail
          refine (show Calls _ _ _ _ _ from HDr.out).mono ?_
          rintro e w3 ⟨rfl, hb3⟩
          have HB3 : Hid _ := hb3
          clear hb3 HDr
          go_wp2
          go_ret
          exact ⟨rfl, HB3.out⟩
  all_goals
    rw [hS]
    clear hS HI
    go_wp2
    go_ret
    exact ⟨rfl, HB2.out⟩
end Go.Proofs.Ytedjohkdfchocaa.Tb

/-
  Slices of texts that came in, opened into plain lists; the bound on their bulk.
-/
namespace Go.Proofs.Ytedjohkdfchocaa.Cm
open Go.ChangeShapes Go.WideShapes Go.ChangeAt Go.RowKit Go.Deep
set_option linter.unusedVariables false

theorem cellsString' : Try.prog.cellsOf 9 = 1 := by kernel_rfl

section
variable {H : Type} {enc : TypeId × Value → H} {w : World} {base : Nat} {spare : Nat → Bool} {held : Bool}

theorem open_list {α : Type} [Inhabited α] {ts e : TypeId} (val : α → Value) (dat : α → DataW H) (ok : α → Prop) (hts : Try.prog.underlying ts = some (.slice e)) (hce : Try.prog.cellsOf e = 1)
    (each : ∀ n v d pl, DataW.trod enc Try.prog w base spare held n e [v] = some (d, pl) → ∃ x, v = val x ∧ d = dat x ∧ ok x)
    {ao : Option Addr} {len cap fuel : Nat} {x : DataW H × List MemPlace} (h : DataW.trod enc Try.prog w base spare held fuel ts [.slice ao len cap] = some x) :
    ∃ xs : List α, xs.length = len ∧ CellsAt w ao (xs.map val) ∧ (∀ i ∈ xs, ok i) ∧ ((len = 0 ∧ x.1 = .nil) ∨ ∃ rest, x.1 = .slice (xs.map dat) rest) ∧ (ao = none → cap = 0) := by
  rcases open_slice1 hts hce h with ⟨hcs, hx⟩ | ⟨a, len', cap', m, n, V, D, Pl, hcs, hb, hl, hm, hmm, hx, hel⟩
  · simp at hcs
    obtain ⟨rfl, rfl, rfl⟩ := hcs
    exact ⟨[], rfl, .inl rfl, by simp, .inl ⟨rfl, by rw [hx]⟩, fun _ => rfl⟩
  · simp at hcs
    obtain ⟨rfl, rfl, rfl⟩ := hcs
    have hlm : len ≤ m := by rw [hmm]; split <;> omega
    obtain ⟨q, hq⟩ := choose_lt (fun i (hi : i < len) => each n (V i) (D i) (Pl i) (hel i (by omega)).2)
    refine ⟨(List.range len).map q, by simp, ?_, ?_, .inr ⟨(List.range (m - len)).map fun j => D (len + j), ?_⟩, fun h => by cases h⟩
    · rcases Nat.eq_zero_or_pos len with h0 | h0
      · subst h0; exact .inl rfl
      · right
        obtain ⟨b, off, spot⟩ := a
        have hspot : spot = none := by simpa [Addr.add] using World.cell?_spot (hel 0 (by omega)).1
        subst hspot
        refine ⟨b, off, rfl, World.block_lt_of_cell? w _ (hel 0 (by omega)).1, fun j hj => ?_⟩
        rw [List.length_map, List.length_map, List.length_range] at hj
        rw [← add_plain, (hel j (by omega)).1, (hq j hj).1]
        simp [hj]
    · intro i hi
      obtain ⟨j, hj, rfl⟩ := List.mem_map.1 hi
      exact (hq j (List.mem_range.1 hj)).2.2
    · rw [hx, List.map_map]
      show DataW.slice _ _ = DataW.slice _ _
      rw [List.map_congr_left (g := dat ∘ q) fun j hj => (hq j (List.mem_range.1 hj)).2.1]

def strData (s : ByteArray) : DataW H := .lit (.string s.data.toList)

theorem open_strl {ao : Option Addr} {len cap fuel : Nat} {x : DataW H × List MemPlace} (h : DataW.trod enc Try.prog w base spare held fuel 24 [.slice ao len cap] = some x) :
    ∃ xs : List ByteArray, xs.length = len ∧ CellsAt w ao (strVals xs) ∧ (∀ i ∈ xs, i.size ≤ maxLen) ∧ ((len = 0 ∧ x.1 = .nil) ∨ ∃ rest, x.1 = .slice (xs.map strData) rest) ∧ (ao = none → cap = 0) := by
  refine open_list Value.string strData (fun s => s.size ≤ maxLen) Try.underlying24 cellsString' (fun n v d pl ht => ?_) h
  obtain ⟨u, e1, e2, w1⟩ := DataW.trod_string Try.underlying9 ht
  simp at e1 e2
  exact ⟨u, e1, e2.1, w1⟩
end

/-! ### The bound on the bulk -/
/-- A part's bulk, of a datum that is a slice or nil. -/
theorem part {H α : Type} {f : α → DataW H} {xs : List α} {d : DataW H} (hd : (xs.length = 0 ∧ d = .nil) ∨ ∃ rest, d = .slice (xs.map f) rest) : Rows.uptoBulkAll (xs.map f) ≤ Rows.uptoBulk d := by
  rcases hd with ⟨h, _⟩ | ⟨rest, rfl⟩
  · rw [List.eq_nil_of_length_eq_zero h]; simp [Rows.uptoBulkAll]
  · simp only [Rows.uptoBulk]; omega
theorem bulk_strs {H : Type} (xs : List ByteArray) : xs.length + total xs ≤ Rows.uptoBulkAll (xs.map strData : List (DataW H)) := by
  induction xs with
  | nil => simp [total]
  | cons x r ih =>
    have hb : Rows.uptoBulk (strData x : DataW H) = x.size + 1 := by rw [Lib.size_eq]; simp [strData, Rows.uptoBulk]
    simp only [total, List.map_cons, List.sum_cons, List.length_cons, Rows.uptoBulkAll, hb] at ih ⊢
    omega

end Go.Proofs.Ytedjohkdfchocaa.Cm

/-
  Slices of versions that came in, opened into plain lists; the bound on their bulk; a key with a number, by value.
-/
namespace Go.Proofs.Ytedjohkdfchocaa.Mm
open Go.ChangeShapes Go.WideShapes Go.ChangeAt Go.RowKit Go.Deep Cm
set_option linter.unusedVariables false

theorem cellsEn : Try.prog.cellsOf 44 = 4 := by kernel_rfl
theorem cellsInt : Try.prog.cellsOf 3 = 1 := by kernel_rfl
theorem cellsString : Try.prog.cellsOf 9 = 1 := by kernel_rfl
theorem cellsBool : Try.prog.cellsOf 4 = 1 := by kernel_rfl
def enData {H : Type} (e : En) : DataW H := .agg [.lit (.string e.key.data.toList), .lit (.int .i64 e.seq), .lit (.bool e.dead), .lit (.string e.val.data.toList)]
theorem bulk_ens {H : Type} (xs : List En) : xs.length + bytesE xs ≤ Rows.uptoBulkAll (xs.map enData : List (DataW H)) := by
  induction xs with
  | nil => simp [bytesE]
  | cons x r ih =>
    have hb : x.key.size + x.val.size + 1 ≤ Rows.uptoBulk (enData x : DataW H) := by
      rw [Lib.size_eq, Lib.size_eq]
      simp only [enData, Rows.uptoBulk, Rows.uptoBulkAll]
      omega
    rw [bytesE_cons, List.map_cons, List.length_cons]
    simp only [Rows.uptoBulkAll]
    unfold sizeE
    omega

section
variable {H : Type} {enc : TypeId × Value → H} {w : World} {base : Nat} {spare : Nat → Bool} {held : Bool}
set_option maxRecDepth 100000 in
theorem open_entries {ao : Option Addr} {len cap fuel : Nat} {x : DataW H × List MemPlace} (h : DataW.trod enc Try.prog w base spare held fuel 23 [.slice ao len cap] = some x) :
    ∃ ps : List En, ps.length = len ∧ ElemsAt enShape w ao ps ∧ AllOk ps ∧ ps.length + bytesE ps ≤ Rows.uptoBulk x.1 ∧ (ao = none → cap = 0) ∧ len ≤ cap := by
  rcases open_slice Try.underlying23 h with ⟨hcs, hx⟩ | ⟨a, len', cap', m, n, D, Pl, hcs, hb, hl, hm, hmm, hx, hel⟩
  · simp at hcs
    obtain ⟨rfl, rfl, rfl⟩ := hcs
    exact ⟨[], rfl, .inl rfl, (fun p hp => by simp at hp), by simp [bytesE], fun _ => rfl, Nat.le_refl _⟩
  · simp at hcs
    obtain ⟨rfl, rfl, rfl⟩ := hcs
    have hlm : len ≤ m := by rw [hmm]; split <;> omega
    rw [cellsEn] at hel
    have each : ∀ i, i < len → ∃ p : En, p.ok ∧ D i = enData p ∧ w.cell? (a.add (i * 4)) = some (.string p.key) ∧ w.cell? (a.add (i * 4 + 1)) = some (.int .i64 p.seq) ∧ w.cell? (a.add (i * 4 + 2)) = some (.bool p.dead) ∧ w.cell? (a.add (i * 4 + 3)) = some (.string p.val) := by
      intro i hi
      obtain ⟨cs, hc, ht⟩ := hel i (by omega)
      obtain ⟨_, hlen, hcell⟩ := World.cells?_some hc
      obtain ⟨ys, n', _, hxy, _, hyl, hf⟩ := DataW.trod_struct Try.underlying44 ht
      match ys, hyl, cs, hlen with
      | [y0, y1, y2, y3], _, [v0, v1, v2, v3], _ =>
        have g0 := hf 0 _ rfl
        have g1 := hf 1 _ rfl
        have g2 := hf 2 _ rfl
        have g3 := hf 3 _ rfl
        simp [cellsInt, cellsString, cellsBool] at g0 g1 g2 g3
        obtain ⟨k, e0, rfl, w0⟩ := DataW.trod_string Try.underlying9 g0
        obtain ⟨u, e1, rfl, w1⟩ := DataW.trod_int Try.underlying3 g1
        obtain ⟨d, e2, rfl⟩ := DataW.trod_bool Try.underlying4 g2
        obtain ⟨s, e3, rfl, w3⟩ := DataW.trod_string Try.underlying9 g3
        simp at e0 e1 e2 e3
        subst e0 e1 e2 e3
        have b1 : -9223372036854775808 ≤ u ∧ u ≤ 9223372036854775807 := by simpa [Lit.wf, IntKind.min, IntKind.max, IntKind.signed, IntKind.bits] using w1
        have c0 := hcell 0 (by omega)
        have c1 := hcell 1 (by omega)
        have c2 := hcell 2 (by omega)
        have c3 := hcell 3 (by omega)
        rw [add_add] at c0 c1 c2 c3
        simp only [Prod.mk.injEq] at hxy
        exact ⟨⟨k, u, d, s⟩, b1, hxy.1, by simpa using c0, by simpa using c1, by simpa using c2, by simpa using c3⟩
    have : Inhabited En := ⟨En.zero⟩
    obtain ⟨q, hq⟩ := choose_lt each
    have hmap : x.1 = .slice (((List.range len).map q).map enData) ((List.range (m - len)).map fun j => D (len + j)) := by
      rw [hx, List.map_map]
      show DataW.slice _ _ = DataW.slice _ _
      rw [List.map_congr_left (g := enData ∘ q) fun j hj => (hq j (List.mem_range.1 hj)).2.1]
    refine ⟨(List.range len).map q, by simp, ?_, ?_, ?_, (fun h => by cases h), hl⟩
    · rcases Nat.eq_zero_or_pos len with h0 | h0
      · subst h0; exact .inl rfl
      · right
        obtain ⟨b, off, spot⟩ := a
        have hspot : spot = none := by simpa [Addr.add] using World.cell?_spot (hq 0 h0).2.2.1
        subst hspot
        refine ⟨b, off, rfl, World.block_lt_of_cell? w _ (hq 0 h0).2.2.1, fun i hi j u hu => ?_⟩
        rw [List.length_map, List.length_range] at hi
        have e : ((List.range len).map q)[i]'(by simpa using hi) = q i := by simp
        rw [e] at hu
        have := (hq i hi).2.2
        rw [add_plain, add_plain, add_plain, add_plain] at this
        match j, hu with
        | 0, hu => simp [enShape] at hu; subst hu; exact this.1
        | 1, hu => simp [enShape] at hu; subst hu; rw [Nat.add_assoc]; exact this.2.1
        | 2, hu => simp [enShape] at hu; subst hu; rw [Nat.add_assoc]; exact this.2.2.1
        | 3, hu => simp [enShape] at hu; subst hu; rw [Nat.add_assoc]; exact this.2.2.2
        | (t + 4), hu => simp [enShape] at hu
    · intro i hi
      obtain ⟨j, hj, rfl⟩ := List.mem_map.1 hi
      exact (hq j (List.mem_range.1 hj)).1
    · have h1 := bulk_ens (H := H) ((List.range len).map q)
      rw [hmap]
      simp only [Rows.uptoBulk]
      omega
end
end Go.Proofs.Ytedjohkdfchocaa.Mm
