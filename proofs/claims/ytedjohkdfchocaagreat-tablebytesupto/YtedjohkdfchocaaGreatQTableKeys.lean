/-
  The texts TableKeys.
-/
import Derived.Test.YtedjohkdfchocaaGreatQCmCompact
import Derived.Test.YtedjohkdfchocaaGreatQTableMath
import Derived.Laws.MakeOwn
import Derived.Lib.OwnBridge

/-
  Package table: 'keys' answers the versions' keys, each once.
-/
namespace Go.Proofs.YtedjohkdfchocaaGreat.Tb
open Go.RowKit Cm Mm Bk
set_option linter.unusedVariables false

def StrsAt (w : World) (g : Nat) (xs : List ByteArray) : Prop := w.heap[g]? = some (.cells (strVals xs).toArray 9 (0, 0))
section
variable {w w' : World} {g : Nat} {xs : List ByteArray}
theorem StrsAt.cell (h : StrsAt w g xs) {j : Nat} (hj : j < xs.length) : w.cell? ⟨g, j, none⟩ = some (.string (xs.getD j ByteArray.empty)) := by
  rw [Joins.cell_of_block h]
  simp [strVals, hj]
theorem StrsAt.frozen (h : StrsAt w g xs) (j : Nat) : w.frozen? ⟨g, j, none⟩ = false := Lib.frozen_of_heap h j
theorem StrsAt.set (h : StrsAt w g xs) (j : Nat) (s : ByteArray) : StrsAt (w.setCell ⟨g, j, none⟩ (.string s)) g (xs.set j s) := by
  unfold StrsAt at *
  rw [Joins.block_setCell h]
  simp [strVals, List.map_set]
theorem StrsAt.keep (h : StrsAt w g xs) (hb : w'.heap[g]? = w.heap[g]?) : StrsAt w' g xs := hb.trans h
end
def front (es : List En) (k : Nat) : List ByteArray := (List.range es.length).map fun i => if i < k then (es.getD i En.zero).key else ⟨#[]⟩
theorem front_len (es : List En) (k : Nat) : (front es k).length = es.length := by simp [front]
theorem front_zero (es : List En) : front es 0 = List.replicate es.length ⟨#[]⟩ := by
  unfold front
  apply List.ext_getElem
  · simp
  · intro i h1 h2
    simp
theorem front_next (es : List En) (k : Nat) (h : k < es.length) : (front es k).set k (es.getD k En.zero).key = front es (k + 1) := by
  apply List.ext_getElem
  · simp [front]
  · intro i h1 h2
    simp only [front, List.length_map, List.length_range] at h2
    rw [List.getElem_set]
    by_cases hik : k = i
    · subst hik
      rw [if_pos rfl]
      simp [front]
    · rw [if_neg hik]
      simp only [front, List.getElem_map, List.getElem_range]
      by_cases h3 : i < k
      · rw [if_pos h3, if_pos (by omega)]
      · rw [if_neg h3, if_neg (by omega)]
theorem front_all (es : List En) : front es es.length = (List.range es.length).map fun i => (es.getD i En.zero).key := by
  unfold front
  apply List.map_congr_left
  intro i hi
  rw [if_pos (by simpa using hi)]
theorem made_texts (n : Nat) : madeCells (Value.string ⟨#[]⟩).cells (n * 1) = (strVals (List.replicate n ⟨#[]⟩)).toArray := by
  unfold madeCells strVals
  apply Array.ext
  · simp
  · intro i h1 h2
    simp [Value.cells, Nat.mod_one]
def lists (es : List En) : List (List UInt8) := (List.range es.length).map fun i => bs (es.getD i En.zero).key
theorem lists_get (es : List En) {i : Nat} (h : i < es.length) : (lists es).toArray[i]! = bs (es.getD i En.zero).key := by
  have h' : i < (lists es).toArray.size := by simp [lists, h]
  rw [getElem!_pos _ i h']
  simp [lists]
theorem keeps_fresh (es : List En) {i : Nat} (h : i < es.length) : Lib.keeps (lists es).toArray i = fresh es i := by
  unfold Lib.keeps fresh
  rw [lists_get es h]
  by_cases h0 : i = 0
  · simp [h0]
  · rw [lists_get es (by omega)]
    have e : (bs (es.getD i En.zero).key ≠ bs (es.getD (i - 1) En.zero).key) ↔ ¬ (es.getD (i - 1) En.zero).key = (es.getD i En.zero).key := by
      constructor
      · intro hh e; exact hh (by rw [e])
      · intro hh e; exact hh (bs_inj e).symm
    simp only [h0, false_or, decide_false, Bool.false_or]
    by_cases hk : (es.getD (i - 1) En.zero).key = (es.getD i En.zero).key
    · rw [decide_eq_false (fun q => (e.1 q) hk), decide_eq_true hk]; rfl
    · rw [decide_eq_true (e.2 hk), decide_eq_false hk]; rfl
theorem compact_keys (es : List En) : Lib.compact (lists es) = (keysE es).map bs := by
  unfold Lib.compact Lib.compactUpTo keysE ks
  have hl : (lists es).length = es.length := by simp [lists]
  rw [hl, List.map_map]
  have hf : (List.range es.length).filter (Lib.keeps (lists es).toArray) = (List.range es.length).filter (fresh es) := by
    apply List.filter_congr
    intro i hi
    exact keeps_fresh es (by simpa using hi)
  rw [hf]
  apply List.map_congr_left
  intro i hi
  exact lists_get es (by simpa using (List.mem_filter.1 hi).1)
set_option maxRecDepth 100000 in
set_option maxHeartbeats 1000000 in
theorem keys_any (ao : Option Addr) (ca : Nat) (es : List En) (w : World) (hx : ElemsAt enShape w ao es) (hl : es.length ≤ 1000000000) :
    Calls Tryz.prog 18 #[.slice ao es.length ca] w fun e w' => (∃ ko kc, e = .returned (.slice ko (keysE es).length kc) ∧ CellsAt w' ko (strVals (keysE es))) ∧ Below w.heap.size w w' := by
  obtain ⟨i0, hi0, hz0, hz1, hz2⟩ := info_parts infoStr
  obtain ⟨N, hN⟩ : ∃ N, N = es.length := ⟨_, rfl⟩
  obtain ⟨Z, hZ⟩ : ∃ Z, Z = (strVals (List.replicate N ⟨#[]⟩)).toArray := ⟨_, rfl⟩
  have hmk : ∀ w : World, (Instr.makeSlice 52 (.int .i64 N) (.int .i64 N)).run Tryz.prog w = .ok (.slice (some ⟨w.heap.size, 0, none⟩) N N) (w.alloc (.cells Z 9)) := fun w => by
    have := run_make (P := Tryz.prog) w 52 9 i0 (.string ⟨#[]⟩) Tryz.underlying52 hi0 hz0 .i64 .i64 N N (by omega) (by omega) (by rw [hz2]; omega) (by omega)
    rw [hz1] at this
    simp only [Int.toNat_natCast, made_texts] at this
    rw [hZ]
    exact this
  have HZ : Hid (StrsAt (w.alloc (.cells Z 9)) w.heap.size (front es 0)) := by rw [hZ, hN, ← front_zero]; exact heap_alloc_new w _
  have HX : Hid (∀ X, Below w.heap.size w X → ElemsAt enShape X ao es) := fun X hb => hx.later hb
  clear hx hZ hi0 hz0 hz1 hz2
  have HN : Hid _ := hN
  rw [← hN]
  have hl' : N ≤ 1000000000 := by omega
  clear hN
  go_enter Tryz.func18, Tryz.ntmps18
  go_wp2
  clear hmk
  go_loopw [11] (fun i wr => ∃ k : Nat, k ≤ N ∧ i = .int .i64 k ∧ Hid (StrsAt wr w.heap.size (front es k)) ∧ Hid (Below w.heap.size w wr)) (fun i _ => N - (intOf i).toNat)
  case atStart => exact ⟨0, by omega, rfl, HZ, (Below.refl _ _).alloc (Nat.le_refl _) _⟩
  case round =>
    obtain ⟨k, hk, rfl, HS, HB⟩ := hrel
    by_cases hlt : k < N
    · have hke : k < es.length := by have := HN.out; omega
      obtain ⟨pb, off, rfl, c0, c1, c2, c3⟩ := elem_cells (HX.out wr HB.out) hke
      have HNX : Hid _ := front_next es k hke
      have HBn : Hid (∀ X, X = wr.alloc (entObj (es.getD k En.zero)) → StrsAt X w.heap.size (front es k) ∧ Below w.heap.size w X ∧ X.heap[wr.heap.size]? = some (entObj (es.getD k En.zero))) := fun X hX => by
        subst hX
        exact ⟨HS.out.keep (Below.heap_alloc _ _ _ (lt_of_block HS.out)), HB.out.alloc HB.out.size _, heap_alloc_new _ _⟩
      have hk0 : (0 : Int) ≤ (k : Int) := by omega
      have hk1 : (k : Int) < (N : Int) := by omega
      have hls := front_len es k
      have HLS : Hid (k < (front es k).length) := by show _ < _; omega
      clear hls HX
      generalize es.getD k En.zero = y at *
      unfold entObj at HBn
      obtain ⟨X, hX⟩ : ∃ X, X = wr.alloc (.cells #[.string y.key, .int .i64 y.seq, .bool y.dead, .string y.val] 25) := ⟨_, rfl⟩
      obtain ⟨q1, q2, q3⟩ := HBn.out X hX
      obtain ⟨n0, n1, n2, n3, _⟩ := ent_cells (e := y) q3
      have s0 := q1.cell HLS.out
      have s1 := q1.frozen k
      have HQ : Hid _ := And.intro q1 q2
      clear q1 q2 q3 HBn HS HB
      rw [hX] at n0 n1 n2 n3 s0 s1
      go_wp2
      rw [← hX]
      go_roundw
      case rel => exact ⟨k + 1, by omega, by go_num, (by show StrsAt _ _ _; rw [← HNX.out]; exact HQ.out.1.set k y.key), HQ.out.2.setCell (p := ⟨w.heap.size, k, none⟩) (Nat.le_refl _) _⟩
      case measure => simp [intOf]; omega
    · obtain rfl : k = N := by omega
      have HC : Hid (Calls Tryz.prog 47 #[.slice (some ⟨w.heap.size, 0, none⟩) k k] wr fun e w' => (∃ ko kc, e = .returned (.slice ko (keysE es).length kc) ∧ CellsAt w' ko (strVals (keysE es))) ∧ Below w.heap.size w w') := by
        have hke : k = es.length := HN.out
        have hll : (lists es).length = es.length := by simp [lists]
        have hS := HS.out
        rw [hke, front_all] at hS
        have hH : Go.Sort.Holds Go.Proofs.encStr wr w.heap.size 0 (lists es).toArray := fun j hj => by
          have hj' : j < es.length := by simpa [lists] using hj
          rw [lists_get es hj', Nat.zero_add]
          refine ⟨?_, hS.frozen j⟩
          rw [hS.cell (by simpa using hj')]
          simp [Go.Proofs.encStr, bs, hj']
        have h := Any.slices_Compact_string Tryz.lays194 w.heap.size 0 k (lists es) wr hH (by omega) (by omega)
        rw [hll, ← hke] at h
        refine h.mono ?_
        rintro e w' ⟨rfl, q, rfl⟩
        rw [compact_keys, List.length_map]
        refine ⟨⟨_, _, rfl, .inr ⟨w.heap.size, 0, rfl, ?_, fun j hj => ?_⟩⟩, Lib.below_putRow HB.out (Nat.le_refl _)⟩
        · rw [Go.Sort.size_putRow]; exact lt_of_block HS.out
        · have hkl : (keysE es).length ≤ k := by rw [hke]; exact ks_len es es.length
          have hj' : j < (keysE es).length := by simpa [strVals] using hj
          have hsz : ((keysE es).map bs ++ List.replicate (k - (keysE es).length) []).toArray.size = (lists es).toArray.size := by simp [hll]; omega
          have hc := Go.Sort.cell?_putRow Go.Proofs.encStr (Go.Sort.ahead wr q) w.heap.size 0 (lists es).toArray _ (Go.Sort.holds_ahead _ _ _ _ _ _ hH) hsz j (by simp; omega)
          rw [hc, getElem!_pos _ j (by simp; omega)]
          simp [strVals, hj', Go.Proofs.encStr, bs, List.getElem_append_left]
      clear HS HX HN HZ
      go_wp2_with fail
      refine (show Calls _ _ _ _ _ from HC.out).mono ?_
      rintro e w2 ⟨⟨ko, kc, rfl, hck⟩, hb2⟩
      go_wp2
      go_ret
      exact ⟨⟨_, _, rfl, hck⟩, hb2⟩
end Go.Proofs.YtedjohkdfchocaaGreat.Tb
