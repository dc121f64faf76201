/-
  The texts TableLayWalk, CmCompact, TableKeys, BloomHash, BloomMay, BloomBuild, TableBuild, joined.
-/
import Derived.Test.YtedjohkdfchocaaPart10
import Derived.Shelf.Lays
import Derived.Shelf.Slices.CompactS
import Derived.Laws.MakeOwn
import Derived.Lib.OwnBridge
import Derived.Lib.SmallJoins
import Derived.Handy
import Derived.Laws.Concat

/-
  Package table: the walk of 'lay'.
-/
namespace Go.Proofs.Ytedjohkdfchocaa.Tb
open Go.RowKit Cm Mm Bk
open Pk (WrAt Step enc enc_len text)
open Fr (framesB str sealed)
set_option linter.unusedVariables false

def LayAns (es : List En) (e : Ending) : Prop :=
  ((∀ x ∈ pays es, x.size ≤ 65536) ∧ e = .returned (.tuple #[.string (str (framesB (pays es))), .string (str (index es (nch es))), .int .i64 0])) ∨ ((¬ ∀ x ∈ pays es, x.size ≤ 65536) ∧ e = .returned (.tuple #[.string ⟨#[]⟩, .string ⟨#[]⟩, .int .i64 2]))
theorem pt_cells {w : World} {ao : Option Addr} {ps : List Part} (h : ElemsAt ptShape w ao ps) {k : Nat} (hk : k < ps.length) : ∃ pb off, ao = some ⟨pb, off, none⟩ ∧ w.cell? ⟨pb, off + k * 5, none⟩ = some (.string ps[k].pay) ∧ w.cell? ⟨pb, off + k * 5 + 1, none⟩ = some (.string ps[k].last.key) ∧ w.cell? ⟨pb, off + k * 5 + 2, none⟩ = some (.int .i64 ps[k].last.seq) ∧
    w.cell? ⟨pb, off + k * 5 + 3, none⟩ = some (.bool ps[k].last.dead) ∧ w.cell? ⟨pb, off + k * 5 + 4, none⟩ = some (.string ps[k].last.val) := by
  rcases h with h | ⟨b, off, e, _, hc⟩
  · subst h; cases hk
  · exact ⟨b, off, e, hc k hk 0 _ rfl, hc k hk 1 _ rfl, hc k hk 2 _ rfl, hc k hk 3 _ rfl, hc k hk 4 _ rfl⟩
theorem part_box {w : World} {g : Nat} {p : Part} (h : w.heap[g]? = some (ptObj p)) : w.cell? ⟨g, 0, none⟩ = some (.string p.pay) ∧ w.cell? ⟨g, 1, none⟩ = some (.string p.last.key) ∧ w.cell? ⟨g, 2, none⟩ = some (.int .i64 p.last.seq) ∧ w.cell? ⟨g, 3, none⟩ = some (.bool p.last.dead) ∧ w.cell? ⟨g, 4, none⟩ = some (.string p.last.val) := by
  unfold ptObj at h
  refine ⟨?_, ?_, ?_, ?_, ?_⟩ <;> rw [Joins.cell_of_block h] <;> rfl
set_option maxRecDepth 100000 in
set_option maxHeartbeats 1000000 in
theorem lay_any (ao : Option Addr) (ca : Nat) (es : List En) (w : World) (hx : ElemsAt ptShape w ao (parts es)) (hs : Small es) :
    Calls Try.prog 34 #[.slice ao (nch es) ca] w fun e w' => LayAns es e ∧ Below w.heap.size w w' := by
  have HX : Hid (∀ X, Below w.heap.size w X → ElemsAt ptShape X ao (parts es)) := fun X hb => hx.later hb
  have hn : nch es ≤ 1000000000 := by have := hs.few; unfold nch; omega
  have HSM : Hid (Small es) := hs
  have HPL : Hid (∀ k, k ≤ nch es → place es k ≤ 20000000000000 ∧ (index es k).length ≤ 20000000000000) := fun k hk => by
    have h1 := place_len es k hk
    have h2 := index_len es k hk
    have h3 := bytes_take es (8 * k)
    have h4 := hs.all
    have h5 : k ≤ 1000000000 := by omega
    omega
  clear hx hs
  have HL0 : Hid _ := ls_new w
  unfold buObj at HL0
  go_enter Try.func34, Try.ntmps34
  go_wp2_with fail
  refine (Pk.new_any _ 0 (Nat.zero_le _)).mono ?_
  rintro e w1 ⟨rfl, rfl⟩
  obtain ⟨W2, hW2⟩ : ∃ W2, W2 = (w.alloc (.cells #[.pointer none, .slice none 0 0] 106)).alloc (.cells #[.slice none 0 0] 144) := ⟨_, rfl⟩
  rw [← hW2] at HL0
  have HZ2 : Hid (W2.heap.size = w.heap.size + 2) := by show _ = _; rw [hW2]; simp
  have hP := put_num W2 (nch es) HL0.out.wr (by omega) (by simp) (by have := HZ2.out; omega)
  rw [HZ2.out] at hP
  have HP : Hid _ := hP
  clear hP
  go_wp2_with fail
  rw [← hW2]
  refine (show Calls _ _ _ _ _ from HP.out).mono ?_
  rintro e w3 ⟨rfl, r3, hw3, hs3⟩
  have HL3 : Hid (LS w [] (index es 0) none r3 w3) := by
    have := HL0.out.wput hs3 hw3
    rwa [List.nil_append, ← index_zero] at this
  clear hw3 hs3 HP HL0 HZ2 hW2
  go_wp2
  go_loopw [20] (fun i wr => ∃ (k : Nat) (r1 r2 : Option Nat), k ≤ nch es ∧ i = .int .i64 k ∧ Hid (∀ j, j < k → (blk es j).size ≤ 65536) ∧ Hid (LS w (framesB ((List.range k).map (blk es))) (index es k) r1 r2 wr)) (fun i _ => nch es - (intOf i).toNat)
  case atStart => exact ⟨0, none, r3, by omega, rfl, (fun j hj => by omega), by simpa [Hid, framesB] using HL3.out⟩
  case round =>
    obtain ⟨k, r1, r2, hk, rfl, HJ, HL⟩ := hrel
    by_cases hlt : k < nch es
    · have hkp : k < (parts es).length := by simp [parts]; exact hlt
      obtain ⟨pb, off, rfl, c0, c1, c2, c3, c4⟩ := pt_cells (HX.out wr HL.out.bel) hkp
      have hpk : (parts es)[k] = part es k := by simp [parts]
      rw [hpk] at c0 c1 c2 c3 c4
      have HQ : Hid (∀ X, Below wr.heap.size wr X → X.heap[wr.heap.size]? = some (ptObj (part es k)) → LS w (framesB ((List.range k).map (blk es))) (index es k) r1 r2 X ∧ X.cell? ⟨wr.heap.size, 0, none⟩ = some (.string (blk es k)) ∧ X.cell? ⟨wr.heap.size, 1, none⟩ = some (.string (lastE es k).key)) := fun X hX hb => ⟨HL.out.later hX, (part_box hb).1, (part_box hb).2.1⟩
      have HW : Hid (∀ X, X = wr.alloc (ptObj (part es k)) → Below wr.heap.size wr X ∧ X.heap[wr.heap.size]? = some (ptObj (part es k)) ∧ X.heap.size = wr.heap.size + 1) := fun X hX => by subst hX; exact ⟨(Below.refl _ _).alloc (Nat.le_refl _) _, heap_alloc_new _ _, by simp⟩
      have HKY : Hid ((lastE es k).key = lastK es k) := rfl
      have HSZ : Hid ((blk es k).size ≤ 100000000000000 ∧ (lastK es k).size ≤ 1000000000000) := by
        have h1 := (HSM.out.chunk k).all
        have h2 := (HSM.out.chunk k).each ((chunk es k).length - 1)
        exact ⟨by unfold blk; rw [Fr.str_size]; exact h1, h2.1⟩
      have hk0 : (0 : Int) ≤ (k : Int) := by omega
      have hk1 : (k : Int) < (nch es : Int) := by omega
      have HPK := HPL.out k (by omega)
      have HPK1 := HPL.out (k + 1) (by omega)
      have HPK' : Hid _ := And.intro HPK HPK1
      have HNL : Hid _ := index_succ es k
      have HBL : Hid _ := range_blk es k
      have HJN : Hid ((blk es k).size ≤ 65536 → ∀ j, j < k + 1 → (blk es j).size ≤ 65536) := fun h j hj => by
        rcases Nat.lt_or_ge j k with h1 | h1
        · exact HJ.out j h1
        · obtain rfl : j = k := by omega
          exact h
      have HNO : Hid (¬ (blk es k).size ≤ 65536 → ¬ ∀ x ∈ pays es, x.size ≤ 65536) := fun h q => h (q _ (List.mem_map.2 ⟨k, by simpa using hlt, rfl⟩))
      clear HPK HPK1 HX hpk hkp HSM
      unfold ptObj part at HQ HW
      unfold part at c0 c1 c2 c3 c4
      obtain ⟨X1, hX1⟩ : ∃ X1, X1 = wr.alloc (.cells #[.string (blk es k), .string (lastE es k).key, .int .i64 (lastE es k).seq, .bool (lastE es k).dead, .string (lastE es k).val] 103) := ⟨_, rfl⟩
      obtain ⟨q1, q2, q3⟩ := HW.out X1 hX1
      obtain ⟨q4, q5, q6⟩ := HQ.out X1 q1 q2
      have HS1 := Fr.seal_one (blk es k) X1 (by have := HSZ.out.1; omega)
      rw [q3] at HS1
      have HX1 : Hid (Below wr.heap.size wr X1 ∧ X1.heap[wr.heap.size]? = some (.cells #[.string (blk es k), .string (lastE es k).key, .int .i64 (lastE es k).seq, .bool (lastE es k).dead, .string (lastE es k).val] 103 (0, 0)) ∧ X1.heap.size = wr.heap.size + 1) := ⟨q1, q2, q3⟩
      have HB1 : Hid (Below w.heap.size w X1) := q4.bel
      rw [hX1] at q5 q6
      simp only at c0 c1 c2 c3 c4
      generalize lastE es k = y at *
      clear q1 q2 q3 q4 HW
      by_cases hsm : (blk es k).size ≤ 65536
      · have HSL : Hid (sealed [blk es k] = .tuple #[.string (str (framesB [blk es k])), .int .i64 0]) := Fr.sealed_ok (by simpa using hsm)
        rw [HSL.out] at HS1
        have HJ1 : Hid _ := HJN.out hsm
        clear HJN HNO hsm HSL HJ
        have HS1' : Hid _ := HS1
        clear HS1
        go_wp2_with fail
        rw [← hX1]
        refine (show Calls _ _ _ _ _ from HS1'.out).mono ?_
        rintro e X2 ⟨rfl, hb2⟩
        have hb2' : Below wr.heap.size wr X2 := HX1.out.1.trans (hb2.mono (by have := HX1.out.2.2; omega))
        obtain ⟨hl2, _, d1⟩ := HQ.out X2 hb2' ((hb2.block _ (by have := HX1.out.2.2; omega)).trans HX1.out.2.1)
        have HL2 : Hid _ := hl2
        have HT : Hid _ := put_text X2 y.key hl2.wr (by have := HPK'.out; have := HSZ.out.2; have := HKY.out; rw [this]; omega) hl2.bel.size
        clear hl2 hb2 hb2' HQ HS1' HX1 HB1 hX1 q5 q6 c0 c1 c2 c3 c4 HL
        go_wp2_with fail
        refine (show Calls _ _ _ _ _ from HT.out).mono ?_
        rintro e X3 ⟨rfl, r4, hw4, hs4⟩
        have hl3 := HL2.out.wput hs4 hw4
        have HL3' : Hid _ := hl3
        have HLen : Hid _ := len_any w.heap.size w.heap.size r1 _ X3 hl3.bu
        have HN : Hid _ := put_num X3 (place es k) hl3.wr (by have := HPK'.out; omega) (by
          have h1 := HPK'.out
          have h2 := (text_len (bs y.key)).1
          have h3 := HSZ.out.2
          have h4 := HKY.out
          have h5 : y.key.size = (lastK es k).size := by rw [h4]
          rw [bs_len] at h2
          rw [List.length_append]
          omega) hl3.bel.size
        have hpl : (framesB ((List.range k).map (blk es))).length = place es k := rfl
        rw [hpl] at HLen
        have hpb : place es k ≤ 20000000000000 := HPK'.out.1.1
        clear hl3 hw4 hs4 HT HL2 hpl d1
        go_wp2_with (go_at_call 60; refine (show Calls _ _ _ _ _ from HLen.out).mono ?_; rintro e X3' ⟨rfl, rfl⟩)
        refine (show Calls _ _ _ _ _ from HN.out).mono ?_
        rintro e X4 ⟨rfl, r5, hw5, hs5⟩
        have hl4 := HL3'.out.wput hs5 hw5
        have HL4 : Hid _ := hl4
        have HWr : Hid _ := write_any w.heap.size w.heap.size r1 _ (str (framesB [blk es k])) X4 hl4.bu (by
          have h1 := HPK'.out
          have h2 : place es (k + 1) = place es k + (framesB [blk es k]).length := by
            unfold place
            rw [HBL.out, framesB_snoc1, List.length_append]
          have h3 : (framesB ((List.range k).map (blk es))).length = place es k := rfl
          rw [h3, Fr.str_size]
          omega) hl4.bel.size
        clear hl4 hw5 hs5 HN HL3' HLen
        go_wp2_with fail
        refine (show Calls _ _ _ _ _ from HWr.out).mono ?_
        rintro e X5 ⟨rfl, r6, hb6, hs6⟩
        have HL5 : Hid (LS w (framesB ((List.range (k + 1)).map (blk es))) (index es (k + 1)) r6 r5 X5) := by
          have h := HL4.out.bput hs6 hb6
          show LS w _ _ _ _ _
          rw [HBL.out, framesB_snoc1, HNL.out, ← HKY.out]
          rw [Fr.str_data] at h
          exact h
        clear hb6 hs6 HWr HL4
        go_wp2
        go_roundw
        case rel => exact ⟨k + 1, r6, r5, by omega, by go_num, HJ1, HL5⟩
        case measure => simp [intOf]; omega
      · have HSL : Hid (sealed [blk es k] = .tuple #[.string ⟨#[]⟩, .int .i64 2]) := Fr.sealed_long (by simpa using hsm)
        rw [HSL.out] at HS1
        have HN1 : Hid _ := HNO.out hsm
        clear HJN HNO hsm HSL HJ
        have HS1' : Hid _ := HS1
        clear HS1
        go_wp2_with fail
        rw [← hX1]
        refine (show Calls _ _ _ _ _ from HS1'.out).mono ?_
        rintro e X2 ⟨rfl, hb2⟩
        have HB2 : Hid (Below w.heap.size w X2) := HB1.out.trans (hb2.mono (by have h1 := HB1.out.size; have h2 := HX1.out.2.2; omega))
        clear hb2 HQ HS1' HX1 HB1 hX1 q5 q6 c0 c1 c2 c3 c4 HL
        go_wp2
        refine bodyPost_ret (v := .tuple #[.string ⟨#[]⟩, .string ⟨#[]⟩, .int .i64 2]) (by simp [results, Try.results34, go_sem]) rfl ?_
        exact ⟨.inr ⟨HN1.out, rfl⟩, HB2.out⟩
    · obtain rfl : k = nch es := by omega
      have HALL : Hid (∀ x ∈ pays es, x.size ≤ 65536) := fun x hx => by
        obtain ⟨j, hj, rfl⟩ := List.mem_map.1 hx
        exact HJ.out j (by simpa using hj)
      have hpb := (HPL.out (nch es) (Nat.le_refl _)).1
      have HST : Hid _ := string_any w.heap.size w.heap.size r1 _ wr HL.out.bu (by have h3 : (framesB ((List.range (nch es)).map (blk es))).length = place es (nch es) := rfl; rw [h3]; omega)
      clear HJ HX HSM HPL HL3 hpb
      go_wp2_with fail
      refine (show Calls _ _ _ _ _ from HST.out).mono ?_
      rintro e X2 ⟨rfl, hr2⟩
      obtain ⟨hw2, hb2⟩ := HL.out.drop hr2
      have HBY : Hid _ := Pk.wBytes_any w.heap.size (w.heap.size + 1) r2 _ X2 hw2
      have HB2 : Hid _ := hb2
      clear hr2 hw2 hb2 HST HL
      go_wp2_with fail
      refine (show Calls _ _ _ _ _ from HBY.out).mono ?_
      rintro e X3 ⟨rfl, rfl⟩
      clear HBY
      go_wp2
      refine bodyPost_ret (v := .tuple #[.string (str (framesB (pays es))), .string (str (index es (nch es))), .int .i64 0]) (by simp [results, Try.results34, go_sem]; exact ⟨rfl, rfl⟩) rfl ?_
      exact ⟨.inl ⟨HALL.out, rfl⟩, HB2.out⟩
end Go.Proofs.Ytedjohkdfchocaa.Tb

/-
  The library's slices.Compact of texts, by its contract of the shelf, laid at this translation.
-/
namespace Go.Proofs
open Go.Shelf
def Try.lays194_ren : Go.Shelf.Ren := ⟨fun | 194 => 67 | n => n, fun | 31 => 24 | 9 => 9 | 3 => 3 | 4 => 4 | 0 => 0 | n => n, fun | n => n⟩
theorem Try.lays194 : Go.Proofs.Lays.n194 Try.prog Try.lays194_ren := {
  mixed := by kernel_rfl
  f194 := Try.func67.trans (congrArg some (by kernel_rfl))
  t0 := Try.underlying0
  a0 := Try.isAgg0
  z0 := Try.sizeOf0
  v0 := Try.zeroValue0
  t3 := Try.underlying3
  a3 := Try.isAgg3
  z3 := Try.sizeOf3
  v3 := Try.zeroValue3
  t4 := Try.underlying4
  a4 := Try.isAgg4
  z4 := Try.sizeOf4
  v4 := Try.zeroValue4
  t9 := Try.underlying9
  a9 := Try.isAgg9
  z9 := Try.sizeOf9
  v9 := Try.zeroValue9
  t31 := Try.underlying24
  a31 := Try.isAgg24
  z31 := Try.sizeOf24
  v31 := Try.zeroValue24 }
end Go.Proofs

/-
  Package table: 'keys' answers the versions' keys, each once.
-/
namespace Go.Proofs.Ytedjohkdfchocaa.Tb
open Go.RowKit Cm Mm Bk
set_option linter.unusedVariables false

def StrsAt (w : World) (g : Nat) (xs : List ByteArray) : Prop := w.heap[g]? = some (.cells (strVals xs).toArray 9 (0, 0))
section
variable {w w' : World} {g : Nat} {xs : List ByteArray}
theorem StrsAt.cell (h : StrsAt w g xs) {j : Nat} (hj : j < xs.length) : w.cell? ⟨g, j, none⟩ = some (.string (xs.getD j ByteArray.empty)) := by
  rw [Joins.cell_of_block h]
  simp [strVals, hj]
theorem StrsAt.frozen (h : StrsAt w g xs) (j : Nat) : w.frozen? ⟨g, j, none⟩ = false := Lib.frozen_of_heap h j
theorem StrsAt.set (h : StrsAt w g xs) (j : Nat) (s : ByteArray) : StrsAt (w.setCell ⟨g, j, none⟩ (.string s)) g (xs.set j s) := by
  unfold StrsAt at *
  rw [Joins.block_setCell h]
  simp [strVals, List.map_set]
theorem StrsAt.keep (h : StrsAt w g xs) (hb : w'.heap[g]? = w.heap[g]?) : StrsAt w' g xs := hb.trans h
end
def front (es : List En) (k : Nat) : List ByteArray := (List.range es.length).map fun i => if i < k then (es.getD i En.zero).key else ⟨#[]⟩
theorem front_len (es : List En) (k : Nat) : (front es k).length = es.length := by simp [front]
theorem front_zero (es : List En) : front es 0 = List.replicate es.length ⟨#[]⟩ := by
  unfold front
  apply List.ext_getElem
  · simp
  · intro i h1 h2
    simp
theorem front_next (es : List En) (k : Nat) (h : k < es.length) : (front es k).set k (es.getD k En.zero).key = front es (k + 1) := by
  apply List.ext_getElem
  · simp [front]
  · intro i h1 h2
    simp only [front, List.length_map, List.length_range] at h2
    rw [List.getElem_set]
    by_cases hik : k = i
    · subst hik
      rw [if_pos rfl]
      simp [front]
    · rw [if_neg hik]
      simp only [front, List.getElem_map, List.getElem_range]
      by_cases h3 : i < k
      · rw [if_pos h3, if_pos (by omega)]
      · rw [if_neg h3, if_neg (by omega)]
theorem front_all (es : List En) : front es es.length = (List.range es.length).map fun i => (es.getD i En.zero).key := by
  unfold front
  apply List.map_congr_left
  intro i hi
  rw [if_pos (by simpa using hi)]
theorem made_texts (n : Nat) : madeCells (Value.string ⟨#[]⟩).cells (n * 1) = (strVals (List.replicate n ⟨#[]⟩)).toArray := by
  unfold madeCells strVals
  apply Array.ext
  · simp
  · intro i h1 h2
    simp [Value.cells, Nat.mod_one]
def lists (es : List En) : List (List UInt8) := (List.range es.length).map fun i => bs (es.getD i En.zero).key
theorem lists_get (es : List En) {i : Nat} (h : i < es.length) : (lists es).toArray[i]! = bs (es.getD i En.zero).key := by
  have h' : i < (lists es).toArray.size := by simp [lists, h]
  rw [getElem!_pos _ i h']
  simp [lists]
theorem keeps_fresh (es : List En) {i : Nat} (h : i < es.length) : Lib.keeps (lists es).toArray i = fresh es i := by
  unfold Lib.keeps fresh
  rw [lists_get es h]
  by_cases h0 : i = 0
  · simp [h0]
  · rw [lists_get es (by omega)]
    have e : (bs (es.getD i En.zero).key ≠ bs (es.getD (i - 1) En.zero).key) ↔ ¬ (es.getD (i - 1) En.zero).key = (es.getD i En.zero).key := by
      constructor
      · intro hh e; exact hh (by rw [e])
      · intro hh e; exact hh (bs_inj e).symm
    simp only [h0, false_or, decide_false, Bool.false_or]
    by_cases hk : (es.getD (i - 1) En.zero).key = (es.getD i En.zero).key
    · rw [decide_eq_false (fun q => (e.1 q) hk), decide_eq_true hk]; rfl
    · rw [decide_eq_true (e.2 hk), decide_eq_false hk]; rfl
theorem compact_keys (es : List En) : Lib.compact (lists es) = (keysE es).map bs := by
  unfold Lib.compact Lib.compactUpTo keysE ks
  have hl : (lists es).length = es.length := by simp [lists]
  rw [hl, List.map_map]
  have hf : (List.range es.length).filter (Lib.keeps (lists es).toArray) = (List.range es.length).filter (fresh es) := by
    apply List.filter_congr
    intro i hi
    exact keeps_fresh es (by simpa using hi)
  rw [hf]
  apply List.map_congr_left
  intro i hi
  exact lists_get es (by simpa using (List.mem_filter.1 hi).1)
set_option maxRecDepth 100000 in
set_option maxHeartbeats 1000000 in
theorem keys_any (ao : Option Addr) (ca : Nat) (es : List En) (w : World) (hx : ElemsAt enShape w ao es) (hl : es.length ≤ 1000000000) :
    Calls Try.prog 37 #[.slice ao es.length ca] w fun e w' => (∃ ko kc, e = .returned (.slice ko (keysE es).length kc) ∧ CellsAt w' ko (strVals (keysE es))) ∧ Below w.heap.size w w' := by
  obtain ⟨i0, hi0, hz0, hz1, hz2⟩ := info_parts infoStr
  obtain ⟨N, hN⟩ : ∃ N, N = es.length := ⟨_, rfl⟩
  obtain ⟨Z, hZ⟩ : ∃ Z, Z = (strVals (List.replicate N ⟨#[]⟩)).toArray := ⟨_, rfl⟩
  have hmk : ∀ w : World, (Instr.makeSlice 24 (.int .i64 N) (.int .i64 N)).run Try.prog w = .ok (.slice (some ⟨w.heap.size, 0, none⟩) N N) (w.alloc (.cells Z 9)) := fun w => by
    have := run_make (P := Try.prog) w 24 9 i0 (.string ⟨#[]⟩) Try.underlying24 hi0 hz0 .i64 .i64 N N (by omega) (by omega) (by rw [hz2]; omega) (by omega)
    rw [hz1] at this
    simp only [Int.toNat_natCast, made_texts] at this
    rw [hZ]
    exact this
  have HZ : Hid (StrsAt (w.alloc (.cells Z 9)) w.heap.size (front es 0)) := by rw [hZ, hN, ← front_zero]; exact heap_alloc_new w _
  have HX : Hid (∀ X, Below w.heap.size w X → ElemsAt enShape X ao es) := fun X hb => hx.later hb
  clear hx hZ hi0 hz0 hz1 hz2
  have HN : Hid _ := hN
  rw [← hN]
  have hl' : N ≤ 1000000000 := by omega
  clear hN
  go_enter Try.func37, Try.ntmps37
  go_wp2
  clear hmk
  go_loopw [11] (fun i wr => ∃ k : Nat, k ≤ N ∧ i = .int .i64 k ∧ Hid (StrsAt wr w.heap.size (front es k)) ∧ Hid (Below w.heap.size w wr)) (fun i _ => N - (intOf i).toNat)
  case atStart => exact ⟨0, by omega, rfl, HZ, (Below.refl _ _).alloc (Nat.le_refl _) _⟩
  case round =>
    obtain ⟨k, hk, rfl, HS, HB⟩ := hrel
    by_cases hlt : k < N
    · have hke : k < es.length := by have := HN.out; omega
      obtain ⟨pb, off, rfl, c0, c1, c2, c3⟩ := elem_cells (HX.out wr HB.out) hke
      have HNX : Hid _ := front_next es k hke
      have HBn : Hid (∀ X, X = wr.alloc (entObj (es.getD k En.zero)) → StrsAt X w.heap.size (front es k) ∧ Below w.heap.size w X ∧ X.heap[wr.heap.size]? = some (entObj (es.getD k En.zero))) := fun X hX => by
        subst hX
        exact ⟨HS.out.keep (Below.heap_alloc _ _ _ (lt_of_block HS.out)), HB.out.alloc HB.out.size _, heap_alloc_new _ _⟩
      have hk0 : (0 : Int) ≤ (k : Int) := by omega
      have hk1 : (k : Int) < (N : Int) := by omega
      have hls := front_len es k
      have HLS : Hid (k < (front es k).length) := by show _ < _; omega
      clear hls HX
      generalize es.getD k En.zero = y at *
      unfold entObj at HBn
      obtain ⟨X, hX⟩ : ∃ X, X = wr.alloc (.cells #[.string y.key, .int .i64 y.seq, .bool y.dead, .string y.val] 44) := ⟨_, rfl⟩
      obtain ⟨q1, q2, q3⟩ := HBn.out X hX
      obtain ⟨n0, n1, n2, n3, _⟩ := ent_cells (e := y) q3
      have s0 := q1.cell HLS.out
      have s1 := q1.frozen k
      have HQ : Hid _ := And.intro q1 q2
      clear q1 q2 q3 HBn HS HB
      rw [hX] at n0 n1 n2 n3 s0 s1
      go_wp2
      rw [← hX]
      go_roundw
      case rel => exact ⟨k + 1, by omega, by go_num, (by show StrsAt _ _ _; rw [← HNX.out]; exact HQ.out.1.set k y.key), HQ.out.2.setCell (p := ⟨w.heap.size, k, none⟩) (Nat.le_refl _) _⟩
      case measure => simp [intOf]; omega
    · obtain rfl : k = N := by omega
      have HC : Hid (Calls Try.prog 67 #[.slice (some ⟨w.heap.size, 0, none⟩) k k] wr fun e w' => (∃ ko kc, e = .returned (.slice ko (keysE es).length kc) ∧ CellsAt w' ko (strVals (keysE es))) ∧ Below w.heap.size w w') := by
        have hke : k = es.length := HN.out
        have hll : (lists es).length = es.length := by simp [lists]
        have hS := HS.out
        rw [hke, front_all] at hS
        have hH : Go.Sort.Holds Go.Proofs.encStr wr w.heap.size 0 (lists es).toArray := fun j hj => by
          have hj' : j < es.length := by simpa [lists] using hj
          rw [lists_get es hj', Nat.zero_add]
          refine ⟨?_, hS.frozen j⟩
          rw [hS.cell (by simpa using hj')]
          simp [Go.Proofs.encStr, bs, hj']
        have h := Any.slices_Compact_string Try.lays194 w.heap.size 0 k (lists es) wr hH (by omega) (by omega)
        rw [hll, ← hke] at h
        refine h.mono ?_
        rintro e w' ⟨rfl, q, rfl⟩
        rw [compact_keys, List.length_map]
        refine ⟨⟨_, _, rfl, .inr ⟨w.heap.size, 0, rfl, ?_, fun j hj => ?_⟩⟩, Lib.below_putRow HB.out (Nat.le_refl _)⟩
        · rw [Go.Sort.size_putRow]; exact lt_of_block HS.out
        · have hkl : (keysE es).length ≤ k := by rw [hke]; exact ks_len es es.length
          have hj' : j < (keysE es).length := by simpa [strVals] using hj
          have hsz : ((keysE es).map bs ++ List.replicate (k - (keysE es).length) []).toArray.size = (lists es).toArray.size := by simp [hll]; omega
          have hc := Go.Sort.cell?_putRow Go.Proofs.encStr (Go.Sort.ahead wr q) w.heap.size 0 (lists es).toArray _ (Go.Sort.holds_ahead _ _ _ _ _ _ hH) hsz j (by simp; omega)
          rw [hc, getElem!_pos _ j (by simp; omega)]
          simp [strVals, hj', Go.Proofs.encStr, bs, List.getElem_append_left]
      clear HS HX HN HZ
      go_wp2_with fail
      refine (show Calls _ _ _ _ _ from HC.out).mono ?_
      rintro e w2 ⟨⟨ko, kc, rfl, hck⟩, hb2⟩
      go_wp2
      go_ret
      exact ⟨⟨_, _, rfl, hck⟩, hb2⟩
end Go.Proofs.Ytedjohkdfchocaa.Tb

/-
  Package bloom: the hash of a key, its probes.
-/
namespace Go.Proofs.Ytedjohkdfchocaa.Bl
open Go.RowKit Cm
set_option linter.unusedVariables false

theorem wrap_u64 (n : Nat) : IntKind.u64.wrap (n : Int) = ((n % 18446744073709551616 : Nat) : Int) := by
  simp [IntKind.wrap, IntKind.bits, IntKind.signed]
theorem feed_run (m : Nat) (hm : m < 18446744073709551616) (c : UInt8) : IntKind.u64.wrap (bits .xor .u64 (m : Int) (IntKind.u64.wrap (c.toNat : Int)) * 1099511628211) = ((feed m c : Nat) : Int) := by
  have h := c.toNat_lt
  rw [wrap_u64, Nat.mod_eq_of_lt (by omega), u64_xor_nat m c.toNat hm (by omega)]
  unfold feed
  rw [← wrap_u64]
  congr 1

set_option maxHeartbeats 1000000 in
theorem hash_any (s : ByteArray) (hs : s.size ≤ 9223372036854775807) (w : World) :
    Calls Try.prog 89 #[.string s] w fun e w' => e = .returned (.int .u64 (hash s : Nat)) ∧ w' = w := by
  go_enter Try.func89, Try.ntmps89
  go_wp2
  go_loop [3, 7] (fun rv i => ∃ k m : Nat, k ≤ s.size ∧ i = .int .i64 k ∧ rv = .int .u64 m ∧ m < 18446744073709551616 ∧ Hid (m = run 14695981039346656037 (s.data.toList.take k))) (fun _ i => s.size - (intOf i).toNat)
  case atStart => exact ⟨0, 14695981039346656037, by omega, rfl, rfl, by omega, hid_rfl⟩
  case round =>
    obtain ⟨k, m, hk, rfl, rfl, hm, HM⟩ := hrel
    by_cases hlt : k < s.size
    · have HF := run_bytes 14695981039346656037 s k hlt
      rw [← HM.out] at HF
      have HF0 : Hid _ := HF
      have hfl := feed_lt m s[k]
      clear HF
      have HE : Hid _ := feed_run m hm s[k]
      generalize hcj : s[k] = c at *
      generalize feed m c = F at *
      go_wp2
      go_round
      case rel => exact ⟨k + 1, F, by omega, by go_num, by rw [HE.out], hfl, HF0⟩
      case measure => simp [intOf]; omega
    · have hk' : k = s.size := by omega
      subst hk'
      have HM2 : Hid (m = hash s) := by rw [HM.out, List.take_of_length_le (by simp)]; exact hid_rfl
      go_wp2
      go_ret
      rw [← HM2.out]
      exact ⟨rfl, rfl⟩

theorem and_low (h : Nat) (hh : h < 18446744073709551616) : bits .and .u64 (h : Int) 4294967295 = ((h % 4294967296 : Nat) : Int) := by
  have := u64_and_nat h 4294967295 hh (by omega)
  rw [show ((4294967295 : Nat) : Int) = 4294967295 from rfl] at this
  rw [this, show 4294967295 = 2 ^ 32 - 1 from rfl, Nat.and_two_pow_sub_one_eq_mod]
theorem or_high (h : Nat) (hh : h < 18446744073709551616) : bits .or .u64 ((h : Int) / 4294967296) 1 = ((odd (h / 4294967296) : Nat) : Int) := by
  have := u64_or_nat (h / 4294967296) 1 (by omega) (by omega)
  rw [or_one] at this
  rw [← this]
  congr 1
def arr (a b c d : Nat) : Obj := .cells #[.int .u64 a, .int .u64 b, .int .u64 c, .int .u64 d] 119
def probesV (h m : Nat) : Value := .agg #[.int .u64 (probe h 0 m : Nat), .int .u64 (probe h 1 m : Nat), .int .u64 (probe h 2 m : Nat), .int .u64 (probe h 3 m : Nat)]
set_option maxHeartbeats 1000000 in
theorem probes_any (s : ByteArray) (hs : s.size ≤ 9223372036854775807) (n : Nat) (hn : 0 < n) (hn2 : n ≤ 1152921504606846975) (w : World) :
    Calls Try.prog 66 #[.string s, .int .i64 n] w fun e w' => e = .returned (probesV (hash s) (8 * n)) ∧ Below w.heap.size w w' := by
  have HC : Hid (∀ w : World, Calls Try.prog 89 #[.string s] w fun e w' => e = .returned (.int .u64 (hash s : Nat)) ∧ w' = w) := hash_any s hs
  have hh := hash_lt s
  generalize hash s = h at *
  have ha := and_low h hh
  have hb := or_high h hh
  have hal : h % 4294967296 < 4294967296 := by omega
  have hbl : odd (h / 4294967296) < 4294967296 := odd_lt (by omega)
  have H0 : Hid (probe h 0 (8 * n) = (h % 4294967296 + 0 * odd (h / 4294967296)) % (8 * n)) := rfl
  have H1 : Hid (probe h 1 (8 * n) = (h % 4294967296 + 1 * odd (h / 4294967296)) % (8 * n)) := rfl
  have H2 : Hid (probe h 2 (8 * n) = (h % 4294967296 + 2 * odd (h / 4294967296)) % (8 * n)) := rfl
  have H3 : Hid (probe h 3 (8 * n) = (h % 4294967296 + 3 * odd (h / 4294967296)) % (8 * n)) := rfl
  generalize h % 4294967296 = a at *
  generalize odd (h / 4294967296) = b at *
  unfold probesV
  generalize probe h 0 (8 * n) = p0 at *
  generalize probe h 1 (8 * n) = p1 at *
  generalize probe h 2 (8 * n) = p2 at *
  generalize probe h 3 (8 * n) = p3 at *
  go_enter Try.func66, Try.ntmps66
  go_wp2_with fail
  refine (HC.out _).mono ?_
  rintro e w1 ⟨rfl, rfl⟩
  go_wp2
  go_loopw [17] (fun i wr => ∃ k : Nat, i = .int .i64 k ∧ Hid ((k = 0 ∧ wr = (w.alloc (arr 0 0 0 0)).alloc (arr 0 0 0 0)) ∨ (k = 1 ∧ wr = (w.alloc (arr 0 0 0 0)).alloc (arr p0 0 0 0)) ∨ (k = 2 ∧ wr = (w.alloc (arr 0 0 0 0)).alloc (arr p0 p1 0 0)) ∨ (k = 3 ∧ wr = (w.alloc (arr 0 0 0 0)).alloc (arr p0 p1 p2 0)) ∨ (k = 4 ∧ wr = (w.alloc (arr 0 0 0 0)).alloc (arr p0 p1 p2 p3)))) (fun i _ => 4 - (intOf i).toNat)
  case atStart => exact ⟨0, rfl, .inl ⟨rfl, rfl⟩⟩
  case round =>
    obtain ⟨k, rfl, HW⟩ := hrel
    rcases HW.out with ⟨rfl, rfl⟩ | ⟨rfl, rfl⟩ | ⟨rfl, rfl⟩ | ⟨rfl, rfl⟩ | ⟨rfl, rfl⟩
    · clear HW
      unfold arr
      go_wp2
      go_roundw
      case rel => exact ⟨1, rfl, .inr (.inl ⟨rfl, by simp [H0.out]⟩)⟩
      case measure => simp [intOf]
    · clear HW
      unfold arr
      go_wp2
      go_roundw
      case rel => exact ⟨2, rfl, .inr (.inr (.inl ⟨rfl, by simp [H1.out]⟩))⟩
      case measure => simp [intOf]
    · clear HW
      unfold arr
      go_wp2
      go_roundw
      case rel => exact ⟨3, rfl, .inr (.inr (.inr (.inl ⟨rfl, by simp [H2.out]⟩)))⟩
      case measure => simp [intOf]
    · clear HW
      unfold arr
      go_wp2
      go_roundw
      case rel => exact ⟨4, rfl, .inr (.inr (.inr (.inr (⟨rfl, by simp [H3.out]⟩))))⟩
      case measure => simp [intOf]
    · clear HW
      unfold arr
      go_wp2
      go_returns
      exact ⟨rfl, ((Below.refl _ _).alloc (Nat.le_refl _) _).alloc (by simp) _⟩

end Go.Proofs.Ytedjohkdfchocaa.Bl

/-
  Package bloom: what a filter says of a key.
-/
namespace Go.Proofs.Ytedjohkdfchocaa.Bl
open Go.RowKit Cm
set_option linter.unusedVariables false

theorem idx0 (a b c d : Nat) (w : World) : (Instr.index 119 (.agg #[.int .u64 a, .int .u64 b, .int .u64 c, .int .u64 d]) (.int .i64 0)).run Try.prog w = .ok (.int .u64 a) w := by kernel_rfl
theorem idx1 (a b c d : Nat) (w : World) : (Instr.index 119 (.agg #[.int .u64 a, .int .u64 b, .int .u64 c, .int .u64 d]) (.int .i64 1)).run Try.prog w = .ok (.int .u64 b) w := by kernel_rfl
theorem idx2 (a b c d : Nat) (w : World) : (Instr.index 119 (.agg #[.int .u64 a, .int .u64 b, .int .u64 c, .int .u64 d]) (.int .i64 2)).run Try.prog w = .ok (.int .u64 c) w := by kernel_rfl
theorem idx3 (a b c d : Nat) (w : World) : (Instr.index 119 (.agg #[.int .u64 a, .int .u64 b, .int .u64 c, .int .u64 d]) (.int .i64 3)).run Try.prog w = .ok (.int .u64 d) w := by kernel_rfl

theorem test_bit (f : ByteArray) (p : Nat) (h : p / 8 < f.size) : (bits .and .u8 ((f[p / 8].toNat : Int) / 2 ^ (p % 8)) 1 == 0) = !(bitAt f.data.toList p) := by
  have e : f.data.toList.getD (p / 8) 0 = f[p / 8] := by
    rw [getD_lt _ _ _ (by simpa using h)]
    rfl
  unfold bitAt
  rw [e]
  have hx := f[p / 8].toNat_lt
  generalize f[p / 8].toNat = x at *
  generalize p % 8 = k
  have h2 : ((x : Int) / 2 ^ k) = ((x / 2 ^ k : Nat) : Int) := by simp
  have hle : x / 2 ^ k ≤ x := Nat.div_le_self _ _
  have := u8_and_nat (x / 2 ^ k) 1 (by omega) (by omega)
  rw [show ((1 : Nat) : Int) = 1 from rfl] at this
  rw [h2, this, Nat.and_one_is_mod, Nat.testBit_eq_decide_div_mod_eq]
  rcases Nat.mod_two_eq_zero_or_one (x / 2 ^ k) with h | h <;> rw [h] <;> decide

set_option maxHeartbeats 1000000 in
theorem may_any (f s : ByteArray) (hs : s.size ≤ 9223372036854775807) (hf : f.size ≤ 1152921504606846975) (w : World) :
    Calls Try.prog 46 #[.string f, .string s] w fun e w' => e = .returned (.bool (may f.data.toList s)) ∧ Below w.heap.size w w' := by
  by_cases h0 : f.size = 0
  · have he : f = ByteArray.empty := by
      apply ByteArray.ext; apply Array.ext'; apply List.eq_nil_of_length_eq_zero; rw [← Lib.size_eq]; exact h0
    subst he
    have hq : may ByteArray.empty.data.toList s = false := by unfold may; rfl
    rw [hq]
    clear hq
    go_enter Try.func46, Try.ntmps46
    go_wp2
    go_ret
    exact ⟨rfl, Below.refl _ _⟩
  have hp : 0 < f.size := by omega
  have HC : Hid (∀ w : World, Calls Try.prog 66 #[.string s, .int .i64 f.size] w fun e w' => e = .returned (probesV (hash s) (8 * f.size)) ∧ Below w.heap.size w w') := probes_any s hs f.size hp hf
  unfold probesV at HC
  have hne : f.toList.isEmpty = false := by
    rw [ByteArray.toList_eq]
    rw [Lib.size_eq] at hp
    cases hl : f.data.toList with
    | nil => rw [hl] at hp; simp at hp
    | cons => rfl
  have l0 := probe_lt (hash s) 0 (m := 8 * f.size) (by omega)
  have l1 := probe_lt (hash s) 1 (m := 8 * f.size) (by omega)
  have l2 := probe_lt (hash s) 2 (m := 8 * f.size) (by omega)
  have l3 := probe_lt (hash s) 3 (m := 8 * f.size) (by omega)
  have HM : Hid (may f.data.toList s = (bitAt f.data.toList (probe (hash s) 0 (8 * f.size)) && (bitAt f.data.toList (probe (hash s) 1 (8 * f.size)) && (bitAt f.data.toList (probe (hash s) 2 (8 * f.size)) && bitAt f.data.toList (probe (hash s) 3 (8 * f.size)))))) := by
    unfold may
    rw [← Lib.size_eq]
    have : f.data.toList ≠ [] := by intro e; rw [Lib.size_eq, e] at hp; simp at hp
    rw [decide_eq_true this, Bool.true_and]
    exact hid_rfl
  generalize may f.data.toList s = M at *
  generalize probe (hash s) 0 (8 * f.size) = p0 at *
  generalize probe (hash s) 1 (8 * f.size) = p1 at *
  generalize probe (hash s) 2 (8 * f.size) = p2 at *
  generalize probe (hash s) 3 (8 * f.size) = p3 at *
  go_enter Try.func46, Try.ntmps46
  go_wp2_with fail
  refine (HC.out _).mono ?_
  rintro e w1 ⟨rfl, hb1⟩
  go_wp2
  go_loop [13] (fun i => ∃ k : Nat, i = .int .i64 k ∧ Hid (k = 0 ∨ (k = 1 ∧ bitAt f.data.toList p0 = true) ∨ (k = 2 ∧ bitAt f.data.toList p0 = true ∧ bitAt f.data.toList p1 = true) ∨ (k = 3 ∧ bitAt f.data.toList p0 = true ∧ bitAt f.data.toList p1 = true ∧ bitAt f.data.toList p2 = true) ∨ (k = 4 ∧ bitAt f.data.toList p0 = true ∧ bitAt f.data.toList p1 = true ∧ bitAt f.data.toList p2 = true ∧ bitAt f.data.toList p3 = true))) (fun i => 4 - (intOf i).toNat)
  case atStart => exact ⟨0, rfl, .inl rfl⟩
  case round =>
    obtain ⟨k, rfl, HK⟩ := hrel
    rcases HK.out with rfl | ⟨rfl, B0⟩ | ⟨rfl, B0, B1⟩ | ⟨rfl, B0, B1, B2⟩ | ⟨rfl, B0, B1, B2, B3⟩
    · clear HK
      have hi := idx0
      have hlt : p0 / 8 < f.size := by omega
      have ht := test_bit f p0 hlt
      rcases Bool.eq_false_or_eq_true (bitAt f.data.toList p0) with hB | hB
      rotate_left
      · have hM : M = false := by rw [HM.out, hB]; simp
        rw [hB] at ht
        subst hM
        go_wp2
        go_ret
        exact ⟨rfl, hb1⟩
      · rw [hB] at ht
        have HB : Hid _ := hB
        clear hB
        go_wp2
        go_round
        case rel => have hB := HB.out; exact ⟨1, rfl, .inr (.inl ⟨rfl, hB⟩)⟩
        case measure => simp [intOf]
    · clear HK
      have hi := idx1
      have hlt : p1 / 8 < f.size := by omega
      have ht := test_bit f p1 hlt
      rcases Bool.eq_false_or_eq_true (bitAt f.data.toList p1) with hB | hB
      rotate_left
      · have hM : M = false := by rw [HM.out, B0, hB]; simp
        rw [hB] at ht
        subst hM
        go_wp2
        go_ret
        exact ⟨rfl, hb1⟩
      · rw [hB] at ht
        have HB : Hid _ := hB
        clear hB
        go_wp2
        go_round
        case rel => have hB := HB.out; exact ⟨2, rfl, .inr (.inr (.inl ⟨rfl, B0, hB⟩))⟩
        case measure => simp [intOf]
    · clear HK
      have hi := idx2
      have hlt : p2 / 8 < f.size := by omega
      have ht := test_bit f p2 hlt
      rcases Bool.eq_false_or_eq_true (bitAt f.data.toList p2) with hB | hB
      rotate_left
      · have hM : M = false := by rw [HM.out, B0, B1, hB]; simp
        rw [hB] at ht
        subst hM
        go_wp2
        go_ret
        exact ⟨rfl, hb1⟩
      · rw [hB] at ht
        have HB : Hid _ := hB
        clear hB
        go_wp2
        go_round
        case rel => have hB := HB.out; exact ⟨3, rfl, .inr (.inr (.inr (.inl ⟨rfl, B0, B1, hB⟩)))⟩
        case measure => simp [intOf]
    · clear HK
      have hi := idx3
      have hlt : p3 / 8 < f.size := by omega
      have ht := test_bit f p3 hlt
      rcases Bool.eq_false_or_eq_true (bitAt f.data.toList p3) with hB | hB
      rotate_left
      · have hM : M = false := by rw [HM.out, B0, B1, B2, hB]; simp
        rw [hB] at ht
        subst hM
        go_wp2
        go_ret
        exact ⟨rfl, hb1⟩
      · rw [hB] at ht
        have HB : Hid _ := hB
        clear hB
        go_wp2
        go_round
        case rel => have hB := HB.out; exact ⟨4, rfl, .inr (.inr (.inr (.inr (⟨rfl, B0, B1, B2, hB⟩))))⟩
        case measure => simp [intOf]
    · have hM : M = true := by rw [HM.out, B0, B1, B2, B3]; rfl
      clear HK
      subst hM
      go_wp2
      go_ret
      exact ⟨rfl, hb1⟩

end Go.Proofs.Ytedjohkdfchocaa.Bl

/-
  Package bloom: the filter of keys.
-/
namespace Go.Proofs.Ytedjohkdfchocaa.Bl
open Go.RowKit Cm
set_option linter.unusedVariables false

/-- The bytes lie in a block of their own. -/
def RowAt (w : World) (g : Nat) (bs : List UInt8) : Prop := w.heap[g]? = some (.cells (bs.map B8).toArray 5)
theorem RowAt.cell {w : World} {g : Nat} {bs : List UInt8} (h : RowAt w g bs) {j : Nat} (hj : j < bs.length) : w.cell? ⟨g, j, none⟩ = some (.int .u8 ((bs.getD j 0).toNat : Int)) := by
  rw [Joins.cell_of_block h]
  simp [hj, B8]
theorem RowAt.frozen {w : World} {g : Nat} {bs : List UInt8} (h : RowAt w g bs) (j : Nat) : w.frozen? ⟨g, j, none⟩ = false := by
  simp [World.frozen?, show w.heap[g]? = _ from h]
theorem RowAt.set {w : World} {g : Nat} {bs : List UInt8} (h : RowAt w g bs) (j : Nat) (c : UInt8) : RowAt (w.setCell ⟨g, j, none⟩ (B8 c)) g (bs.set j c) := by
  unfold RowAt
  rw [Joins.block_setCell h]
  simp
theorem RowAt.below {w w' : World} {g : Nat} {bs : List UInt8} (h : RowAt w g bs) (hb : Below w.heap.size w w') : RowAt w' g bs :=
  (hb.block g (Array.getElem?_eq_some_iff.1 h).1).trans h
theorem made_zeros (n : Nat) : madeCells (Value.int .u8 0).cells (n * 1) = ((List.replicate n (0 : UInt8)).map B8).toArray := by
  apply Array.ext'
  rw [List.toList_toArray]
  apply List.ext_getElem
  · simp [madeCells]
  · intro i h1 h2
    simp [madeCells, B8, Value.cells, Nat.mod_one]
theorem Part.other {xs : List ByteArray} {m : Nat} {x y : ByteArray} {f : List UInt8} (h : Part xs m x 0 f) : Part xs m y 0 f :=
  ⟨h.1, fun q hq => by rw [h.2 q hq]; simp⟩
theorem or_set (c : UInt8) (p : Nat) : Value.int .u8 (bits .or .u8 (c.toNat : Int) (2 ^ (p % 8) % 256)) = B8 (UInt8.ofNat (c.toNat ||| 2 ^ (p % 8))) := by
  have hl := or_pow_lt c (p % 8) (by omega)
  have h2 : 2 ^ (p % 8) < 2 ^ 8 := Nat.pow_lt_pow_right (by decide) (Nat.mod_lt p (by decide))
  have hc := c.toNat_lt
  unfold B8
  rw [UInt8.toNat_ofNat_of_lt' hl]
  have e0 : ((2 : Int) ^ (p % 8)) = ((2 ^ (p % 8) : Nat) : Int) := by simp
  rw [e0]
  generalize 2 ^ (p % 8) = y at *
  rw [show (y : Int) % 256 = (y : Int) by omega, u8_or_nat _ _ (by omega) (by omega)]
theorem idx_any (h m k : Nat) (hk : k < 4) (w : World) : (Instr.index 119 (probesV h m) (.int .i64 k)).run Try.prog w = .ok (.int .u64 (probe h k m : Nat)) w := by
  match k, hk with
  | 0, _ => exact idx0 _ _ _ _ _
  | 1, _ => exact idx1 _ _ _ _ _
  | 2, _ => exact idx2 _ _ _ _ _
  | 3, _ => exact idx3 _ _ _ _ _

set_option maxHeartbeats 1000000 in
theorem build_any (ao : Option Addr) (cap : Nat) (xs : List ByteArray) (w : World) (hc : CellsAt w ao (strVals xs)) (hlen : xs.length ≤ 8796093022208) (hs : ∀ x ∈ xs, x.size ≤ 9223372036854775807) :
    Calls Try.prog 36 #[.slice ao xs.length cap] w fun e w' => (∃ f : ByteArray, e = .returned (.string f) ∧ IsFilter xs f.data.toList) ∧ Below w.heap.size w w' := by
  obtain ⟨i0, hi0, hz0, hz1, hz2⟩ := info_parts info8
  obtain ⟨N, hN⟩ : ∃ N, N = len xs.length := ⟨_, rfl⟩
  have hN1 : N = (10 * xs.length + 7) / 8 := hN
  have hNl : N ≤ 10995116277761 := by omega
  obtain ⟨Z, hZ⟩ : ∃ Z, Z = ((List.replicate N (0 : UInt8)).map B8).toArray := ⟨_, rfl⟩
  have hmk : ∀ w : World, (Instr.makeSlice 67 (.int .i64 N) (.int .i64 N)).run Try.prog w = .ok (.slice (some ⟨w.heap.size, 0, none⟩) N N) (w.alloc (.cells Z 5)) := fun w => by
    have := run_make (P := Try.prog) w 67 5 i0 (.int .u8 0) Try.underlying67 hi0 hz0 .i64 .i64 N N (by omega) (by omega) (by rw [hz2]; omega) (by omega)
    rw [hz1] at this
    simp only [Int.toNat_natCast, made_zeros] at this
    rw [hZ]
    exact this
  have hq : (10 * (xs.length : Int) + 7) / 8 = N := by omega
  have HN1 : Hid _ := hN1
  have HN : Hid _ := hN
  have HZ : Hid (RowAt (w.alloc (.cells Z 5)) w.heap.size (List.replicate N 0)) := by rw [hZ]; exact heap_alloc_new w _
  clear hN1 hN hZ hi0 hz0 hz1 hz2
  have HS : Hid _ := hs
  clear hs
  go_enter Try.func36, Try.ntmps36
  go_wp2
  clear hq hmk
  go_loopw [16] (fun i wr => ∃ (k : Nat) (bs : List UInt8), k ≤ xs.length ∧ i = .int .i64 k ∧ Hid (Part (xs.take k) (8 * N) ByteArray.empty 0 bs) ∧ Hid (RowAt wr w.heap.size bs) ∧ Hid (Below w.heap.size w wr)) (fun i _ => xs.length - (intOf i).toNat)
  case atStart => exact ⟨0, List.replicate N 0, by omega, rfl, Part.start N _, HZ, (Below.refl _ _).alloc (Nat.le_refl _) _⟩
  case round =>
    obtain ⟨k, bs, hk, rfl, HP, HR, HB⟩ := hrel
    by_cases hlt : k < xs.length
    · rcases hc.below HB.out with h0 | ⟨b, off, rfl, hbl, hcells⟩
      · have : xs.length = 0 := by have := congrArg List.length h0; simpa [strVals] using this
        omega
      have hck := hcells k (by simpa [strVals] using hlt)
      have hx : (strVals xs)[k]? = some (.string (xs.getD k ByteArray.empty)) := by simp [strVals, hlt]
      have hsz : (xs.getD k ByteArray.empty).size ≤ 9223372036854775807 := HS.out _ (by rw [getD_lt _ _ _ hlt]; exact List.getElem_mem hlt)
      have HX : Hid (xs.take (k + 1) = xs.take k ++ [xs.getD k ByteArray.empty]) := by rw [List.take_succ_eq_append_getElem hlt, getD_lt _ _ _ hlt]; exact hid_rfl
      rw [hx] at hck
      generalize xs.getD k ByteArray.empty = s at *
      have hNp : 0 < N := by have := HN1.out; omega
      have HC : Hid (Calls Try.prog 66 #[.string s, .int .i64 N] wr fun e w' => e = .returned (probesV (hash s) (8 * N)) ∧ Below wr.heap.size wr w') := probes_any s hsz N hNp (by omega) wr
      have HI : Hid _ := idx_any (hash s) (8 * N)
      have HPL : Hid (∀ j, probe (hash s) j (8 * N) < 8 * N) := fun j => probe_lt (hash s) j (by omega)
      generalize probesV (hash s) (8 * N) = V at *
      clear hcells hx
      go_wp2_with fail
      refine HC.out.mono ?_
      rintro e w1 ⟨rfl, hb1⟩
      have HR1 : Hid _ := HR.out.below hb1
      have HB1 : Hid (Below w.heap.size w w1) := HB.out.trans (hb1.mono HB.out.size)
      clear HC hb1 HR HB
      go_wp2
      go_loopw [24] (fun i wr => ∃ (j : Nat) (cs : List UInt8), j ≤ 4 ∧ i = .int .i64 j ∧ Hid (Part (xs.take k) (8 * N) s j cs) ∧ Hid (RowAt wr w.heap.size cs) ∧ Hid (Below w.heap.size w wr)) (fun i _ => 4 - (intOf i).toNat)
      case atStart => exact ⟨0, bs, by omega, rfl, HP.out.other, HR1, HB1⟩
      case round =>
        obtain ⟨j, cs, hj, rfl, HP2, HR2, HB2⟩ := hrel
        by_cases hjl : j < 4
        · have hi := HI.out j hjl
          have hp := HPL.out j
          have HN2 : Hid _ := HP2.out.step (by omega)
          have hcl : 8 * cs.length = 8 * N := HP2.out.1
          have hd : probe (hash s) j (8 * N) / 8 < cs.length := by omega
          have hcell := HR2.out.cell hd
          have hfz := HR2.out.frozen (probe (hash s) j (8 * N) / 8)
          unfold setBit at HN2
          generalize probe (hash s) j (8 * N) = p at *
          have HSet : Hid _ := fun c => HR2.out.set (p / 8) c
          have HBs : Hid (∀ v, Below w.heap.size w (wr.setCell ⟨w.heap.size, p / 8, none⟩ v)) := fun v => HB2.out.setCell (Nat.le_refl _) v
          generalize cs.getD (p / 8) 0 = c at *
          have hpN : p / 8 < N := by omega
          clear hcl
          go_wp2
          go_roundw
          case rel => rw [or_set]; exact ⟨j + 1, _, by omega, by go_num, HN2, HSet.out _, HBs.out _⟩
          case measure => simp [intOf]; omega
        · have hj' : j = 4 := by omega
          subst hj'
          have HN3 : Hid (Part (xs.take (k + 1)) (8 * N) ByteArray.empty 0 cs) := by rw [HX.out]; exact HP2.out.turn
          go_wp2
          go_roundw
          case rel => exact ⟨k + 1, cs, by omega, by go_num, HN3, HR2, HB2⟩
          case measure => simp [intOf]; omega
    · have hk' : k = xs.length := by omega
      subst hk'
      rw [List.take_length] at HP
      have HF : Hid (IsFilter xs bs) := by have := HP.out; rw [HN.out] at this; exact this.done
      have hbl : bs.length = N := by have := HP.out.1; omega
      have hst : (convert 67 9 (.slice (some ⟨w.heap.size, 0, none⟩) N N)).run Try.prog wr = .ok (.string ⟨bs.toArray⟩) wr := by
        rw [← hbl]
        refine run_convert_bytes_back wr 67 9 5 ⟨w.heap.size, 0, none⟩ _ bs Try.underlying67 Try.underlying5 Try.underlying9 fun j hj => ?_
        have := HR.out.cell hj
        rw [getD_lt _ _ _ hj] at this
        rw [Go.WideShapes.add_plain]
        simpa using this
      clear hbl
      go_wp2
      go_ret
      exact ⟨⟨_, rfl, HF.out⟩, HB.out⟩

end Go.Proofs.Ytedjohkdfchocaa.Bl

/-
  Package table: 'footer', and 'Build' answers the table's text.
-/
namespace Go.Proofs.Ytedjohkdfchocaa.Tb
open Go.RowKit Cm Mm Bk
open Pk (enc enc_len)
open Fr (framesB str sealed)
set_option linter.unusedVariables false

theorem cells_two (w : World) (a b : Nat) : ∀ j, j < [a, b].length → (w.alloc (.cells #[.int .u64 a, .int .u64 b] 69)).cell? ⟨w.heap.size, 0 + j, none⟩ = some (.int .u64 ([a, b].getD j 0)) := fun j hj => by
  have e := heap_alloc_new w (.cells #[.int .u64 a, .int .u64 b] 69)
  rw [Joins.cell_of_block e]
  match j, hj with
  | 0, _ => rfl
  | 1, _ => rfl
set_option maxRecDepth 100000 in
set_option maxHeartbeats 1000000 in
theorem footer_any (i n : Nat) (w : World) (hi : i ≤ 9223372036854775807) (hn : n ≤ 9223372036854775807) :
    Calls Try.prog 38 #[.int .i64 i, .int .i64 n] w fun e w' => e = .returned (.string (str ([84, 82, 77, 49] ++ (enc i ++ enc n)))) ∧ Below w.heap.size w w' := by
  have HN : Hid _ := Pk.Nums_any w.heap.size 0 2 [i, n] (w.alloc (.cells #[.int .u64 i, .int .u64 n] 69)) (by intro x hx; simp at hx; omega) (cells_two w i n) (by simp) (by simp)
  go_enter Try.func38, Try.ntmps38
  go_wp2_with fail
  refine (show Calls _ _ _ _ _ from HN.out).mono ?_
  rintro e w1 ⟨rfl, hb⟩
  have HB : Hid (Below w.heap.size w w1) := ((Below.refl _ _).alloc (Nat.le_refl _) _).trans (hb.mono (by simp))
  clear hb HN
  have hs : (⟨(Pk.nums [i, n]).toArray⟩ : ByteArray) = str (enc i ++ enc n) := by simp [Pk.nums, str]
  rw [hs]
  have HS : Hid ((⟨#[84, 82, 77, 49]⟩ : ByteArray) ++ str (enc i ++ enc n) = str ([84, 82, 77, 49] ++ (enc i ++ enc n))) := by
    show _ = _
    apply bs_inj
    simp [bs, str]
  have hT : (str (enc i ++ enc n)).size ≤ 20 := by
    rw [Fr.str_size, List.length_append]
    have h1 := (enc_len i).2
    have h2 := (enc_len n).2
    omega
  generalize str (enc i ++ enc n) = T at *
  clear hs
  have hadd := fun w : World => run_string_add_sum (P := Try.prog) w ⟨#[84, 82, 77, 49]⟩ T (by show 4 + T.size ≤ _; omega)
  go_wp2
  go_ret
  refine ⟨?_, HB.out⟩
  rw [HS.out]
  rfl
theorem cells_three (w : World) (a b c : ByteArray) : CellsAt (w.alloc (.cells #[.string a, .string b, .string c] 9)) (some ⟨w.heap.size, 0, none⟩) (strVals [a, b, c]) := by
  refine .inr ⟨w.heap.size, 0, rfl, by simp, fun j hj => ?_⟩
  rw [Joins.cell_of_block (heap_alloc_new w (.cells #[.string a, .string b, .string c] 9)), Nat.zero_add]
  simp [strVals]
theorem part_rows {w : World} {B : Nat} {v : Value} {es : List En} (h : w.ownsRow B 103 5 v (parts es).length (ptShape.vals (parts es))) : ∃ po pc, v = .slice po (nch es) pc ∧ ElemsAt ptShape w po (parts es) := by
  obtain ⟨po, pc, e, _, _, _, h1⟩ := own_rows (F := ptShape) (show w.ownsRow _ _ ptShape.sz _ _ _ from h)
  have hl : (parts es).length = nch es := by simp [parts]
  rw [hl] at e
  exact ⟨po, pc, e, h1⟩
theorem tpays_iff (es : List En) : (∀ x ∈ tpays es, x.size ≤ 65536) ↔ (∀ x ∈ pays es, x.size ≤ 65536) ∧ ∀ x ∈ tailB es, x.size ≤ 65536 := by
  unfold tpays
  constructor
  · exact fun h => ⟨fun x hx => h x (List.mem_append_left _ hx), fun x hx => h x (List.mem_append_right _ hx)⟩
  · exact fun h x hx => (List.mem_append.1 hx).elim (h.1 x) (h.2 x)
theorem tail_total {es : List En} (hs : Small es) : 8 * (tailB es).length + total (tailB es) ≤ 40000000000000 ∧ (framesB (pays es)).length ≤ 20000000000000 := by
  have h1 := index_len es (nch es) (Nat.le_refl _)
  have h2 := place_len es (nch es) (Nat.le_refl _)
  have h3 := bytes_take es (8 * nch es)
  have h4 := hs.all
  have h5 := hs.few
  have h6 : nch es ≤ 1000000000 := by unfold nch; omega
  have h7 := (enc_len (place es (nch es))).2
  have h8 := (enc_len es.length).2
  have h9 : (filt (keysE es)).length ≤ 10000000000 := by
    rw [filt_len]
    have := ks_len es es.length
    unfold keysE Bl.len
    omega
  refine ⟨?_, ?_⟩
  · simp only [tailB, total, footer, List.length_cons, List.length_nil, List.map_cons, List.map_nil, List.sum_cons, List.sum_nil, Fr.str_size, List.length_append]
    omega
  · show place es (nch es) ≤ _
    omega
set_option maxRecDepth 100000 in
set_option maxHeartbeats 1000000 in
theorem build_any (ao : Option Addr) (ca : Nat) (es : List En) (w : World) (hx : ElemsAt enShape w ao es) (hok : AllOk es) (hca : es.length ≤ ca) (hs : Small es) :
    Calls Try.prog 9 #[.slice ao es.length ca] w fun e w' => e = .returned (tableV es) ∧ Below w.heap.size w w' := by
  have HX : Hid (∀ X, Below w.heap.size w X → ElemsAt enShape X ao es) := fun X hb => hx.later hb
  have HCU : Hid _ := cut_any ao ca es w hx hok hca hs
  have HSM : Hid (Small es) := hs
  have hfew := hs.few
  obtain ⟨htl, hpl⟩ := tail_total hs
  have HTL : Hid _ := htl
  clear hx hok hs htl
  go_enter Try.func9, Try.ntmps9
  go_wp2_with fail
  refine (show Calls _ _ _ _ _ from HCU.out).mono ?_
  rintro e w1 ⟨⟨hr, v, rfl, hrow⟩ | ⟨hr, rfl⟩, hb1⟩
  · have HT : Hid (tableV es = sealed (tpays es)) := by show _ = _; unfold tableV; rw [hr]; rfl
    obtain ⟨po, pc, rfl, hpe⟩ := part_rows hrow
    have HLA : Hid _ := lay_any po pc es w1 hpe HSM.out
    have HB1 : Hid _ := hb1
    clear hr hrow hpe hb1 HCU
    go_wp2_with fail
    refine (show Calls _ _ _ _ _ from HLA.out).mono ?_
    rintro e w2 ⟨⟨hall, rfl⟩ | ⟨hno, rfl⟩, hb2⟩
    · have HB2 : Hid (Below w.heap.size w w2) := HB1.out.trans (hb2.mono HB1.out.size)
      have HALL : Hid _ := hall
      have HK : Hid _ := keys_any ao ca es w2 (HX.out w2 HB2.out) hfew
      clear hall hb2 HB1 HLA HX
      have hlb : (str (framesB (pays es))).size = place es (nch es) := by rw [Fr.str_size]; rfl
      have HLB : Hid _ := hlb
      clear hlb
      go_wp2_with fail
      refine (show Calls _ _ _ _ _ from HK.out).mono ?_
      rintro e w3 ⟨⟨ko, kc, rfl, hck⟩, hb3⟩
      have HB3 : Hid (Below w.heap.size w w3) := HB2.out.trans (hb3.mono HB2.out.size)
      have HBB : Hid _ := Bl.build_any ko kc (keysE es) w3 hck (by have := ks_len es es.length; unfold keysE; omega) (fun x hx => by
        obtain ⟨i, _, rfl⟩ := mem_keys hx
        have := (HSM.out.each i).1
        omega)
      clear hck hb3 HK HB2
      go_wp2_with fail
      refine (show Calls _ _ _ _ _ from HBB.out).mono ?_
      rintro e w4 ⟨⟨F, rfl, hF⟩, hb4⟩
      have HB4 : Hid (Below w.heap.size w w4) := HB3.out.trans (hb4.mono HB3.out.size)
      have HFE : Hid (F = str (filt (keysE es))) := by
        show _ = _
        have := filt_eq hF
        apply bs_inj
        rw [show bs F = F.data.toList from rfl, this]
        rfl
      have HFO : Hid _ := footer_any (place es (nch es)) es.length w4 (by have h : (framesB (pays es)).length = place es (nch es) := rfl; omega) (by omega)
      clear hF hb4 HBB HB3
      have hlb := HLB.out
      go_wp2_with fail
      refine (show Calls _ _ _ _ _ from HFO.out).mono ?_
      rintro e w5 ⟨rfl, hb5⟩
      have HB5 : Hid (Below w.heap.size w w5) := HB4.out.trans (hb5.mono HB4.out.size)
      have HSE : Hid _ := Fr.seal_small (some ⟨w5.heap.size, 0, none⟩) 3 [str (index es (nch es)), F, str (footer es)] (w5.alloc (.cells #[.string (str (index es (nch es))), .string F, .string (str (footer es))] 9)) (cells_three w5 _ _ _) (by have := HTL.out; rw [HFE.out]; exact Nat.le_trans this (by omega))
      have HTE : Hid ([str (index es (nch es)), F, str (footer es)] = tailB es) := by show _ = _; rw [HFE.out]; rfl
      rw [HTE.out] at HSE
      have hln : (tailB es).length = 3 := rfl
      rw [hln] at HSE
      have hfo : str ([84, 82, 77, 49] ++ (enc (place es (nch es)) ++ enc es.length)) = str (footer es) := rfl
      rw [hfo]
      clear hb5 HFO HB4 hlb hfo hln HTE HFE
      go_wp2_with fail
      refine (show Calls _ _ _ _ _ from HSE.out).mono ?_
      rintro e w6 ⟨rfl, hb6⟩
      have HB6 : Hid (Below w.heap.size w w6) := (HB5.out.alloc HB5.out.size _).trans (hb6.mono (by have := HB5.out.size; simp; omega))
      clear hb6 HSE HB5
      by_cases hts : ∀ x ∈ tailB es, x.size ≤ 65536
      · have HV : Hid (tableV es = .tuple #[.string (str (framesB (tpays es))), .int .i64 0]) := by
          show _ = _
          rw [HT.out, Fr.sealed_ok ((tpays_iff es).2 ⟨HALL.out, hts⟩)]
        have HST : Hid (str (framesB (pays es)) ++ str (framesB (tailB es)) = str (framesB (tpays es))) := by
          show _ = _
          unfold tpays
          rw [Fr.framesB_append]
          apply bs_inj
          simp [bs, str]
        rw [Fr.sealed_ok hts]
        have hb2 : (str (framesB (tailB es))).size ≤ 40000000000000 := by
          rw [Fr.str_size, Fr.framesB_len]
          exact HTL.out
        have hb1 : (str (framesB (pays es))).size ≤ 20000000000000 := by rw [Fr.str_size]; exact hpl
        clear hts hpl
        generalize str (framesB (pays es)) = A at *
        generalize str (framesB (tailB es)) = B at *
        have hadd := fun w : World => run_string_add_sum (P := Try.prog) w A B (by omega)
        go_wp2
        go_ret2
        exact ⟨by rw [HV.out, ← HST.out]; rfl, HB6.out⟩
      · have HV : Hid (tableV es = .tuple #[.string ⟨#[]⟩, .int .i64 2]) := by
          show _ = _
          rw [HT.out, Fr.sealed_long (fun h => hts ((tpays_iff es).1 h).2)]
        rw [Fr.sealed_long hts]
        clear hts hpl
        go_wp2
        go_ret2
        exact ⟨by rw [HV.out]; rfl, HB6.out⟩
    · have HV : Hid (tableV es = .tuple #[.string ⟨#[]⟩, .int .i64 2]) := by
        show _ = _
        rw [HT.out, Fr.sealed_long (fun h => hno ((tpays_iff es).1 h).1)]
      have HB2 : Hid (Below w.heap.size w w2) := HB1.out.trans (hb2.mono HB1.out.size)
      clear hno hb2 HB1
      go_wp2
      go_ret2
      exact ⟨by rw [HV.out]; rfl, HB2.out⟩
  · have HV : Hid (tableV es = .tuple #[.string ⟨#[]⟩, .int .i64 9]) := by show _ = _; unfold tableV; rw [hr]; rfl
    have HB1 : Hid _ := hb1
    clear hr hb1
    go_wp2
    go_ret2
    exact ⟨by rw [HV.out]; rfl, HB1.out⟩
end Go.Proofs.Ytedjohkdfchocaa.Tb
