/-
  Numbers put in order: slices.Sorted of slices.Values.
-/
import Derived.Test.YtjfanbemihheiaaDoorQMergeShelf
import Derived.Test.YtjfanbemihheiaaDoorPart1
import Derived.RangeFuncBox
import Derived.RangeFuncLeaves
import Derived.Shelf.Abstract
import Derived.WalkKit
import Derived.OwnWalkIn
import Derived.TacticsInMore
import Derived.LoopNIn
import Derived.LoopIn
import Derived.Maps.AppendAt
import Derived.Shelf.SortM.Plain
import Derived.Shelf.SortM.SortNone
import Derived.Sort.OwnSortedInts
namespace Go.Proofs.YtjfanbemihheiaaDoor.Mg
open Go.RowKit Go.Shelf Cm
set_option linter.unusedVariables false
attribute [local go_sem] Oper.semAt_some

theorem values_any (ao : Option Addr) (len cap : Nat) (w : World) :
    Calls Tryd.prog 37 #[.slice ao len cap] w fun e w' => e = .returned (.func (.func 49) #[] #[.pointer (some ⟨w.heap.size, 0, none⟩)]) ∧ w' = w.alloc (.cells #[.slice ao len cap] 34) := by
  go_enter Tryd.func37, Tryd.ntmps37
  go_wp2
  go_ret
  exact ⟨rfl, rfl⟩
theorem take_int {zs : List Int} {k : Nat} (h : k < zs.length) : zs.take (k + 1) = zs.take k ++ [zs.getD k 0] := by
  rw [List.take_add_one, List.getElem?_eq_getElem h, List.getD_eq_getElem?_getD, List.getElem?_eq_getElem h]; rfl
theorem int_cell {w : World} {ao : Option Addr} {zs : List Int} (h : CellsAt w ao (zs.map (Value.int .i64))) {k : Nat} (hk : k < zs.length) : ∃ b off, ao = some ⟨b, off, none⟩ ∧ b < w.heap.size ∧ w.cell? ⟨b, off + k, none⟩ = some (.int .i64 (zs.getD k 0)) := by
  rcases h with h | ⟨b, off, rfl, hb, hc⟩
  · have : zs = [] := by simpa using h
    subst this; simp at hk
  · refine ⟨b, off, rfl, hb, ?_⟩
    rw [hc k (by simpa using hk), List.getElem?_map, List.getD_eq_getElem?_getD, List.getElem?_eq_getElem hk]; rfl

set_option maxRecDepth 100000 in
set_option maxHeartbeats 2000000 in
/-- The iterator: all numbers, one by one, whatever a round does that leaves what lay ahead of it. -/
theorem valuesF_in (n l Bs : Nat) (hn : 1 ≤ n) (w0 : World) (ao : Option Addr) (cap : Nat) (zs : List Int) (hlen : zs.length ≤ 1000000000000) (hBs : w0.cell? ⟨Bs, 0, none⟩ = some (.slice ao zs.length cap)) (hc : CellsAt w0 ao (zs.map (Value.int .i64)))
    (J Jx : List Int → World → Prop)
    (hY : ∀ pre x W, J pre W → pre.length < zs.length → YieldAt Fence.wide (n - 1) Tryd.prog l #[.int .i64 x] W fun e W' =>
      (e = .returned (.bool true) ∧ J (pre ++ [x]) W' ∧ Below w0.heap.size W W') ∨ (e = .returned (.bool false) ∧ Jx (pre ++ [x]) W'))
    (W : World) (hW : Below w0.heap.size w0 W) (h0 : J [] W) :
    CallsIn Fence.wide n Tryd.prog 49 #[.func (.yield l) #[] #[], .pointer (some ⟨Bs, 0, none⟩)] W fun e W' => (∃ v, e = .returned v) ∧ ((∃ ys, ys = zs ∧ J ys W') ∨ (∃ pre, True ∧ Jx pre W')) := by
  have hbl := World.block_lt_of_cell? w0 _ hBs
  have hB1 : W.cell? ⟨Bs, 0, none⟩ = some (.slice ao zs.length cap) := (World.cell?_of_block (hW.block Bs hbl)).trans hBs
  obtain ⟨m, hm⟩ : ∃ m, m = zs.length := ⟨_, rfl⟩
  rw [← hm] at hB1 hlen
  refine callsIn_of_wp Tryd.func49 rfl trivial ?_ rfl
  simp only [Tryd.ntmps49, List.size_toArray, List.length_cons, List.length_nil, Nat.reduceAdd, Nat.reduceSub, Array.replicate_succ, Array.replicate_zero, List.push_toArray, List.append_toArray, List.nil_append, List.cons_append]
  gi_wp2
  gi_loopw [7] (fun i wr => ∃ k : Nat, k ≤ m ∧ i = .int .i64 k ∧ J (zs.take k) wr ∧ Below w0.heap.size w0 wr) (fun i _ => m - (intOf i).toNat)
  case atStart => exact ⟨0, Nat.zero_le _, rfl, h0, hW⟩
  case round =>
    obtain ⟨k, hk, rfl, hJ, hb⟩ := hrel
    by_cases hlt : k < m
    · obtain ⟨b, off, rfl, hbb, hcc⟩ := int_cell hc (k := k) (by omega)
      have hcx : wr.cell? ⟨b, off + k, none⟩ = some (.int .i64 (zs.getD k 0)) := (World.cell?_of_block (hb.block b hbb)).trans hcc
      obtain ⟨fn, tmps, assign, body, hy, hR⟩ := hY _ (zs.getD k 0) wr hJ (by rw [List.length_take]; omega)
      have htk := take_int (zs := zs) (k := k) (by omega)
      rw [← htk] at hR
      clear hcc htk
      generalize zs.getD k 0 = x at *
      gi_wp2
      refine hR.mono ?_
      rintro e W3 (⟨rfl, hJ3, hk3⟩ | ⟨rfl, hJx3⟩)
      · gi_wp2
        go_roundw
        case rel => exact ⟨k + 1, by omega, by simp, hJ3, hb.trans hk3⟩
        case measure => simp [intOf]; omega
      · gi_wp2
        refine bodyPost_ret (results_none rfl _ _ _) rfl ?_
        exact ⟨⟨_, rfl⟩, .inr ⟨_, trivial, hJx3⟩⟩
    · obtain rfl : k = m := by omega
      gi_wp2
      go_end0
      refine ⟨⟨_, rfl⟩, .inl ⟨_, rfl, ?_⟩⟩
      rw [hm, List.take_length] at hJ
      exact hJ
theorem infoI : (Tryd.prog.info? 3).map (fun i => (i.zero, i.size, i.bytes)) = some (some (.int .i64 0), 1, 8) := by kernel_rfl
/-- What the numbers lie in, told by any world. -/
structure NumsAt (w : World) (Bs : Nat) (zs : List Int) : Prop where
  at_ : ∃ ao cap, w.cell? ⟨Bs, 0, none⟩ = some (.slice ao zs.length cap) ∧ CellsAt w ao (zs.map (Value.int .i64))
def NumAns (w : World) (ys : List Int) (e : Ending) (w' : World) : Prop := ∃ v, e = .returned v ∧ w'.ownsRow w.heap.size 3 1 v ys.length (ys.map (Value.int .i64)) ∧ Below w.heap.size w w'
set_option maxRecDepth 100000 in
set_option maxHeartbeats 2000000 in
theorem appendSeq_in (n : Nat) (hn : 3 ≤ n) (Bs : Nat) (zs : List Int) (hlen : zs.length ≤ 1000000000000) (w : World) (h : NumsAt w Bs zs) :
    CallsIn Fence.wide n Tryd.prog 63 #[.slice none 0 0, .func (.func 49) #[] #[.pointer (some ⟨Bs, 0, none⟩)]] w (NumAns w zs) := by
  have h1 : 1 ≤ n := by omega
  obtain ⟨ao, cap, hBs, hc⟩ := h.at_
  obtain ⟨i0, hi, hz0, hz1, hz2⟩ := info_parts infoI
  unfold NumAns
  refine callsIn_of_wp_marks Tryd.func63 rfl trivial ?_ rfl
  simp only [Tryd.ntmps63, List.size_toArray, List.length_cons, List.length_nil, Nat.reduceAdd, Nat.reduceSub, Array.replicate_succ, Array.replicate_zero, List.push_toArray, List.append_toArray, List.nil_append, List.cons_append]
  gi_wp2
  have bO := Boxed.new w 34 (.slice none 0 0)
  have hB0 : Below w.heap.size w (w.alloc (.cells #[.slice none 0 0] 34)) := (Below.refl _ w).alloc (Nat.le_refl _) _
  refine wpIn_rangeFunc_ownG rfl h1 (gf := 49) (lb := #[.pointer (some ⟨Bs, 0, none⟩)]) rfl trivial (enters_of Tryd.func49 (by kernel_rfl) rfl)
    (encs := fun x : Int => #[.int .i64 x]) (Kp := Below w.heap.size) (S := fun ys => ys = zs) (Sp := fun _ => True) (N := zs.length) (w0 := w.alloc (.cells #[.slice none 0 0] 34))
    (fun l J Jx W hW _ _ hY h0 => valuesF_in (n - 1) l Bs (by omega) w ao cap zs hlen hBs hc J Jx hY W (hB0.trans (hW.mono hB0.size)) h0)
    belowK_t (belowK_b (by simp)) (Below.refl _ _) (fun _ => rfl)
    (fun pre W => (∃ v, Boxed W w.heap.size 34 v ∧ W.ownsRow w.heap.size 3 1 v pre.length (pre.map (Value.int .i64)) ∧ True) ∧ Below w.heap.size w W)
    (fun _ _ _ => False)
    (OwnFrom.and (Own.from (holdsRow_own w.heap.size w.heap.size 34 3 1 (fun pre : List Int => pre.length) (fun pre => pre.map (Value.int .i64)) (fun _ _ => True)) _) (ownFrom_below (Nat.le_refl _) (by simp)))
    (fun _ _ _ _ _ hs _ _ => hs)
    ⟨⟨_, bO, World.ownsRow_nil _ _ _ _, trivial⟩, hB0⟩
    (fun x => { tmps := #[.slice none 0 0, .func (.func 49) #[] #[.pointer (some ⟨Bs, 0, none⟩)], .pointer (some ⟨w.heap.size, 0, none⟩), undef, .slice none 0 0, .int .i64 x, .func (.func 49) #[] #[.pointer (some ⟨Bs, 0, none⟩)], .int .i64 x, undef, undef, undef, undef, undef], defers := [] }) ?assign ?body ?done ?stop
  case assign =>
    intro l x W K hK
    gi_wp2
    exact hK
  case body =>
    rintro l pre x W ⟨⟨v, hv, hrow, _⟩, hB⟩ hlt
    have hcl := hv.cell
    gi_wp2_with (gi_at_builtin; refine wpListIn_append_own _ rfl _ _ 34 rfl w.heap.size 3 i0 (.int .i64 0) 1 8 Tryd.underlying34 hi hz0 hz1 hz2 rfl (by decide) _ _ _ rfl (hrow.alloc _) ⟨W.heap.size, 0, none⟩ 1 1 [.int .i64 x] rfl rfl (cell_one_new _ _ _) (by simp [Value.oneCell']) (by unfold maxLen; omega) (by omega) (by have := hB.size; simp; omega) ?_; intro v' w1 hown' hgrow _; obtain ⟨g', cap', rfl⟩ := ownsRow_succ hown'; obtain ⟨hv1, hv2, hr2, hk2, hb2⟩ := hv.appended (by decide) hrow hB.size (Nat.le_refl _) hown' hgrow; have hc1 := hv1.cell; have hf1 := hv1.frozen)
    exact ⟨hk2.from _, hb2, ⟨_, hv2, by simpa using hr2, trivial⟩, hB.trans hb2⟩
  case done =>
    rintro D ys W hD rfl ⟨⟨v, hv, hrow, _⟩, hB⟩ hK
    have hcl := hv.cell
    gi_wp2
    refine ⟨by simp, .inl ⟨_, _, rfl, run_takeDeferred hK, ?_⟩⟩
    exact ⟨_, results_tmp rfl _ _ _, v, rfl, ownsRow_putObj hrow _ hK rfl, hB.trans (belowK_b (w := w) (Nat.le_refl _) W D _ _ (by simp at hD; omega) hK rfl rfl)⟩
  case stop =>
    rintro D c pre W _ _ h _
    exact h.elim
theorem appendSeq_any (Bs : Nat) (zs : List Int) (hlen : zs.length ≤ 1000000000000) (w : World) (h : NumsAt w Bs zs) :
    Calls Tryd.prog 63 #[.slice none 0 0, .func (.func 49) #[] #[.pointer (some ⟨Bs, 0, none⟩)]] w (NumAns w zs) := (callsIn_wide (n := 6)).1 (appendSeq_in 6 (by omega) Bs zs hlen w h)
theorem collect_any (Bs : Nat) (zs : List Int) (hlen : zs.length ≤ 1000000000000) (w : World) (h : NumsAt w Bs zs) :
    Calls Tryd.prog 47 #[.func (.func 49) #[] #[.pointer (some ⟨Bs, 0, none⟩)]] w (NumAns w zs) := by
  have HA : Hid _ := appendSeq_any Bs zs hlen w h
  clear h
  go_enter Tryd.func47, Tryd.ntmps47
  go_wp2_with (go_at_call 63; refine (show Calls _ _ _ _ _ from HA.out).mono ?_; rintro e w1 ⟨v, rfl, ho, hb⟩; have HO : Hid _ := ho; clear ho)
  go_ret
  exact ⟨v, rfl, HO.out, hb⟩
def sortI (zs : List Int) : List Int := zs.mergeSort fun x y => decide (x ≤ y)
set_option maxRecDepth 100000 in
theorem sorted_any (Bs : Nat) (zs : List Int) (hlen : zs.length ≤ 1000000000000) (w : World) (h : NumsAt w Bs zs) :
    Calls Tryd.prog 36 #[.func (.func 49) #[] #[.pointer (some ⟨Bs, 0, none⟩)]] w (NumAns w (sortI zs)) := by
  have HA : Hid _ := collect_any Bs zs hlen w h
  clear h
  go_enter Tryd.func36, Tryd.ntmps36
  go_wp2_with fail
  refine (show Calls _ _ _ _ _ from HA.out).mono ?_
  rintro e w1 ⟨v, rfl, ho, hb⟩
  have HB : Hid _ := hb
  clear HA hb
  rcases ho.2 with ⟨rfl, hn⟩ | ⟨g, cap, cur, rfl, hB, hg, hle, hcm, hcs, htk⟩
  · have HN : Hid (zs = []) := List.length_eq_zero_iff.1 hn
    have HS : Hid (Calls Tryd.prog 48 #[.slice none 0 0] w1 fun e w' => e = .returned (.tuple #[]) ∧ w' = w1) := AnyM.slices_Sort_int_none Tryd.sortI none 0 w1
    clear ho hn
    go_wp2_with fail
    refine (show Calls _ _ _ _ _ from HS.out).mono ?_
    rintro e w2 ⟨rfl, rfl⟩
    go_wp2
    go_ret
    have hs : sortI [] = [] := by simp [sortI]
    rw [HN.out, hs]
    exact ⟨_, rfl, World.ownsRow_nil _ _ _ _, HB.out⟩
  · have hH := holds_of_blockI (ss := zs) hg (by simpa using htk)
    have hgl : g < w1.heap.size := lt_of_block hg
    have hlz : (sortI zs).length = zs.length := by unfold sortI; simp
    have hsort := AnyM.slices_Sort_int Tryd.sortI g 0 cap zs w1 hH hgl (by omega)
    have HS : Hid (Calls Tryd.prog 48 #[.slice (some ⟨g, 0, none⟩) zs.length cap] w1 fun e w' => e = .returned (.tuple #[]) ∧ NumAns w (sortI zs) (.returned (.slice (some ⟨g, 0, none⟩) zs.length cap)) w') := by
      refine (show Calls Tryd.prog 48 _ _ _ from hsort).mono ?_
      rintro e w' ⟨rfl, kk, os, rfl⟩
      refine ⟨rfl, _, rfl, ?_, HB.out.grown (grownBy_sortedI _) HB.out.size (fun j hj => by cases hj; exact hB)⟩
      rw [hlz]
      exact ownsRow_sortedI (by simp) hB hg hle hcm hcs
    obtain ⟨m, hm⟩ : ∃ m, m = zs.length := ⟨_, rfl⟩
    rw [← hm] at HS ⊢
    clear ho hg hle hcm hcs htk hH hsort hlz hm hlen
    go_wp2_with fail
    refine (show Calls _ _ _ _ _ from HS.out).mono ?_
    rintro e w2 ⟨rfl, hN⟩
    have HN : Hid _ := hN
    clear hN
    go_wp2
    go_ret
    exact HN.out
end Go.Proofs.YtjfanbemihheiaaDoor.Mg
