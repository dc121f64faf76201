/-
  The rows of a shelf's map, collected: maps.Values, slices.Collect.
-/
import Derived.Test.YtjfanbemihheiaaDoorQManHeap
import Derived.Sort.MapsRangeIn
import Derived.Sort.KeysCollected
import Derived.RangeFuncMany
import Derived.RangeFuncBox
import Derived.RangeFuncLeaves
import Derived.Shelf.Abstract
import Derived.WalkKit
import Derived.OwnWalkIn
import Derived.TacticsInMore
import Derived.LoopNIn
import Derived.LoopIn
import Derived.RegionIn
import Derived.Maps.AppendAt
namespace Go.Proofs.YtjfanbemihheiaaDoor.Ma
open Go.RowKit Go.Maps Go.Sort Go.Shelf Cm
set_option linter.unusedVariables false
attribute [local go_sem] Oper.semAt_some

/-- A slice's three parts. -/
abbrev Sl := Option Addr × Nat × Nat
def slV (x : Sl) : Value := .slice x.1 x.2.1 x.2.2
/-- No key twice; a key is on the list just where the map has it and it is no longer to come. -/
def Got (D : DataW Value) (left : Lit → Bool) (ks : List Int) : Prop := ks.Nodup ∧ ∀ k, k ∈ ks ↔ (Maps.has D (.int .i64 k) = true ∧ left (.int .i64 k) = false)
theorem Got.start (D : DataW Value) : Got D (Maps.has D) [] := ⟨List.nodup_nil, fun k => by cases Maps.has D (.int .i64 k) <;> simp⟩
theorem Got.step {D : DataW Value} {left : Lit → Bool} {ks : List Int} (h : Got D left ks) {k : Int} {y : DataW Value} (hlk : left (.int .i64 k) = true) (hat : ∀ zd, D.atKey (.int .i64 k) zd = y) : Got D (fun z => left z && !z.sameKey (.int .i64 k)) (ks ++ [k]) := by
  have hhas : Maps.has D (.int .i64 k) = true := has_true_of_atKey hat
  have hnew : k ∉ ks := fun hx => by have := ((h.2 k).1 hx).2; rw [hlk] at this; cases this
  refine ⟨List.nodup_append.2 ⟨h.1, by simp, fun a ha b hb => by simp at hb; subst hb; exact fun e => hnew (e ▸ ha)⟩, fun y => ?_⟩
  by_cases hy : y = k
  · subst hy; simp [hhas, Lit.sameKey]
  · simp [h.2 y, hy, Lit.sameKey]
def AllOf (D : DataW Value) (V : Lit → Option Value) (ps : List (Int × Sl)) : Prop := (ps.map (·.1)).Nodup ∧ (∀ k, Maps.has D (.int .i64 k) = true → k ∈ ps.map (·.1)) ∧ ∀ p ∈ ps, V (.int .i64 p.1) = some (slV p.2)

set_option maxRecDepth 100000 in
set_option maxHeartbeats 1000000 in
theorem valuesF_in (n l Bm b nn : Nat) (hn : 1 ≤ n) (D : DataW Value) (V : Lit → Option Value) (hD : ∀ kl, Cm.look D kl = V kl) (hV : ∀ k x, V (.int .i64 k) = some x → ∃ t : Sl, x = slV t) (J Jx : List Sl → World → Prop)
    (hY : ∀ pre x W, J pre W → pre.length < Maps.size D → YieldAt Fence.wide (n - 1) Tryd.prog l #[slV x] W fun e W' =>
      (e = .returned (.bool true) ∧ J (pre ++ [x]) W' ∧ KeepsWalks W W') ∨ (e = .returned (.bool false) ∧ Jx (pre ++ [x]) W'))
    (W : World) (hJ : AbidesFrom W.heap.size J) (hm : W.cell? ⟨Bm, 0, none⟩ = some (.map (some b))) (hown : W.ownsMap Tryd.prog 3 rv b nn D) (h0 : J [] W) :
    CallsIn Fence.wide n Tryd.prog 41 #[.func (.yield l) #[] #[], .pointer (some ⟨Bm, 0, none⟩)] W fun e W' => (∃ v, e = .returned v) ∧
      ((∃ xs, (∃ ps, AllOf D V ps ∧ xs = ps.map (·.2)) ∧ J xs W') ∨ (∃ pre, True ∧ Jx pre W')) := by
  refine callsIn_of_wp Tryd.func41 rfl trivial ?_ rfl
  simp only [Tryd.ntmps41, List.size_toArray, List.length_cons, List.length_nil, Nat.reduceAdd, Nat.reduceSub, Array.replicate_succ, Array.replicate_zero, List.push_toArray, List.append_toArray, List.nil_append, List.cons_append]
  gi_wp2_with (first
    | (gi_at_range; refine wpListIn_range_own _ rfl _ 51 rfl 3 22 keyI Tryd.underlying51 rv b nn _ rfl hown ?_; intro w0 hrg0 hg0 hs0)
    | gi_in)
  go_frame
  gi_loopw [4] (fun _ wr => ∃ (left : Lit → Bool) (cnt : Nat) (ps : List (Int × Sl)), wr.ranges Tryd.prog 3 rv b W.heap.size nn D left cnt ∧ ps.length + cnt ≤ Maps.size D ∧ Got D left (ps.map (·.1)) ∧ (∀ p ∈ ps, V (.int .i64 p.1) = some (slV p.2)) ∧ J (ps.map (·.2)) wr)
    (fun _ wr => wr.rangeLeft b W.heap.size)
  case atStart =>
    exact ⟨_, _, [], hrg0, by simp, Got.start D, by simp, hJ [] W w0 none h0 hg0 (fun r e => by cases e)⟩
  case round =>
    obtain ⟨left, cnt, ps, hrg, hcs, hC, hP, hJs⟩ := hrel
    gi_wp2_with (first
      | (gi_at_next; refine wpListIn_next_ranges _ rfl _ rfl 3 keyI rv (Value.int .i64) (fun v : Value => v) (fun key kl hk => by obtain ⟨x, rfl, _⟩ := Maps.keyOf_int_inv Tryd.underlying3 hk; exact ⟨x, rfl⟩) (fun v y hv => ⟨v, rfl⟩) b W.heap.size nn _ _ _ rfl hrg ?_ ?_)
      | gi_in)
    · intro hc0 hl0
      gi_wp2
      go_end0
      exact ⟨⟨_, rfl⟩, .inl ⟨_, ⟨ps, ⟨hC.1, fun k hk => (hC.2 k).2 ⟨hk, hl0 _⟩, hP⟩, rfl⟩, hJs⟩⟩
    · intro x c kl yd yp w2 cnt2 hkey hlk hv hat hrg2 hlt hg2 hs2 hen
      obtain ⟨x', ex, rfl, _⟩ := Maps.keyOf_int_inv Tryd.underlying3 hkey
      cases ex
      have hvc : V (.int .i64 x) = some c := by
        rw [← hD]
        unfold Cm.look
        rw [has_true_of_atKey hat, if_pos rfl, hat]
        simp only [rv, Option.some.injEq, Prod.mk.injEq] at hv
        rw [← hv.1]; rfl
      obtain ⟨t, rfl⟩ := hV _ _ hvc
      have hJ2 : J (ps.map (·.2)) w2 := hJ _ wr w2 (some W.heap.size) hJs hg2 (fun r e => by cases e; exact ⟨Nat.le_refl _, hrg.iter_walk⟩)
      obtain ⟨fn, tmps, assign, body, hy, hR⟩ := hY (ps.map (·.2)) t w2 hJ2 (by simp; omega)
      have hC2 : Got D (fun z => left z && !z.sameKey (.int .i64 x)) ((ps ++ [(x, t)]).map (·.1)) := by simpa using hC.step hlk hat
      have hP2 : ∀ p ∈ ps ++ [(x, t)], V (.int .i64 p.1) = some (slV p.2) := fun p hp => (List.mem_append.1 hp).elim (hP p) (fun e => by simp at e; subst e; exact hvc)
      clear hs2 hat hv hvc
      unfold slV at *
      gi_wp2
      refine hR.mono ?_
      rintro e W3 (⟨rfl, hJ3, hk3⟩ | ⟨rfl, hJx3⟩)
      · gi_wp2
        have hrg3 := hrg2.of_walks hk3
        go_roundw
        case rel => exact ⟨_, cnt2, ps ++ [(x, t)], hrg3, by simp; omega, hC2, hP2, by simpa using hJ3⟩
        case measure => rw [hrg3.left_eq, hrg.left_eq]; exact hlt
      · gi_wp2
        refine bodyPost_ret (results_none rfl _ _ _) rfl ?_
        exact ⟨⟨_, rfl⟩, .inr ⟨_, trivial, hJx3⟩⟩
theorem infoSl : (Tryd.prog.info? 22).map (fun i => (i.zero, i.size, i.bytes)) = some (some (.slice none 0 0), 1, 24) := by kernel_rfl
/-- What is collected: a row of all the map's slices. -/
def GotAns (w : World) (D : DataW Value) (V : Lit → Option Value) (e : Ending) (w' : World) : Prop := ∃ v ps, e = .returned v ∧ AllOf D V ps ∧ ps.length ≤ Maps.size D ∧ w'.ownsRow w.heap.size 22 1 v ps.length ((ps.map (·.2)).map slV) ∧ Below w.heap.size w w'
set_option maxRecDepth 100000 in
set_option maxHeartbeats 2000000 in
theorem appendSeq_in (n : Nat) (hn : 3 ≤ n) (Bm b nn : Nat) (D : DataW Value) (V : Lit → Option Value) (hD : ∀ kl, Cm.look D kl = V kl) (hV : ∀ k x, V (.int .i64 k) = some x → ∃ t : Sl, x = slV t) (hlen : Maps.size D ≤ 1000000000000) (w : World)
    (hm : w.cell? ⟨Bm, 0, none⟩ = some (.map (some b))) (hown : w.ownsMap Tryd.prog 3 rv b nn D) :
    CallsIn Fence.wide n Tryd.prog 40 #[.slice none 0 0, .func (.func 41) #[] #[.pointer (some ⟨Bm, 0, none⟩)]] w (GotAns w D V) := by
  have h1 : 1 ≤ n := by omega
  obtain ⟨i0, hi, hz0, hz1, hz2⟩ := info_parts infoSl
  have hBm := World.block_lt_of_cell? w _ hm
  have hbl := hown.lt
  unfold GotAns
  refine callsIn_of_wp_marks Tryd.func40 rfl trivial ?_ rfl
  simp only [Tryd.ntmps40, List.size_toArray, List.length_cons, List.length_nil, Nat.reduceAdd, Nat.reduceSub, Array.replicate_succ, Array.replicate_zero, List.push_toArray, List.append_toArray, List.nil_append, List.cons_append]
  gi_wp2
  have bO := Boxed.new w 57 (.slice none 0 0)
  have hB0 : Below w.heap.size w (w.alloc (.cells #[.slice none 0 0] 57)) := (Below.refl _ w).alloc (Nat.le_refl _) _
  refine wpIn_rangeFunc_ownG rfl h1 (gf := 41) (lb := #[.pointer (some ⟨Bm, 0, none⟩)]) rfl trivial (enters_of Tryd.func41 (by kernel_rfl) rfl)
    (encs := fun x : Sl => #[slV x]) (Kp := KeepsWalks) (S := fun xs => ∃ ps, AllOf D V ps ∧ xs = ps.map (·.2)) (Sp := fun _ => True) (N := Maps.size D) (w0 := w.alloc (.cells #[.slice none 0 0] 57))
    (fun l J Jx W hW hJ _ hY h0 => valuesF_in (n - 1) l Bm b nn (by omega) D V hD hV J Jx hY W hJ ((World.cell?_of_block ((hB0.trans (hW.mono hB0.size)).block Bm hBm)).trans hm)
      (by obtain ⟨es, clock, hq, F, hs, e⟩ := hown; exact ⟨es, clock, ((hB0.trans (hW.mono hB0.size)).block b hbl).trans hq, F, hs, e⟩) h0)
    KeepsWalks.trans (fun W l o o' _ ho _ hw => KeepsWalks.putObj o' ho hw) (Below.refl _ _) (fun _ => rfl)
    (fun pre W => (∃ v, Boxed W w.heap.size 57 v ∧ W.ownsRow w.heap.size 22 1 v pre.length (pre.map slV) ∧ pre.length ≤ Maps.size D) ∧ Below w.heap.size w W)
    (fun _ _ _ => False)
    (OwnFrom.and (Own.from (holdsRow_own w.heap.size w.heap.size 57 22 1 (fun pre : List Sl => pre.length) (fun pre => pre.map slV) (fun pre _ => pre.length ≤ Maps.size D)) _) (ownFrom_below (Nat.le_refl _) (by simp)))
    (fun _ _ _ _ _ hs _ _ => hs)
    ⟨⟨_, bO, World.ownsRow_nil _ _ _ _, by simp⟩, hB0⟩
    (fun x => { tmps := #[.slice none 0 0, .func (.func 41) #[] #[.pointer (some ⟨Bm, 0, none⟩)], .pointer (some ⟨w.heap.size, 0, none⟩), undef, .slice none 0 0, slV x, .func (.func 41) #[] #[.pointer (some ⟨Bm, 0, none⟩)], slV x, undef, undef, undef, undef, undef], defers := [] }) ?assign ?body ?done ?stop
  case assign =>
    intro l x W K hK
    unfold slV at hK ⊢
    gi_wp2
    exact hK
  case body =>
    rintro l pre x W ⟨⟨v, hv, hrow, _⟩, hB⟩ hlt
    have hcl := hv.cell
    unfold slV
    gi_wp2_with (gi_at_builtin; refine wpListIn_append_own _ rfl _ _ 57 rfl w.heap.size 22 i0 (.slice none 0 0) 1 24 Tryd.underlying57 hi hz0 hz1 hz2 rfl (by decide) _ _ _ rfl (hrow.alloc _) ⟨W.heap.size, 0, none⟩ 1 1 [.slice x.1 x.2.1 x.2.2] rfl rfl (cell_one_new _ _ _) (by simp [Value.oneCell']) (by unfold maxLen; omega) (by omega) (by have := hB.size; simp; omega) ?_; intro v' w1 hown' hgrow _; obtain ⟨g', cap', rfl⟩ := ownsRow_succ hown'; obtain ⟨hv1, hv2, hr2, hk2, hb2⟩ := hv.appended (by decide) hrow hB.size (Nat.le_refl _) hown' hgrow; have hc1 := hv1.cell; have hf1 := hv1.frozen)
    exact ⟨hk2.from _, hk2.walks, ⟨_, hv2, by rw [List.length_append, List.map_append]; exact hr2, by simp; omega⟩, hB.trans hb2⟩
  case done =>
    rintro Df ys W hDf ⟨ps, hps, rfl⟩ ⟨⟨v, hv, hrow, hle⟩, hB⟩ hK
    have hcl := hv.cell
    gi_wp2
    refine ⟨by simp, .inl ⟨_, _, rfl, run_takeDeferred hK, ?_⟩⟩
    exact ⟨_, results_tmp rfl _ _ _, v, ps, rfl, hps, by simpa using hle, by rw [List.length_map] at hrow; exact ownsRow_putObj hrow _ hK rfl, hB.trans (belowK_b (w := w) (Nat.le_refl _) W Df _ _ (by simp at hDf; omega) hK rfl rfl)⟩
  case stop =>
    rintro Df c pre W _ _ h _
    exact h.elim
theorem appendSeq_any (Bm b nn : Nat) (D : DataW Value) (V : Lit → Option Value) (hD : ∀ kl, Cm.look D kl = V kl) (hV : ∀ k x, V (.int .i64 k) = some x → ∃ t : Sl, x = slV t) (hlen : Maps.size D ≤ 1000000000000) (w : World) (hm : w.cell? ⟨Bm, 0, none⟩ = some (.map (some b))) (hown : w.ownsMap Tryd.prog 3 rv b nn D) :
    Calls Tryd.prog 40 #[.slice none 0 0, .func (.func 41) #[] #[.pointer (some ⟨Bm, 0, none⟩)]] w (GotAns w D V) := (callsIn_wide (n := 6)).1 (appendSeq_in 6 (by omega) Bm b nn D V hD hV hlen w hm hown)
theorem collect_any (Bm b nn : Nat) (D : DataW Value) (V : Lit → Option Value) (hD : ∀ kl, Cm.look D kl = V kl) (hV : ∀ k x, V (.int .i64 k) = some x → ∃ t : Sl, x = slV t) (hlen : Maps.size D ≤ 1000000000000) (w : World) (hm : w.cell? ⟨Bm, 0, none⟩ = some (.map (some b))) (hown : w.ownsMap Tryd.prog 3 rv b nn D) :
    Calls Tryd.prog 24 #[.func (.func 41) #[] #[.pointer (some ⟨Bm, 0, none⟩)]] w (GotAns w D V) := by
  have HA : Hid _ := appendSeq_any Bm b nn D V hD hV hlen w hm hown
  clear hm hown hD hV
  go_enter Tryd.func24, Tryd.ntmps24
  go_wp2_with (go_at_call 40; refine (show Calls _ _ _ _ _ from HA.out).mono ?_; rintro e w1 ⟨v, ps, rfl, ho⟩; have HO : Hid _ := ho; clear ho)
  go_ret
  exact ⟨v, ps, rfl, HO.out⟩
theorem values_any (mb : Option Nat) (w : World) :
    Calls Tryd.prog 25 #[.map mb] w fun e w' => e = .returned (.func (.func 41) #[] #[.pointer (some ⟨w.heap.size, 0, none⟩)]) ∧ w' = w.alloc (.cells #[.map mb] 51) := by
  go_enter Tryd.func25, Tryd.ntmps25
  go_wp2
  go_ret
  exact ⟨rfl, rfl⟩
end Go.Proofs.YtjfanbemihheiaaDoor.Ma
