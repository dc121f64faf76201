/-
  Lists of files put together: slices.Grow, slices.Concat.
-/
import Derived.Test.YtjfanbemihheiaaDoorQManHeap
import Derived.Test.YtjfanbemihheiaaDoorQMergeShelf
import Derived.Shelf.Spec.SlicesGrow
namespace Go.Proofs.YtjfanbemihheiaaDoor.Ma
open Go.RowKit Cm
set_option linter.unusedVariables false

def Own0 (w : World) (B : Nat) (v : Value) : Prop := w.ownsRow B 28 2 v 0 []
theorem grow_any (n : Nat) (w : World) (hn : n ≤ 1000000000000) :
    Calls Tryd.prog 39 #[.slice none 0 0, .int .i64 n] w fun e w' => ∃ v, e = .returned v ∧ Own0 w' w.heap.size v ∧ Below w.heap.size w w' := by
  by_cases h0 : n = 0
  · subst h0
    have h : Calls Tryd.prog 39 #[.slice none 0 0, .int .i64 (0 : Nat)] w fun e w' => e = .returned (.slice none 0 0) ∧ w' = w :=
      Any8.slices_Grow_room Tryd.growE none 0 0 0 w (by omega) (by omega) (by omega) (by omega)
    refine h.mono ?_
    rintro e w' ⟨rfl, rfl⟩
    exact ⟨_, rfl, World.ownsRow_nil _ _ _ _, Below.refl _ _⟩
  · obtain ⟨i0, hi, hz0, hz1, hz2⟩ := info_parts infoFi
    have h := Any8.slices_Grow_grow Tryd.growE i0 _ hi hz0 (by rw [hz1]; omega) none 0 0 n [] w (by omega) (by omega) (by rw [hz2]; omega) (by omega) (by simp) (fun _ => rfl) (fun a ha => by cases ha)
    have h' : Calls Tryd.prog 39 #[.slice none 0 0, .int .i64 n] w _ := h
    refine h'.mono ?_
    rintro e w' ⟨rfl, rfl⟩
    refine ⟨_, rfl, ⟨by simp, .inr ⟨w.heap.size, _, _, rfl, Nat.le_refl _, heap_alloc_new w.drew _, by omega, grownCap_le_maxLen _ _ _ _ (by unfold maxLen; omega), ?_, by simp⟩⟩, (Below.refl _ w).drew.alloc (by simp) _⟩
    have hge := grownCap_ge w (0 + n) 0 28
    have hz : ∀ m, (Builtin.zeroCells (Value.agg #[.int .i64 0, .int .i64 0]).cells m).size = m * 2 := fun m => by simp [Builtin.zeroCells, Value.cells]
    rw [Array.size_append, Array.size_append, hz, hz]
    show 0 + (0 + n - 0) * 2 + (grownCap w (0 + n) 0 28 - (0 + n)) * 2 = grownCap w (0 + n) 0 28 * 2
    omega
/-- A slice of lists. -/
def Lists (w : World) (ao : Option Addr) (ls : List (List Fi)) : Prop := ∀ i, i < ls.length → ∃ b off p c, ao = some ⟨b, off, none⟩ ∧ b < w.heap.size ∧ w.cell? ⟨b, off + i, none⟩ = some (.slice p (ls.getD i []).length c) ∧ (p = none → c = 0) ∧ ElemsAt fiShape w p (ls.getD i [])
theorem Lists.later {w w' : World} {ao : Option Addr} {ls : List (List Fi)} (h : Lists w ao ls) (hb : Below w.heap.size w w') : Lists w' ao ls := fun i hi => by
  obtain ⟨b, off, p, c, h1, h2, h3, h4, h5⟩ := h i hi
  exact ⟨b, off, p, c, h1, Nat.lt_of_lt_of_le h2 hb.size, (World.cell?_of_block (hb.block b h2)).trans h3, h4, h5.later hb⟩
theorem Lists.none (w : World) (ao : Option Addr) : Lists w ao [] := fun i hi => by simp at hi
theorem flat_next {ls : List (List Fi)} {i : Nat} (h : i < ls.length) : (ls.take (i + 1)).flatten = (ls.take i).flatten ++ ls.getD i [] := by
  rw [List.take_add_one, List.getElem?_eq_getElem h, List.flatten_append, List.getD_eq_getElem?_getD, List.getElem?_eq_getElem h]; simp
theorem flat_le (ls : List (List Fi)) (i : Nat) : (ls.take i).flatten.length ≤ ls.flatten.length := by
  conv => rhs; rw [← List.take_append_drop i ls]
  rw [List.flatten_append, List.length_append]; omega

set_option maxRecDepth 100000 in
set_option maxHeartbeats 1000000 in
theorem concat_any (ao : Option Addr) (mc : Nat) (ls : List (List Fi)) (w : World) (h : Lists w ao ls) (hm : ls.length ≤ 1000000000000) (hl : ls.flatten.length ≤ 1000000000000) :
    Calls Tryd.prog 23 #[.slice ao ls.length mc] w fun e w' => ∃ v, e = .returned v ∧ w'.ownsRow w.heap.size 28 2 v ls.flatten.length (fiShape.vals ls.flatten) ∧ Below w.heap.size w w' := by
  obtain ⟨i0, hi, hz0, hz1, hz2⟩ := info_parts infoFi
  obtain ⟨m, hmm⟩ : ∃ m, m = ls.length := ⟨_, rfl⟩
  have HM : Hid _ := hmm
  rw [← hmm] at hm ⊢
  obtain ⟨T, hT⟩ : ∃ T : Nat → Nat, T = fun i => (ls.take i).flatten.length := ⟨_, rfl⟩
  have HT0 : Hid (T 0 = 0) := by rw [hT]; show _ = _; simp
  have HTb : Hid (∀ i, T i ≤ 1000000000000) := fun i => by rw [hT]; exact Nat.le_trans (flat_le ls i) hl
  have HTS : Hid (∀ i, i < m → T (i + 1) = T i + (ls.getD i []).length) := fun i hi => by
    rw [hT]; show ((ls.take (i + 1)).flatten).length = _; rw [flat_next (by omega), List.length_append]
  obtain ⟨Nl, hNl⟩ : ∃ n, n = ls.flatten.length := ⟨_, rfl⟩
  have HTm : Hid (T m = Nl) := by rw [hT, hNl]; show ((ls.take m).flatten).length = _; rw [hmm, List.take_length]
  rw [← hNl]
  have HTd : Hid (∀ i, T i = (ls.take i).flatten.length) := fun i => by rw [hT]
  have HL : Hid (∀ X, Below w.heap.size w X → Lists X ao ls) := fun X hX => h.later hX
  clear h hmm hT hl hNl
  go_enter Tryd.func23, Tryd.ntmps23
  go_wp2
  go_loop [3, 11] (fun vs vi => ∃ i : Nat, vs = .int .i64 (T i : Nat) ∧ vi = .int .i64 i ∧ i ≤ m) (fun _ vi => m - (intOf vi).toNat)
  case atStart => exact ⟨0, by rw [HT0.out]; rfl, rfl, by omega⟩
  case round =>
    obtain ⟨i, rfl, rfl, him⟩ := hrel
    by_cases hlt : i < m
    · obtain ⟨b, off, p, c, rfl, hb, hc, _, _⟩ := HL.out w (Below.refl _ _) i (by have := HM.out; omega)
      have hlt' : (i : Int) < (m : Int) := by omega
      have ht1 := HTb.out (i + 1)
      have hts := HTS.out i hlt
      have HTS1 : Hid _ := hts
      rw [hts] at ht1
      generalize (ls.getD i []).length = l at *
      generalize hti : T i = t at *
      have HTI : Hid _ := hti
      clear hti hts
      have ht0 : t ≤ 1000000000000 := by omega
      have hl0 : l ≤ 1000000000000 := by omega
      have hnn : ¬ ((t : Int) + (l : Int) < 0) := by omega
      go_wp2
      go_round
      case rel => exact ⟨i + 1, by rw [HTS1.out]; go_num, by go_num, by omega⟩
      case measure => simp [intOf]; omega
    · obtain rfl : i = m := by omega
      have hlt' : ¬ (i : Int) < (i : Int) := by omega
      have htb := HTb.out i
      have hg := grow_any (T i) w htb
      have HG : Hid _ := hg
      clear hg htb hlt hlt'
      go_wp2_with (go_at_call 39; refine (show Calls _ _ _ _ _ from HG.out).mono ?_; rintro e w1 ⟨v0, rfl, ho, hb1⟩; have HO : Hid _ := ho; have HB : Hid _ := hb1; clear ho hb1)
      clear HG
      go_loopw [6, 27] (fun v vi wr => ∃ k : Nat, vi = .int .i64 k ∧ k ≤ i ∧ Hid (wr.ownsRow w.heap.size 28 2 v (T k) (fiShape.vals (ls.take k).flatten)) ∧ Hid (Below w.heap.size w wr)) (fun _ vi _ => i - (intOf vi).toNat)
      case atStart => exact ⟨0, rfl, by omega, by
        rw [HT0.out, show fiShape.vals (ls.take 0).flatten = [] by simp [Shape.vals]]; exact HO, HB⟩
      case round =>
        clear HO HB
        obtain ⟨k, rfl, hk, HO, HB⟩ := hrel
        by_cases hlt : k < i
        · obtain ⟨b, off, p, c, rfl, hb, hc, hpn, hel⟩ := HL.out wr HB.out k (by have := HM.out; omega)
          have hlt' : (k : Int) < (i : Int) := by omega
          have ht1 := HTb.out (k + 1)
          have hts := HTS.out k hlt
          have HTS1 : Hid _ := hts
          have HF : Hid _ := flat_next (ls := ls) (i := k) (by have := HM.out; omega)
          rw [hts] at ht1
          generalize hq : ls.getD k [] = q at *
          generalize hlq : q.length = l at *
          clear hts hq
          go_wp2_with (at_builtin; refine wpList_append_rows (F := fiShape) _ rfl _ _ 22 rfl w.heap.size 28 i0 _ 16 Tryd.underlying22 hi hz0 hz1 hz2 rfl _ (T k) (ls.take k).flatten rfl HO.out p l c q rfl hpn hlq hel ?c1 ?c2 ?c3 ?_)
          case c1 => unfold maxLen; omega
          case c2 => omega
          case c3 => exact HB.out.size
          intro v5 w5 hown5 hgrow5 hat5
          have HB5 : Hid (Below w.heap.size w w5) := HB.out.grown hgrow5 HB.out.size (fun j hj => (World.ownsRow.lt HO.out j hj).1)
          have HO5 : Hid (w5.ownsRow w.heap.size 28 2 v5 (T (k + 1)) (fiShape.vals (ls.take (k + 1)).flatten)) := by rw [HF.out, HTS1.out]; exact hown5
          clear hown5 hgrow5 hat5 hel hc hpn HO HB
          go_wp2
          go_roundw
          case rel => exact ⟨k + 1, by go_num, by omega, HO5, HB5⟩
          case measure => simp [intOf]; omega
        · obtain rfl : k = i := by omega
          have hlt' : ¬ (k : Int) < (k : Int) := by omega
          have HF : Hid ((ls.take k).flatten = ls.flatten) := by rw [HM.out]; show _ = _; rw [List.take_length]
          have ho := HO.out
          rw [HF.out, HTm.out] at ho
          have HO2 : Hid _ := ho
          clear ho HO hlt
          go_wp2
          go_ret
          exact ⟨_, rfl, HO2.out, HB.out⟩
end Go.Proofs.YtjfanbemihheiaaDoor.Ma
