/-
  Package merge: View.
-/
import Derived.Test.YtdaibmafnamfgaaMergeMerge
import Derived.Test.YtdaibmafnamfgaaMergeByKey
namespace Go.Proofs.Ytdaibmafnamfgaa.Mg
open Go.RowKit Cm Mm
set_option linter.unusedVariables false

set_option maxRecDepth 100000 in
theorem viewFn_any (x : En) (n : Int) (bx : Nat) (w : World) (h : w.cell? ⟨bx, 0, none⟩ = some (.int .i64 n)) :
    Calls Try.prog 38 #[env x, .pointer (some ⟨bx, 0, none⟩)] w fun e w' => e = .returned (.bool (decide (x.seq ≤ n))) ∧ Below w.heap.size w w' := by
  have hb : (w.alloc (entObj x)).cell? ⟨bx, 0, none⟩ = some (.int .i64 n) := by
    have hl : bx < w.heap.size := World.block_lt_of_cell? w _ h
    exact (World.cell?_of_block (Below.heap_alloc _ _ _ hl)).trans h
  have hB : Below w.heap.size w (w.alloc (entObj x)) := (Below.refl _ _).alloc (Nat.le_refl _) _
  unfold env
  unfold entObj at hb hB
  have HB : Hid _ := hB
  clear hB
  go_enter Try.func38, Try.ntmps38
  go_wp2
  go_ret
  exact ⟨rfl, HB.out⟩
/-- The first of these that isn't above the number, as an index; -1 for none. -/
def IdxOf (n : Int) (g : List En) (r : Int) : Prop := (r = -1 ∧ ∀ j, j < g.length → n < (g.getD j En.zero).seq) ∨ ∃ k : Nat, r = k ∧ k < g.length ∧ (g.getD k En.zero).seq ≤ n ∧ ∀ j, j < k → n < (g.getD j En.zero).seq
def IdxAns (n : Int) (g : List En) (e : Ending) : Prop := ∃ r : Int, e = .returned (.int .i64 r) ∧ IdxOf n g r
theorem find_first {n : Int} : ∀ {g : List En} {k : Nat}, k < g.length → (g.getD k En.zero).seq ≤ n → (∀ j, j < k → n < (g.getD j En.zero).seq) → g.find? (fun e => decide (e.seq ≤ n)) = some (g.getD k En.zero)
  | [], k, h, _, _ => by simp at h
  | x :: g, 0, _, h, _ => by
    have h' : x.seq ≤ n := h
    rw [List.find?_cons, decide_eq_true h']; rfl
  | x :: g, k + 1, hk, h, hj => by
    have h0 : n < x.seq := hj 0 (by omega)
    rw [List.find?_cons, decide_eq_false (by omega)]
    exact find_first (by simpa using hk) h fun j hj2 => hj (j + 1) (by omega)
theorem find_none {n : Int} {g : List En} (h : ∀ j, j < g.length → n < (g.getD j En.zero).seq) : g.find? (fun e => decide (e.seq ≤ n)) = none := by
  rw [List.find?_eq_none]
  intro e he
  obtain ⟨j, hj, rfl⟩ := List.getElem_of_mem he
  have := h j hj
  rw [getD_eq hj] at this
  simp; omega
set_option maxRecDepth 100000 in
theorem indexFunc_any (ao : Option Addr) (c : Nat) (g : List En) (n : Int) (bx : Nat) (w : World) (hx : ElemsAt enShape w ao g) (hb : w.cell? ⟨bx, 0, none⟩ = some (.int .i64 n)) (hl : g.length ≤ 1000000000000) :
    Calls Try.prog 37 #[.slice ao g.length c, .func (.func 38) #[] #[.pointer (some ⟨bx, 0, none⟩)]] w fun e w' => IdxAns n g e ∧ Below w.heap.size w w' := by
  obtain ⟨m, hm⟩ : ∃ m, m = g.length := ⟨_, rfl⟩
  have HM : Hid _ := hm
  rw [← hm] at hl ⊢
  have HX : Hid (∀ X, Below w.heap.size w X → ElemsAt enShape X ao g) := fun X hX => hx.later hX
  have hbl := World.block_lt_of_cell? w _ hb
  have HBX : Hid (∀ X, Below w.heap.size w X → X.cell? ⟨bx, 0, none⟩ = some (.int .i64 n)) := fun X hX => (World.cell?_of_block (hX.block bx hbl)).trans hb
  clear hx hb hm hbl
  go_enter Try.func37, Try.ntmps37
  go_wp2
  go_loopw [8] (fun vi wr => ∃ i : Nat, vi = .int .i64 i ∧ i ≤ m ∧ Hid (∀ j, j < i → n < (g.getD j En.zero).seq) ∧ Hid (Below w.heap.size w wr)) (fun vi _ => m - (intOf vi).toNat)
  case atStart => exact ⟨0, rfl, by omega, fun j hj => by omega, Below.refl _ _⟩
  case round =>
    obtain ⟨i, rfl, him, HJ, HB⟩ := hrel
    by_cases hlt : i < m
    · have hlt' : (i : Int) < (m : Int) := by omega
      obtain ⟨pb, off, rfl, k0, k1, k2, k3⟩ := elem_cells (HX.out wr HB.out) (k := i) (by have := HM.out; omega)
      have HL : Hid _ := viewFn_any (g.getD i En.zero) n bx wr (HBX.out wr HB.out)
      unfold env at HL
      have HBr : Hid (∀ X, Below wr.heap.size wr X → Below w.heap.size w X) := fun X hX => HB.out.trans (hX.mono HB.out.size)
      have HG : Hid (g.getD i En.zero = g.getD i En.zero) := rfl
      have HJn : Hid (n < (g.getD i En.zero).seq → ∀ j, j < i + 1 → n < (g.getD j En.zero).seq) := fun h j hj => by
        by_cases e : j = i
        · rw [e]; exact h
        · exact HJ.out j (by omega)
      have HJd : Hid ((g.getD i En.zero).seq ≤ n → IdxOf n g i) := fun h => .inr ⟨i, rfl, by have := HM.out; omega, h, HJ.out⟩
      clear HX HG HJ HB
      generalize g.getD i En.zero = x at *
      by_cases hx : x.seq ≤ n
      · have HD : Hid _ := HJd.out hx
        rw [decide_eq_true hx] at HL
        clear hx HJd HJn
        go_wp2_with (go_at_call 38; refine (show Calls _ _ _ _ _ from HL.out).mono ?_; rintro e w1 ⟨rfl, hb1⟩; have HB1 : Hid _ := HBr.out _ hb1; clear hb1)
        go_ret
        exact ⟨⟨i, rfl, HD.out⟩, HB1.out⟩
      · have HD : Hid _ := HJn.out (by omega)
        rw [decide_eq_false hx] at HL
        clear hx HJd HJn
        go_wp2_with (go_at_call 38; refine (show Calls _ _ _ _ _ from HL.out).mono ?_; rintro e w1 ⟨rfl, hb1⟩; have HB1 : Hid _ := HBr.out _ hb1; clear hb1)
        go_roundw
        case rel => exact ⟨i + 1, by go_num, by omega, HD, HB1⟩
        case measure => simp [intOf]; omega
    · obtain rfl : i = m := by omega
      have hlt' : ¬ (i : Int) < (i : Int) := by omega
      have HD : Hid (IdxOf n g (-1)) := .inl ⟨rfl, by have := HM.out; rw [← this]; exact HJ.out⟩
      clear HX HJ HM
      go_wp2
      go_ret
      exact ⟨⟨-1, rfl, HD.out⟩, HB.out⟩
/-- One list in a slice of its own. -/
theorem lists1 (w : World) (ao : Option Addr) (c : Nat) (l : List En) (hx : ElemsAt enShape w ao l) (hnil : ao = none → c = 0) : Lists (w.alloc (.cells #[.slice ao l.length c] 22)) (some ⟨w.heap.size, 0, none⟩) [l] := fun i hi => by
  obtain rfl : i = 0 := by simpa using hi
  refine ⟨w.heap.size, 0, ao, c, rfl, by simp, ?_, hnil, hx.later ((Below.refl _ _).alloc (Nat.le_refl _) _)⟩
  rw [Joins.cell_of_block (show (w.alloc (.cells #[.slice ao l.length c] 22)).heap[w.heap.size]? = some (.cells #[.slice ao l.length c] 22 (0, 0)) from heap_alloc_new w _)]
  rfl
theorem flatMap_next {f : List En → List En} {gs : List (List En)} {i : Nat} (h : i < gs.length) : (gs.take (i + 1)).flatMap f = (gs.take i).flatMap f ++ f (gs.getD i []) := by
  rw [List.take_add_one, List.getElem?_eq_getElem h, List.flatMap_append, List.getD_eq_getElem?_getD, List.getElem?_eq_getElem h]; simp
theorem own_base {w : World} {B B' k n : Nat} {e : TypeId} {v : Value} {vs : List Value} (h : w.ownsRow B' e k v n vs) (hB : B ≤ B') : w.ownsRow B e k v n vs := by
  refine ⟨h.1, ?_⟩
  rcases h.2 with h | ⟨g, cap, cur, h1, h2, h3⟩
  · exact .inl h
  · exact .inr ⟨g, cap, cur, h1, Nat.le_trans hB h2, h3⟩
/-- The groups of a list, merged: what View and Trim go by. -/
def GAns (w : World) (l : List En) (e : Ending) (w' : World) : Prop := ∃ go gc gs, e = .returned (.slice go gs.length gc) ∧ Lists w' go gs ∧ gs.flatten = merged l ∧ Good gs ∧ gs.length ≤ l.length ∧ (∀ g ∈ gs, g.length ≤ l.length) ∧ Below w.heap.size w w'
theorem own_lens {w : World} {B : Nat} {v : Value} {L : List En} (h : OwnE w B v L) : ∃ ao c, v = .slice ao L.length c ∧ (ao = none → c = 0) ∧ ElemsAt enShape w ao L ∧ L.length ≤ c ∧ c ≤ 9223372036854775807 := by
  have h' : w.ownsRow B 28 enShape.sz v L.length (enShape.vals L) := h
  obtain ⟨ao, c, rfl, q1, _, q3, q4⟩ := own_rows (F := enShape) h'
  refine ⟨ao, c, rfl, q1, q4, q3, ?_⟩
  rcases h.2 with ⟨e1, _⟩ | ⟨g', cap', cur, e1, hB, hg, hle, hcm, _⟩
  · injection e1 with _ _ e3; omega
  · cases e1; unfold maxLen at hcm; omega
theorem flat_mem {gs : List (List En)} {g : List En} (h : g ∈ gs) : g.length ≤ gs.flatten.length := by
  induction gs with
  | nil => cases h
  | cons a gs ih =>
    rw [List.flatten_cons, List.length_append]
    rcases List.mem_cons.1 h with rfl | h
    · omega
    · have := ih h; omega
theorem groups_any {w w1 : World} {v : Value} {l : List En} (hO : OwnE w1 w.heap.size v (merged l)) (hb : Below w.heap.size w w1) (hl : l.length ≤ 1000000000000) :
    Calls Try.prog 33 #[v] w1 fun e w' => GAns w l e w' := by
  obtain ⟨ao, c, rfl, _, hx, hc, hc63⟩ := own_lens hO
  have hml := merged_len l
  refine (byKey_any ao c (merged l) w1 hx (merged_sorted l) (by omega) hc hc63).mono ?_
  rintro e w' ⟨go, gc, gs, rfl, h1, h2, h3, h4, h5⟩
  refine ⟨go, gc, gs, rfl, h1, h2, h3, by omega, fun g hg => ?_, hb.trans (h5.mono hb.size)⟩
  have := flat_mem hg
  rw [h2] at this
  omega

set_option maxRecDepth 100000 in
set_option maxHeartbeats 2000000 in
theorem view_any (ao : Option Addr) (c : Nat) (l : List En) (n : Int) (w : World) (hx : ElemsAt enShape w ao l) (hnil : ao = none → c = 0) (hl : l.length ≤ 1000000000000) :
    Calls Try.prog 16 #[.slice ao l.length c, .int .i64 n] w (MAns w (view n (merged l))) := by
  obtain ⟨i0, hi, hz0, hz1, hz2⟩ := info_parts infoEn
  have hw1 : Below w.heap.size w (w.alloc (.cells #[.int .i64 n] 3)) := (Below.refl _ _).alloc (Nat.le_refl _) _
  have HL : Hid _ := lists1 (w.alloc (.cells #[.int .i64 n] 3)) ao c l (hx.later hw1) hnil
  have hbx : (w.alloc (.cells #[.int .i64 n] 3)).cell? ⟨w.heap.size, 0, none⟩ = some (.int .i64 n) := by
    rw [Joins.cell_of_block (show (w.alloc (.cells #[.int .i64 n] 3)).heap[w.heap.size]? = some (.cells #[.int .i64 n] 3 (0, 0)) from heap_alloc_new w _)]; rfl
  obtain ⟨m, hm⟩ : ∃ m, m = l.length := ⟨_, rfl⟩
  have HM : Hid _ := hm
  have HLL : Hid (l.length ≤ 1000000000000) := hl
  have HW1 : Hid _ := hw1
  have HBX : Hid (∀ X, Below (w.alloc (.cells #[.int .i64 n] 3)).heap.size (w.alloc (.cells #[.int .i64 n] 3)) X → X.cell? ⟨w.heap.size, 0, none⟩ = some (.int .i64 n)) := fun X hX => (World.cell?_of_block (hX.block _ (by simp))).trans hbx
  have HB1 : Hid (Below (w.alloc (.cells #[.int .i64 n] 3)).heap.size (w.alloc (.cells #[.int .i64 n] 3)) ((w.alloc (.cells #[.int .i64 n] 3)).alloc (.cells #[.slice ao l.length c] 22))) := (Below.refl _ _).alloc (Nat.le_refl _) _
  have hmg := merge_any _ 1 [l] _ HL (by simp) (by simpa using hl)
  rw [show [l].flatten = l by simp, show (w.alloc (.cells #[.int .i64 n] 3)).heap.size = w.heap.size + 1 by simp] at hmg
  have HMG : Hid _ := hmg
  rw [← hm] at HMG HB1 ⊢
  clear hx hnil hm hw1 hbx hl hmg HL
  go_enter Try.func16, Try.ntmps16
  go_wp2_with fail
  refine (show Calls _ _ _ _ _ from HMG.out).mono ?_
  rintro e w3 ⟨v, rfl, hO, hb3⟩
  have HG : Hid _ := groups_any hO hb3 HLL.out
  clear hO hb3 HMG
  go_wp2_with fail
  refine (show Calls _ _ _ _ _ from HG.out).mono ?_
  rintro e w4 ⟨go, gc, gs, rfl, hL, hfl, hgd, hgl, hgg, hb4⟩
  obtain ⟨k, hk⟩ : ∃ k, k = gs.length := ⟨_, rfl⟩
  have HK : Hid _ := hk
  rw [← hk]
  have hkm : k ≤ 1000000000000 := by have := HLL.out; omega
  have HGG : Hid _ := hgg
  have HFL : Hid (view n (merged l) = gs.flatMap (vg n)) := by rw [← hfl]; exact view_groups hgd
  have HLS : Hid (∀ X, Below w4.heap.size w4 X → Lists X go gs) := fun X hX => hL.later hX
  have HB4 : Hid (∀ X, Below w4.heap.size w4 X → Below (w.alloc (.cells #[.int .i64 n] 3)).heap.size (w.alloc (.cells #[.int .i64 n] 3)) X) := fun X hX => by
    have h1 := HB1.out.trans (hb4.mono HB1.out.size)
    exact h1.trans (hX.mono h1.size)
  have HWS : Hid (w.heap.size ≤ w4.heap.size) := by
    have h1 := HW1.out.size
    have h2 := HB1.out.size
    have h3 := hb4.size
    exact Nat.le_trans h1 (Nat.le_trans h2 h3)
  clear hk hgg hfl hL hgd hgl hb4 HG HB1
  go_wp2
  go_loopw [5, 14] (fun v vi wr => ∃ (i q : Nat) (acc : List En), vi = .int .i64 i ∧ i ≤ k ∧ q ≤ i ∧ Hid (acc.length = q) ∧ Hid (acc = (gs.take i).flatMap (vg n)) ∧ Hid (wr.ownsRow w4.heap.size 28 4 v q (enShape.vals acc)) ∧ Hid (Below w4.heap.size w4 wr)) (fun _ vi _ => k - (intOf vi).toNat)
  case atStart => exact ⟨0, 0, [], rfl, by omega, by omega, rfl, rfl, World.ownsRow_nil _ _ _ _, Below.refl _ _⟩
  case round =>
    obtain ⟨i, q, acc, rfl, hik, hqi, HQ, HA, HO, HB⟩ := hrel
    by_cases hlt : i < k
    · have hlt' : (i : Int) < (k : Int) := by omega
      obtain ⟨gb, goff, p, cc, rfl, hgb, hcell, hpn, hel⟩ := HLS.out wr HB.out i (by have := HK.out; omega)
      have hgl : (gs.getD i []).length ≤ 1000000000000 := by
        have h1 := HK.out
        have h2 := HGG.out (gs.getD i []) (by rw [List.getD_eq_getElem?_getD, List.getElem?_eq_getElem (by omega)]; exact List.getElem_mem _)
        have h3 := HLL.out
        omega
      have HI : Hid _ := indexFunc_any p cc (gs.getD i []) n w.heap.size wr hel (HBX.out wr (HB4.out wr HB.out)) hgl
      have HFN : Hid ((gs.take (i + 1)).flatMap (vg n) = acc ++ vg n (gs.getD i [])) := by rw [HA.out]; exact flatMap_next (by have := HK.out; omega)
      generalize gs.getD i [] = g at *
      have HEL : Hid (∀ X, Below wr.heap.size wr X → ElemsAt enShape X p g) := fun X hX => hel.later hX
      obtain ⟨lg, hlg⟩ : ∃ lg, lg = g.length := ⟨_, rfl⟩
      have HLG : Hid _ := hlg
      rw [← hlg] at hcell HI hgl
      clear hel hpn hlg
      have hbs := HB.out.size
      go_wp2_with fail
      refine (show Calls _ _ _ _ _ from HI.out).mono ?_
      rintro e w5 ⟨⟨r, rfl, hid⟩, hb5⟩
      have HB5 : Hid (Below w4.heap.size w4 w5) := HB.out.trans (hb5.mono hbs)
      have HO5 : Hid (w5.ownsRow w4.heap.size 28 4 _ q (enShape.vals acc)) := rows_keep HO.out fun j hj => hb5.block j (World.ownsRow.lt HO.out j hj).2
      rcases hid with ⟨rfl, hj⟩ | ⟨k0, rfl, hk0, hle, hj⟩
      · have HF2 : Hid (acc = (gs.take (i + 1)).flatMap (vg n)) := by
          rw [HFN.out]
          unfold vg
          rw [find_none hj]; simp [Hid]
        clear hj hb5 HI HFN HEL hcell HA HO HB
        go_wp2
        go_roundw
        case rel => exact ⟨i + 1, q, acc, by go_num, by omega, by omega, HQ, HF2, HO5, HB5⟩
        case measure => simp [intOf]; omega
      · obtain ⟨pb, off, rfl, c0, c1, c2, c3⟩ := elem_cells (HEL.out w5 hb5) (k := k0) hk0
        have hvg : vg n g = if (g.getD k0 En.zero).dead then [] else [g.getD k0 En.zero] := by
          unfold vg
          rw [find_first hk0 hle hj]
        rw [hvg] at HFN
        have h00 : (0 : Int) ≤ (k0 : Int) := by omega
        have h01 : (k0 : Int) < (lg : Int) := by have := HLG.out; omega
        clear hj hb5 HI HEL hcell HA HO HB hvg hle hk0
        generalize g.getD k0 En.zero = x at *
        cases hd : x.dead
        · rw [hd] at c2 HFN
          have HF2 : Hid (acc ++ [x] = (gs.take (i + 1)).flatMap (vg n)) := HFN.out.symm
          have HBa : Hid (Below w4.heap.size w4 (w5.alloc (.cells #[.string x.key, .int .i64 x.seq, .bool false, .string x.val] 28))) := HB5.out.alloc HB5.out.size _
          have helm : ElemsAt enShape (w5.alloc (entObj x)) (some ⟨w5.heap.size, 0, none⟩) [x] := elems1 x
          unfold entObj at helm
          rw [hd] at helm
          have HEm : Hid _ := helm
          have hs5 := HB5.out.size
          clear helm HFN hd
          go_wp2_with (at_builtin; refine wpList_append_rows (F := enShape) _ rfl _ _ 22 rfl w4.heap.size 28 i0 _ 48 Try.underlying22 hi hz0 hz1 hz2 rfl _ q acc rfl (World.ownsRow.alloc HO5.out _) (some ⟨w5.heap.size, 0, none⟩) 1 1 [x] rfl (by simp) rfl HEm.out ?c1 ?c2 ?c3 ?_)
          case c1 => unfold maxLen; omega
          case c2 => omega
          case c3 => simp; omega
          intro v6 w6 hown6 hgrow6 hat6
          have HB6 : Hid (Below w4.heap.size w4 w6) := HBa.out.grown hgrow6 (by simp; omega) (fun k hk => (World.ownsRow.lt HO5.out k hk).1)
          have HO6 : Hid (w6.ownsRow w4.heap.size 28 4 v6 (q + 1) (enShape.vals (acc ++ [x]))) := hown6
          clear hown6 hgrow6 hat6 c0 c1 c2 c3 HO5 HB5 HBa HEm
          go_wp2
          go_roundw
          case rel => exact ⟨i + 1, q + 1, acc ++ [x], by go_num, by omega, by omega, by have := HQ.out; show _ = _; simp; omega, HF2, HO6, HB6⟩
          case measure => simp [intOf]; omega
        · rw [hd] at c2 HFN
          have HF2 : Hid (acc = (gs.take (i + 1)).flatMap (vg n)) := by rw [HFN.out]; simp [Hid]
          clear HFN hd
          go_wp2
          go_roundw
          case rel => exact ⟨i + 1, q, acc, by go_num, by omega, by omega, HQ, HF2, HO5, HB5⟩
          case measure => simp [intOf]; omega
    · obtain rfl : i = k := by omega
      have hlt' : ¬ (i : Int) < (i : Int) := by omega
      have HE : Hid (acc = view n (merged l)) := by
        rw [HFL.out]
        have := HA.out
        rw [HK.out, List.take_length] at this
        exact this
      have HBf : Hid (Below w.heap.size w wr) := HW1.out.trans ((HB4.out wr HB.out).mono HW1.out.size)
      have hof := own_base HO.out HWS.out
      rw [← HQ.out, HE.out] at hof
      have HOf : Hid _ := hof
      clear hof
      clear HO HB HLS HB4 HBX HW1
      go_wp2
      go_ret
      exact ⟨_, rfl, HOf.out, HBf.out⟩
end Go.Proofs.Ytdaibmafnamfgaa.Mg
