/-
  Package merge: what of one key's versions stays.
-/
import Derived.Test.YtdaibmafnamfgaaMergeView
import Derived.Test.YtdaibmafnamfgaaMergeNums
import Derived.Shelf.Slices.SearchI
import Derived.Shelf.Slices.Empties
namespace Go.Proofs.Ytdaibmafnamfgaa.Mg
open Go.RowKit Go.Shelf Cm Mm
set_option linter.unusedVariables false

theorem any_count : ∀ {ns : List Int} (h : ns.Pairwise (· ≤ ·)) (fr en : Int), (ns.any fun n => decide (fr ≤ n) && decide (n < en)) = (decide (ns.countP (· < fr) < ns.length) && decide (ns.getD (ns.countP (· < fr)) 0 < en))
  | [], _, fr, en => by simp
  | y :: t, h, fr, en => by
    rw [List.pairwise_cons] at h
    by_cases hy : y < fr
    · have e1 : (y :: t).countP (· < fr) = t.countP (· < fr) + 1 := by rw [List.countP_cons]; simp [hy]
      rw [e1, List.any_cons, any_count h.2 fr en]
      have : decide (fr ≤ y) = false := by simp; omega
      rw [this]
      simp
    · have e1 : (y :: t).countP (· < fr) = 0 := by
        rw [List.countP_eq_zero]
        intro z hz
        rcases List.mem_cons.1 hz with rfl | hz
        · simpa using hy
        · have := h.1 z hz; simp; omega
      rw [e1, List.any_cons]
      have h1 : decide (fr ≤ y) = true := by simp; omega
      rw [h1]
      by_cases h2 : y < en
      · simp [h2]
      · have h3 : (t.any fun n => decide (fr ≤ n) && decide (n < en)) = false := by
          rw [List.any_eq_false]
          intro z hz
          have := h.1 z hz
          simp; omega
        rw [h3]
        simp [h2]
/-- Numbers in a slice: nil, or cells. -/
def NumRow (w : World) (v : Value) (ns : List Int) : Prop := ∃ ao c, v = .slice ao ns.length c ∧ ((ao = none ∧ ns = []) ∨ ∃ b off, ao = some ⟨b, off, none⟩ ∧ b < w.heap.size ∧ ∀ j, j < ns.length → w.cell? ⟨b, off + j, none⟩ = some (.int .i64 (ns.getD j 0)))
theorem NumRow.later {w w' : World} {v : Value} {ns : List Int} (h : NumRow w v ns) (hb : Below w.heap.size w w') : NumRow w' v ns := by
  obtain ⟨ao, c, rfl, h⟩ := h
  refine ⟨ao, c, rfl, ?_⟩
  rcases h with h | ⟨b, off, rfl, hlt, hc⟩
  · exact .inl h
  · exact .inr ⟨b, off, rfl, Nat.lt_of_lt_of_le hlt hb.size, fun j hj => (World.cell?_of_block (hb.block b hlt)).trans (hc j hj)⟩
theorem NumRow.of_own {w : World} {B : Nat} {v : Value} {ns : List Int} (h : w.ownsRow B 3 1 v ns.length (ns.map (Value.int .i64))) : NumRow w v ns := by
  rcases h.2 with ⟨rfl, h0⟩ | ⟨g, cap, cur, rfl, _, hg, _⟩
  · have : ns = [] := List.length_eq_zero_iff.1 h0
    subst this
    exact ⟨none, 0, rfl, .inl ⟨rfl, rfl⟩⟩
  · refine ⟨_, cap, rfl, .inr ⟨g, 0, rfl, lt_of_block hg, fun j hj => ?_⟩⟩
    have := h.cells (g := g) rfl j (.int .i64 (ns.getD j 0)) (by rw [List.getElem?_map, List.getD_eq_getElem?_getD, List.getElem?_eq_getElem hj]; rfl)
    rw [Go.WideShapes.add_plain] at this
    exact this
def within (ns : List Int) (fr en : Int) : Bool := ns.any fun n => decide (fr ≤ n) && decide (n < en)
set_option maxRecDepth 100000 in
theorem anyWithin_any {v : Value} {ns : List Int} (hs : ns.Pairwise (· ≤ ·)) (hl : ns.length ≤ 1000000000000) (fr en : Int) (w : World) (h : NumRow w v ns) :
    Calls Try.prog 52 #[v, .int .i64 fr, .int .i64 en] w fun e w' => e = .returned (.bool (within ns fr en)) ∧ ∃ q, w' = w.drewN q := by
  have hW : within ns fr en = _ := any_count hs fr en
  obtain ⟨ao, c, rfl, h⟩ := h
  obtain ⟨m, hm⟩ : ∃ m, m = ns.length := ⟨_, rfl⟩
  rw [← hm] at hW hl ⊢
  rcases h with ⟨rfl, rfl⟩ | ⟨b, off, rfl, hb, hc⟩
  · have h0 : m = 0 := by simpa using hm
    subst h0
    have HS : Hid (Calls Try.prog 63 #[.slice none 0 c, .int .i64 fr] w fun e w' => e = .returned (.tuple #[.int .i64 0, .bool false]) ∧ w' = w) := Any.slices_BinarySearch_int_empty Try.searchI none c fr w
    have HW : Hid (within [] fr en = false) := rfl
    rw [HW.out]
    clear hW hm hs hl HW
    go_enter Try.func52, Try.ntmps52
    go_wp2_with fail
    refine (show Calls _ _ _ _ _ from HS.out).mono ?_
    rintro e w1 ⟨rfl, rfl⟩
    go_wp2
    go_ret
    exact ⟨rfl, 0, rfl⟩
  · have hsr : Calls Try.prog 63 #[.slice (some ⟨b, off, none⟩) m c, .int .i64 fr] w fun e w' => e = .returned (.tuple #[.int .i64 ((ns.take m).countP (· < fr) : Nat), .bool ((ns.take m).contains fr)]) ∧ ∃ q, w' = w.drewN q :=
      Any.slices_BinarySearch_int Try.searchI b off m c ns fr w (by omega) (by omega) hc (by rw [hm, List.take_length]; exact hs)
    rw [show ns.take m = ns by rw [hm, List.take_length]] at hsr
    generalize ns.contains fr = cb at *
    generalize hk : ns.countP (· < fr) = k at *
    have HS : Hid _ := hsr
    have hc' := hc k
    rw [← hm] at hc'
    rw [hW]
    clear hsr hW hc hs hk
    generalize ns.getD k 0 = y at *
    by_cases hkm : k < m
    · have hcy := hc' hkm
      have hk1 : (k : Int) < (m : Int) := by omega
      rw [decide_eq_true hkm]
      have HR : Hid (∀ X : World, ∀ q, X = w.drewN q → X.cell? ⟨b, off + k, none⟩ = some (.int .i64 y)) := fun X q e => by rw [e]; exact hcy
      clear hc' hcy hm
      go_enter Try.func52, Try.ntmps52
      go_wp2_with fail
      refine (show Calls _ _ _ _ _ from HS.out).mono ?_
      rintro e w1 ⟨rfl, q, hq⟩
      have hcy := HR.out w1 q hq
      have HQ : Hid _ := hq
      clear hq HR HS
      go_wp2
      go_ret
      exact ⟨by simp, q, HQ.out⟩
    · have hk1 : ¬ (k : Int) < (m : Int) := by omega
      rw [decide_eq_false hkm]
      clear hc' hm
      go_enter Try.func52, Try.ntmps52
      go_wp2_with fail
      refine (show Calls _ _ _ _ _ from HS.out).mono ?_
      rintro e w1 ⟨rfl, q, hq⟩
      have HQ : Hid _ := hq
      clear hq HS
      go_wp2
      go_ret
      exact ⟨by simp, q, HQ.out⟩
/-! ### needed -/
def prev (g : List En) (i : Nat) : Option En := if i = 0 then none else some (g.getD (i - 1) En.zero)
theorem tr_snoc {seen : List Int} (x : En) : ∀ (l : List En) (p : Option En), tr seen p (l ++ [x]) = tr seen p l ++ (if keepB seen (l.getLast?.or p) x then [x] else [])
  | [], p => by show (if keepB seen p x then [x] else []) ++ [] = _; rw [List.append_nil]; rfl
  | y :: l, p => by
    show (if keepB seen p y then [y] else []) ++ tr seen (some y) (l ++ [x]) = ((if keepB seen p y then [y] else []) ++ tr seen (some y) l) ++ _
    rw [tr_snoc x l (some y), List.append_assoc]
    congr 3
    cases l with
    | nil => rfl
    | cons z l => simp [List.getLast?_cons]
theorem tr_take {seen : List Int} {g : List En} {i : Nat} (h : i < g.length) : tr seen none (g.take (i + 1)) = tr seen none (g.take i) ++ (if keepB seen (prev g i) (g.getD i En.zero) then [g.getD i En.zero] else []) := by
  rw [take_next h, tr_snoc]
  congr 3
  unfold prev
  by_cases h0 : i = 0
  · subst h0; rfl
  · rw [if_neg h0]
    obtain ⟨j, rfl⟩ : ∃ j, i = j + 1 := ⟨i - 1, by omega⟩
    rw [take_next (by omega), Nat.add_sub_cancel]
    simp
theorem keep_one {seen : List Int} {g : List En} (ho : One g) {i : Nat} (h0 : 0 < i) (h : i < g.length) : keepB seen (prev g i) (g.getD i En.zero) = within seen (g.getD i En.zero).seq (g.getD (i - 1) En.zero).seq := by
  unfold prev
  rw [if_neg (by omega)]
  have hk : (g.getD (i - 1) En.zero).key = (g.getD i En.zero).key := by
    rw [getD_eq h, getD_eq (by omega)]
    exact ho _ (List.getElem_mem _) _ (List.getElem_mem _)
  show (decide ((g.getD (i - 1) En.zero).key ≠ (g.getD i En.zero).key) || _) = _
  rw [decide_eq_false (by simpa using hk)]
  rfl
theorem keepB_perm {a b : List Int} (h : a.Perm b) (p : Option En) (x : En) : keepB a p x = keepB b p x := by
  cases p with
  | none => rfl
  | some q =>
    show (_ || _) = (_ || _)
    congr 1
    rw [Bool.eq_iff_iff, List.any_eq_true, List.any_eq_true]
    exact ⟨fun ⟨n, hn, h2⟩ => ⟨n, h.mem_iff.1 hn, h2⟩, fun ⟨n, hn, h2⟩ => ⟨n, h.mem_iff.2 hn, h2⟩⟩
theorem tr_perm {a b : List Int} (h : a.Perm b) : ∀ (p : Option En) (l : List En), tr a p l = tr b p l
  | _, [] => rfl
  | p, x :: l => by
    show (if keepB a p x then [x] else []) ++ tr a (some x) l = _
    rw [keepB_perm h, tr_perm h]; rfl
set_option maxRecDepth 100000 in
set_option maxHeartbeats 2000000 in
theorem needed_any (ao : Option Addr) (c : Nat) (g : List En) {v : Value} {ns : List Int} (hs : ns.Pairwise (· ≤ ·)) (hnl : ns.length ≤ 1000000000000) (w : World) (hx : ElemsAt enShape w ao g) (hn : NumRow w v ns) (ho : One g) (hl : g.length ≤ 1000000000000) :
    Calls Try.prog 34 #[.slice ao g.length c, v] w (MAns w (tr ns none g)) := by
  obtain ⟨i0, hi, hz0, hz1, hz2⟩ := info_parts infoEn
  obtain ⟨m, hm⟩ : ∃ m, m = g.length := ⟨_, rfl⟩
  have HM : Hid _ := hm
  rw [← hm] at hl ⊢
  have HX : Hid (∀ X, Below w.heap.size w X → ElemsAt enShape X ao g) := fun X hX => hx.later hX
  have HNW : Hid (∀ fr en X, Below w.heap.size w X → Calls Try.prog 52 #[v, .int .i64 fr, .int .i64 en] X fun e w' => e = .returned (.bool (within ns fr en)) ∧ ∃ q, w' = X.drewN q) := fun fr en X hX => anyWithin_any hs hnl fr en X (hn.later hX)
  have HONE : Hid _ := ho
  have HV : Hid (∃ vo vc, v = .slice vo ns.length vc) := by obtain ⟨vo, vc, e, _⟩ := hn; exact ⟨vo, vc, e⟩
  obtain ⟨vo, vc, rfl⟩ := HV.out
  clear hx hn hs ho hm HV
  go_enter Try.func34, Try.ntmps34
  go_wp2
  go_loopw [5, 10] (fun va vi wr => ∃ (i q : Nat) (acc : List En), vi = .int .i64 i ∧ i ≤ m ∧ q ≤ i ∧ Hid (acc.length = q) ∧ Hid (acc = tr ns none (g.take i)) ∧ Hid (wr.ownsRow w.heap.size 28 4 va q (enShape.vals acc)) ∧ Hid (Below w.heap.size w wr)) (fun _ vi _ => m - (intOf vi).toNat)
  case atStart => exact ⟨0, 0, [], rfl, by omega, by omega, rfl, rfl, World.ownsRow_nil _ _ _ _, Below.refl _ _⟩
  case round =>
    obtain ⟨i, q, acc, rfl, him, hqi, HQ, HA, HO, HB⟩ := hrel
    by_cases hlt : i < m
    · have hlt' : (i : Int) < (m : Int) := by omega
      obtain ⟨pb, off, rfl, c0, c1, c2, c3⟩ := elem_cells (HX.out wr HB.out) (k := i) (by have := HM.out; omega)
      have HT : Hid _ := tr_take (seen := ns) (g := g) (i := i) (by have := HM.out; omega)
      have HG : Hid (g.getD i En.zero = g.getD i En.zero) := rfl
      have HK1 : Hid (0 < i → keepB ns (prev g i) (g.getD i En.zero) = within ns (g.getD i En.zero).seq (g.getD (i - 1) En.zero).seq) := fun h => keep_one HONE.out h (by have := HM.out; omega)
      generalize hxg : g.getD i En.zero = x at *
      have HB1 : Hid (∀ k, Below w.heap.size w ((wr.alloc (entObj x)).drewN k)) := fun k => below_drewN (HB.out.alloc HB.out.size _)
      have HO1 : Hid (∀ k, ((wr.alloc (entObj x)).drewN k).ownsRow w.heap.size 28 4 _ q (enShape.vals acc)) := fun k => rows_keep (World.ownsRow.alloc HO.out _) (fun _ _ => rfl)
      have HEm : Hid (∀ k, ElemsAt enShape (((wr.alloc (entObj x)).drewN k).alloc (entObj x)) (some ⟨wr.heap.size + 1, 0, none⟩) [x]) := fun k => by
        have := elems1 (w := (wr.alloc (entObj x)).drewN k) x
        rw [show ((wr.alloc (entObj x)).drewN k).heap.size = wr.heap.size + 1 by simp] at this
        exact this
      have hbs := HB.out.size
      have HXG : Hid _ := hxg
      clear hxg HG
      by_cases hi0 : i = 0
      · have HI0 : Hid (i = 0) := hi0
        have HT2 : Hid (acc ++ [x] = tr ns none (g.take (i + 1))) := by
          rw [HT.out, HA.out]
          have : prev g i = none := by unfold prev; rw [if_pos hi0]
          rw [this]; rfl
        have hib : ((i : Int) == 0) = true := by simp; omega
        unfold entObj at *
        clear hi0 HT HA HO HB HX HNW HK1
        go_wp2_with fail
        go_quiet (fail)
        go_wp2_with (at_builtin; refine wpList_append_rows (F := enShape) _ rfl _ _ 22 rfl w.heap.size 28 i0 _ 48 Try.underlying22 hi hz0 hz1 hz2 rfl _ q acc rfl (World.ownsRow.alloc (HO1.out _) _) (some ⟨wr.heap.size + 1, 0, none⟩) 1 1 [x] rfl (by simp) rfl (HEm.out _) ?c1 ?c2 ?c3 ?_)
        case c1 => unfold maxLen; omega
        case c2 => omega
        case c3 => simp; omega
        intro v6 w6 hown6 hgrow6 hat6
        have HB6 : Hid (Below w.heap.size w w6) := ((HB1.out nq).alloc (HB1.out nq).size _).grown hgrow6 (by simp; omega) (fun k hk => (World.ownsRow.lt (HO1.out 0) k hk).1)
        have HO6 : Hid (w6.ownsRow w.heap.size 28 4 v6 (q + 1) (enShape.vals (acc ++ [x]))) := hown6
        clear hown6 hgrow6 hat6 c0 c1 c2 c3
        go_wp2
        go_roundw
        case rel => exact ⟨i + 1, q + 1, acc ++ [x], by go_num, by omega, by omega, by have := HQ.out; show _ = _; simp; omega, HT2, HO6, HB6⟩
        case measure => simp [intOf]; omega
      · obtain ⟨i', hi'⟩ : ∃ i', i' + 1 = i := ⟨i - 1, by omega⟩
        have hib : ((i : Int) == 0) = false := by simp; omega
        have wi : IntKind.i64.wrap ((i : Int) - 1) = (i' : Int) := wrap_nat (by omega) (by omega)
        have hi'0 : (0 : Int) ≤ (i' : Int) := by omega
        have hi'1 : (i' : Int) < (m : Int) := by omega
        obtain ⟨_, _, e1, _, d1, _, _⟩ := elem_cells (HX.out (wr.alloc (entObj x)) (HB.out.alloc HB.out.size _)) (k := i') (by have := HM.out; omega)
        cases e1
        have hk := HK1.out (by omega)
        have ei : i - 1 = i' := by omega
        rw [ei] at hk
        have HAW : Hid (∀ k, _) := fun k => HNW.out x.seq (g.getD i' En.zero).seq _ (HB1.out k)
        rw [hk] at HT
        clear hk ei HNW HX HK1 HO HB hi0
        generalize (g.getD i' En.zero).seq = sq at *
        have HI' : Hid _ := hi'
        clear hi'
        cases hw : within ns x.seq sq
        · rw [hw] at HT HAW
          have HT2 : Hid (acc = tr ns none (g.take (i + 1))) := by rw [HT.out, HA.out]; simp [Hid]
          unfold entObj at *
          clear hw HT HA
          go_wp2_with fail
          go_quiet ((go_at_call 52; exact Calls.quiet_of (HAW.out _)))
          go_wp2
          go_roundw
          case rel => exact ⟨i + 1, q, acc, by go_num, by omega, by omega, HQ, HT2, HO1.out _, HB1.out _⟩
          case measure => simp [intOf]; omega
        · rw [hw] at HT HAW
          have HT2 : Hid (acc ++ [x] = tr ns none (g.take (i + 1))) := by rw [HT.out, HA.out]; simp [Hid]
          unfold entObj at *
          clear hw HT HA
          go_wp2_with fail
          go_quiet ((go_at_call 52; exact Calls.quiet_of (HAW.out _)))
          go_wp2_with (at_builtin; refine wpList_append_rows (F := enShape) _ rfl _ _ 22 rfl w.heap.size 28 i0 _ 48 Try.underlying22 hi hz0 hz1 hz2 rfl _ q acc rfl (World.ownsRow.alloc (HO1.out _) _) (some ⟨wr.heap.size + 1, 0, none⟩) 1 1 [x] rfl (by simp) rfl (HEm.out _) ?c1 ?c2 ?c3 ?_)
          case c1 => unfold maxLen; omega
          case c2 => omega
          case c3 => simp; omega
          intro v6 w6 hown6 hgrow6 hat6
          have HB6 : Hid (Below w.heap.size w w6) := ((HB1.out nq).alloc (HB1.out nq).size _).grown hgrow6 (by simp; omega) (fun k hk => (World.ownsRow.lt (HO1.out 0) k hk).1)
          have HO6 : Hid (w6.ownsRow w.heap.size 28 4 v6 (q + 1) (enShape.vals (acc ++ [x]))) := hown6
          clear hown6 hgrow6 hat6 c0 c1 c2 c3
          go_wp2
          go_roundw
          case rel => exact ⟨i + 1, q + 1, acc ++ [x], by go_num, by omega, by omega, by have := HQ.out; show _ = _; simp; omega, HT2, HO6, HB6⟩
          case measure => simp [intOf]; omega
    · obtain rfl : i = m := by omega
      have hlt' : ¬ (i : Int) < (i : Int) := by omega
      have HE : Hid (acc = tr ns none g) := by
        have := HA.out
        rw [HM.out, List.take_length] at this
        exact this
      have hof := HO.out
      rw [← HQ.out, HE.out] at hof
      have HOf : Hid _ := hof
      clear hof HO HX HNW
      go_wp2
      go_ret
      exact ⟨_, rfl, HOf.out, HB.out⟩
/-! ### withoutDeadEnd -/
theorem st_nil : ∀ {l : List En}, (∀ f ∈ l, f.dead = true) → st l = []
  | [], _ => rfl
  | x :: l, h => by
    show (if !x.dead || l.any (fun f => decide (f.key = x.key) && !f.dead) then x :: st l else st l) = []
    have h1 : l.any (fun f => decide (f.key = x.key) && !f.dead) = false := by
      rw [List.any_eq_false]
      intro f hf
      simp [h f (List.mem_cons_of_mem _ hf)]
    rw [h x List.mem_cons_self, h1, st_nil fun f hf => h f (List.mem_cons_of_mem _ hf)]
    rfl
theorem st_live {y : En} {d : List En} (hy : y.dead = false) (hd : ∀ f ∈ d, f.dead = true) : ∀ {a : List En}, (∀ x ∈ a, x.key = y.key) → st (a ++ y :: d) = a ++ [y]
  | [], _ => by
    show (if !y.dead || d.any (fun f => decide (f.key = y.key) && !f.dead) then y :: st d else st d) = [y]
    rw [hy, st_nil hd]; rfl
  | x :: a, h => by
    show (if !x.dead || (a ++ y :: d).any (fun f => decide (f.key = x.key) && !f.dead) then x :: st (a ++ y :: d) else st (a ++ y :: d)) = x :: (a ++ [y])
    have h1 : (a ++ y :: d).any (fun f => decide (f.key = x.key) && !f.dead) = true := by
      rw [List.any_eq_true]
      exact ⟨y, by simp, by rw [hy, h x List.mem_cons_self]; simp⟩
    rw [h1, Bool.or_true, if_pos rfl, st_live hy hd fun z hz => h z (List.mem_cons_of_mem _ hz)]
theorem st_cut {g : List En} (ho : One g) {k : Nat} (hk : k ≤ g.length) (hd : ∀ j, k ≤ j → j < g.length → (g.getD j En.zero).dead = true) (hl : k = 0 ∨ (g.getD (k - 1) En.zero).dead = false) : st g = g.take k := by
  have hdd : ∀ f ∈ g.drop k, f.dead = true := fun f hf => by
    obtain ⟨j, hj, rfl⟩ := List.getElem_of_mem hf
    rw [List.length_drop] at hj
    have := hd (k + j) (by omega) (by omega)
    rw [getD_eq (by omega)] at this
    rw [List.getElem_drop]; exact this
  by_cases h0 : k = 0
  · subst h0
    rw [List.take_zero]
    exact st_nil (by simpa using hdd)
  · obtain ⟨j, rfl⟩ : ∃ j, k = j + 1 := ⟨k - 1, by omega⟩
    have hy : (g.getD j En.zero).dead = false := by
      rcases hl with hl | hl
      · omega
      · exact hl
    have e1 : g = g.take j ++ g.getD j En.zero :: g.drop (j + 1) := by
      conv => lhs; rw [← List.take_append_drop (j + 1) g, take_next (by omega)]
      simp
    have hm : g.getD j En.zero ∈ g := by rw [getD_eq (by omega)]; exact List.getElem_mem _
    have := st_live hy hdd (a := g.take j) fun x hx => ho x (List.mem_of_mem_take hx) _ hm
    rw [← e1] at this
    rw [this, take_next (by omega)]
set_option maxRecDepth 100000 in
set_option maxHeartbeats 1000000 in
theorem deadEnd_any (ao : Option Addr) (c : Nat) (g : List En) (w : World) (hx : ElemsAt enShape w ao g) (hnil : ao = none → c = 0) (ho : One g) (hl : g.length ≤ 1000000000000) (hc : g.length ≤ c) (hc63 : c ≤ 9223372036854775807) :
    Calls Try.prog 35 #[.slice ao g.length c] w fun e w' => (∃ k, e = .returned (.slice ao k c) ∧ k ≤ g.length ∧ st g = g.take k) ∧ w' = w := by
  obtain ⟨m, hm⟩ : ∃ m, m = g.length := ⟨_, rfl⟩
  have HM : Hid _ := hm
  rw [← hm] at hl hc ⊢
  have HX : Hid _ := hx
  have HONE : Hid _ := ho
  clear hx ho hm
  by_cases h0 : m = 0
  · subst h0
    have HG : Hid (g = []) := List.length_eq_zero_iff.1 HM.out.symm
    cases ao with
    | none =>
      have hc0 := hnil rfl
      subst hc0
      clear hnil
      go_enter Try.func35, Try.ntmps35
      go_wp2
      refine wp_loop_rounds 1 ?_
      rw [rounds_succ]
      go_wp2
      go_ret
      rw [HG.out]
      exact ⟨⟨0, rfl, Nat.le_refl _, rfl⟩, rfl⟩
    | some ad =>
      clear hnil
      go_enter Try.func35, Try.ntmps35
      go_wp2
      refine wp_loop_rounds 1 ?_
      rw [rounds_succ]
      go_wp2
      go_ret
      rw [HG.out]
      exact ⟨⟨0, rfl, Nat.le_refl _, rfl⟩, rfl⟩
  · obtain ⟨pb, off, rfl⟩ : ∃ pb off, ao = some ⟨pb, off, none⟩ := by
      rcases HX.out with h | ⟨b, off, rfl, _⟩
      · exfalso; have := HM.out; rw [h] at this; simp at this; omega
      · exact ⟨b, off, rfl⟩
    clear hnil
    go_enter Try.func35, Try.ntmps35
    go_wp2
    go_loop [3] (fun vk => ∃ k : Nat, vk = .int .i64 k ∧ k ≤ m ∧ Hid (∀ j, k ≤ j → j < m → (g.getD j En.zero).dead = true)) (fun vk => (intOf vk).toNat)
    case atStart => exact ⟨m, rfl, Nat.le_refl _, fun j h1 h2 => by omega⟩
    case round =>
      obtain ⟨k, rfl, hk, HD⟩ := hrel
      have hkc : k ≤ c := by omega
      by_cases hk0 : 0 < k
      · obtain ⟨k', hk'⟩ : ∃ k', k' + 1 = k := ⟨k - 1, by omega⟩
        have hkb : (0 : Int) < (k : Int) := by omega
        have wk : IntKind.i64.wrap ((k : Int) - 1) = (k' : Int) := wrap_nat (by omega) (by omega)
        have hk'1 : (k' : Int) < (m : Int) := by omega
        obtain ⟨_, _, e1, _, _, d2, _⟩ := elem_cells HX.out (k := k') (by have := HM.out; omega)
        cases e1
        have HK' : Hid _ := hk'
        have ek : k - 1 = k' := by omega
        have HD1 : Hid ((g.getD k' En.zero).dead = true → ∀ j, k' ≤ j → j < m → (g.getD j En.zero).dead = true) := fun h j h1 h2 => by
          by_cases e : j = k'
          · rw [e]; exact h
          · exact HD.out j (by omega) h2
        have HD2 : Hid ((g.getD k' En.zero).dead = false → st g = g.take k) := fun h => st_cut HONE.out (by have := HM.out; omega) (by have := HM.out; rw [← this]; exact HD.out) (.inr (by rw [ek]; exact h))
        clear hk' ek HD
        generalize (g.getD k' En.zero).dead = dd at *
        cases dd
        · have HE : Hid _ := HD2.out rfl
          clear HD1 HD2
          go_wp2
          go_ret
          exact ⟨⟨k, rfl, hk, HE.out⟩, rfl⟩
        · have HE : Hid _ := HD1.out rfl
          clear HD1 HD2
          go_wp2
          go_round
          case rel => have := HK'.out; exact ⟨k', by first | rfl | (rw [wk]) | go_num, by omega, HE⟩
          case measure => have := HK'.out; simp [intOf]; omega
      · have HK0 : Hid (k = 0) := by show _ = _; omega
        have hkb : ¬ (0 : Int) < (k : Int) := by omega
        have HE : Hid (st g = g.take k) := st_cut HONE.out (by have := HM.out; omega) (by have := HM.out; rw [← this]; exact HD.out) (.inl HK0.out)
        clear hk0 HD
        go_wp2
        go_ret
        exact ⟨⟨k, rfl, hk, HE.out⟩, rfl⟩
end Go.Proofs.Ytdaibmafnamfgaa.Mg
