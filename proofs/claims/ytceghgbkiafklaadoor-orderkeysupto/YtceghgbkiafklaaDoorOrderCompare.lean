/-
  Package order: 'Compare' answers the order of two lists of parts.
-/
import Derived.Test.YtceghgbkiafklaaDoorOrderKey
namespace Go.Proofs.YtceghgbkiafklaaDoor.Od
open Go.RowKit
open Go.Lib (compareBytes)
open Go.Proofs.YtceghgbkiafklaaDoor.Cm
attribute [local go_sem ↓] Go.wp_at_zero Go.wp_at_succ
set_option linter.unusedVariables false

theorem isNaN_any (x : Int) (w : World) : Calls Tryd.prog 46 #[.int .i64 x] w fun e w' => e = .returned (.bool false) ∧ w' = w := by
  go_enter Tryd.func46, Tryd.ntmps46
  go_wp2
  go_ret
  exact ⟨rfl, rfl⟩
theorem cI_lt {x y : Int} (h : x < y) : cI x y = -1 := if_pos h
theorem cI_gt {x y : Int} (h : y < x) : cI x y = 1 := by unfold cI; rw [if_neg (by omega), if_pos h]
theorem cI_eq {x y : Int} (h1 : ¬ x < y) (h2 : ¬ y < x) : cI x y = 0 := by unfold cI; rw [if_neg h1, if_neg h2]
theorem cI_vals (x y : Int) : cI x y = -1 ∨ cI x y = 0 ∨ cI x y = 1 := by unfold cI; split <;> (try split) <;> simp
theorem cP_vals (p q : Pt) : cP p q = -1 ∨ cP p q = 0 ∨ cP p q = 1 := by
  unfold cP
  split
  · exact cI_vals _ _
  · split
    · exact cI_vals _ _
    · exact cb_vals _ _
theorem cL_vals (a b : List Pt) : cL a b = -1 ∨ cL a b = 0 ∨ cL a b = 1 := by
  induction a generalizing b with
  | nil => cases b <;> simp [cL]
  | cons p a ih =>
    cases b with
    | nil => simp [cL]
    | cons q b =>
      simp only [cL]
      split
      · exact cP_vals p q
      · exact ih b
set_option maxHeartbeats 500000 in
theorem cmpInt_any (x y : Int) (w : World) : Calls Tryd.prog 39 #[.int .i64 x, .int .i64 y] w fun e w' => e = .returned (.int .i64 (cI x y)) ∧ w' = w := by
  by_cases h1 : x < y
  · have hd : decide (x < y) = true := decide_eq_true h1
    rw [cI_lt h1]
    go_enter Tryd.func39, Tryd.ntmps39
    go_wp2_with (go_at_call 46; refine (isNaN_any _ _).mono ?_; rintro e w1 ⟨rfl, rfl⟩)
    go_ret
    exact ⟨rfl, rfl⟩
  · have hd : decide (x < y) = false := decide_eq_false h1
    by_cases h2 : y < x
    · have hd2 : decide (y < x) = true := decide_eq_true h2
      rw [cI_gt h2]
      go_enter Tryd.func39, Tryd.ntmps39
      go_wp2_with (go_at_call 46; refine (isNaN_any _ _).mono ?_; rintro e w1 ⟨rfl, rfl⟩)
      go_ret
      exact ⟨rfl, rfl⟩
    · have hd2 : decide (y < x) = false := decide_eq_false h2
      rw [cI_eq h1 h2]
      go_enter Tryd.func39, Tryd.ntmps39
      go_wp2_with (go_at_call 46; refine (isNaN_any _ _).mono ?_; rintro e w1 ⟨rfl, rfl⟩)
      go_ret
      exact ⟨rfl, rfl⟩

def or3 (a b c : Int) : Int := if a ≠ 0 then a else if b ≠ 0 then b else c
theorem cP_or3 (p q : Pt) : cP p q = or3 (cI p.k q.k) (cI p.n q.n) (compareBytes p.t q.t) := rfl
set_option maxRecDepth 100000 in
set_option maxHeartbeats 500000 in
theorem cmpOr_any (a b c : Int) (g : Nat) (w : World) (h0 : w.cell? ⟨g, 0, none⟩ = some (.int .i64 a)) (h1 : w.cell? ⟨g, 1, none⟩ = some (.int .i64 b)) (h2 : w.cell? ⟨g, 2, none⟩ = some (.int .i64 c)) :
    Calls Tryd.prog 38 #[.slice (some ⟨g, 0, none⟩) 3 3] w fun e w' => e = .returned (.int .i64 (or3 a b c)) ∧ w' = w := by
  have HL : Hid (∀ k : Nat, k < 3 → ∃ x : Int, w.cell? ⟨g, k, none⟩ = some (.int .i64 x) ∧ (k = 0 → x = a) ∧ (k = 1 → x = b) ∧ (k = 2 → x = c)) := fun k hk => by
    rcases (show k = 0 ∨ k = 1 ∨ k = 2 by omega) with rfl | rfl | rfl
    · exact ⟨a, h0, by simp, by simp, by simp⟩
    · exact ⟨b, h1, by simp, by simp, by simp⟩
    · exact ⟨c, h2, by simp, by simp, by simp⟩
  clear h0 h1 h2
  go_enter Tryd.func38, Tryd.ntmps38
  go_wp2
  go_loop [8] (fun i => ∃ k : Nat, k ≤ 3 ∧ i = .int .i64 k ∧ Hid ((1 ≤ k → a = 0) ∧ (2 ≤ k → b = 0) ∧ (3 ≤ k → c = 0))) (fun i => 3 - (intOf i).toNat)
  case atStart => exact ⟨0, by omega, rfl, by omega, by omega, by omega⟩
  case round =>
    obtain ⟨k, hk, rfl, HZ⟩ := hrel
    by_cases hlt : k < 3
    · obtain ⟨x, hx, hxa, hxb, hxc⟩ := HL.out k hlt
      have HX : Hid ((k = 0 → x = a) ∧ (k = 1 → x = b) ∧ (k = 2 → x = c)) := ⟨hxa, hxb, hxc⟩
      clear hxa hxb hxc
      by_cases hx0 : x = 0
      · subst hx0
        have HN : Hid ((1 ≤ k + 1 → a = 0) ∧ (2 ≤ k + 1 → b = 0) ∧ (3 ≤ k + 1 → c = 0)) := by
          obtain ⟨z1, z2, z3⟩ := HZ.out
          obtain ⟨y1, y2, y3⟩ := HX.out
          refine ⟨fun _ => ?_, fun h => ?_, fun h => ?_⟩
          · by_cases hk0 : k = 0
            · exact (y1 hk0).symm
            · exact z1 (by omega)
          · by_cases hk0 : k = 1
            · exact (y2 hk0).symm
            · exact z2 (by omega)
          · exact (y3 (by omega)).symm
        go_wp2
        go_round
        case rel => exact ⟨k + 1, by omega, by go_num, HN⟩
        case measure => simp [intOf]; omega
      · have hne : (x == 0) = false := by simpa using hx0
        have HR : Hid (or3 a b c = x) := by
          obtain ⟨z1, z2, z3⟩ := HZ.out
          obtain ⟨y1, y2, y3⟩ := HX.out
          show or3 a b c = x
          unfold or3
          rcases (show k = 0 ∨ k = 1 ∨ k = 2 by omega) with hk | hk | hk
          · rw [← y1 hk, if_pos hx0]
          · rw [if_neg (by simp [z1 (by omega)]), ← y2 hk, if_pos hx0]
          · rw [if_neg (by simp [z1 (by omega)]), if_neg (by simp [z2 (by omega)]), ← y3 hk]
        go_wp2
        go_ret
        exact ⟨by rw [HR.out]; rfl, rfl⟩
    · obtain rfl : k = 3 := by omega
      have HR : Hid (or3 a b c = 0) := by
        obtain ⟨z1, z2, z3⟩ := HZ.out
        show or3 a b c = 0
        simp [or3, z1, z2, z3]
      go_wp2
      go_ret
      exact ⟨by rw [HR.out]; rfl, rfl⟩

theorem or_new (u : World) (a b c : Int) (g : Nat) (hg : g = u.heap.size) :
    Calls Tryd.prog 38 #[.slice (some ⟨g, 0, none⟩) 3 3] (u.alloc (.cells #[.int .i64 a, .int .i64 b, .int .i64 c] 3)).drew fun e w' => e = .returned (.int .i64 (or3 a b c)) ∧ w' = (u.alloc (.cells #[.int .i64 a, .int .i64 b, .int .i64 c] 3)).drew := by
  subst hg
  have e : (u.alloc (.cells #[.int .i64 a, .int .i64 b, .int .i64 c] 3)).drew.heap[u.heap.size]? = some (.cells #[.int .i64 a, .int .i64 b, .int .i64 c] 3 (0, 0)) := heap_alloc_new u _
  exact cmpOr_any a b c u.heap.size _ (by rw [Joins.cell_of_block e]; rfl) (by rw [Joins.cell_of_block e]; rfl) (by rw [Joins.cell_of_block e]; rfl)
/-- Two parts in boxes one behind the other. -/
def PairAt (g : Nat) (k1 n1 : Int) (s1 : ByteArray) (k2 n2 : Int) (s2 : ByteArray) (w : World) : Prop :=
  w.cell? ⟨g, 0, none⟩ = some (.int .i64 k1) ∧ w.cell? ⟨g, 1, none⟩ = some (.int .i64 n1) ∧ w.cell? ⟨g, 2, none⟩ = some (.string s1) ∧
  w.cell? ⟨g + 1, 0, none⟩ = some (.int .i64 k2) ∧ w.cell? ⟨g + 1, 1, none⟩ = some (.int .i64 n2) ∧ w.cell? ⟨g + 1, 2, none⟩ = some (.string s2)
theorem pair_new (w : World) (k1 n1 : Int) (s1 : ByteArray) (k2 n2 : Int) (s2 : ByteArray) : PairAt w.heap.size k1 n1 s1 k2 n2 s2 ((w.alloc (.cells #[.int .i64 k1, .int .i64 n1, .string s1] 25)).alloc (.cells #[.int .i64 k2, .int .i64 n2, .string s2] 25)).drew := by
  have e1 : ((w.alloc (.cells #[.int .i64 k1, .int .i64 n1, .string s1] 25)).alloc (.cells #[.int .i64 k2, .int .i64 n2, .string s2] 25)).drew.heap[w.heap.size]? = some (.cells #[.int .i64 k1, .int .i64 n1, .string s1] 25 (0, 0)) :=
    (Below.heap_alloc _ _ _ (by simp)).trans (heap_alloc_new w _)
  have e2 : ((w.alloc (.cells #[.int .i64 k1, .int .i64 n1, .string s1] 25)).alloc (.cells #[.int .i64 k2, .int .i64 n2, .string s2] 25)).drew.heap[w.heap.size + 1]? = some (.cells #[.int .i64 k2, .int .i64 n2, .string s2] 25 (0, 0)) := by
    have := heap_alloc_new (w.alloc (.cells #[.int .i64 k1, .int .i64 n1, .string s1] 25)) (.cells #[.int .i64 k2, .int .i64 n2, .string s2] 25)
    rw [show (w.alloc (.cells #[.int .i64 k1, .int .i64 n1, .string s1] 25)).heap.size = w.heap.size + 1 by simp] at this
    exact this
  unfold PairAt
  simp only [Joins.cell_of_block e1, Joins.cell_of_block e2]
  exact ⟨rfl, rfl, rfl, rfl, rfl, rfl⟩
theorem pair_alloc {g : Nat} {k1 n1 : Int} {s1 : ByteArray} {k2 n2 : Int} {s2 : ByteArray} {w : World} (h : PairAt g k1 n1 s1 k2 n2 s2 w.drew) (o : Obj) : PairAt g k1 n1 s1 k2 n2 s2 (w.alloc o).drew := by
  obtain ⟨g1, g2, g3, g4, g5, g6⟩ := h
  have f : ∀ a v, w.drew.cell? a = some v → (w.alloc o).drew.cell? a = some v := fun a v h => by
    have hl : a.block < w.heap.size := World.block_lt_of_cell? w _ h
    have : (w.alloc o).cell? a = w.cell? a := World.cell?_of_block (Below.heap_alloc _ _ _ hl)
    exact this.trans h
  exact ⟨f _ _ g1, f _ _ g2, f _ _ g3, f _ _ g4, f _ _ g5, f _ _ g6⟩
set_option maxRecDepth 100000 in
set_option maxHeartbeats 500000 in
theorem cmpParts_any (p q : Pt) (w : World) :
    Calls Tryd.prog 28 #[pv p, pv q] w fun e w' => e = .returned (.int .i64 (cP p q)) ∧ Below w.heap.size w w' := by
  rw [cP_or3]
  unfold pv Pt.t
  obtain ⟨k1, n1, s1⟩ := p
  obtain ⟨k2, n2, s2⟩ := q
  simp only
  go_enter Tryd.func28, Tryd.ntmps28
  go_wp2_with fail
  have hS : PairAt w.heap.size k1 n1 s1 k2 n2 s2 ((w.alloc (.cells #[.int .i64 k1, .int .i64 n1, .string s1] 25)).alloc (.cells #[.int .i64 k2, .int .i64 n2, .string s2] 25)).drew := pair_new w k1 n1 s1 k2 n2 s2
  have HA : Hid (∀ o, PairAt w.heap.size k1 n1 s1 k2 n2 s2 (((w.alloc (.cells #[.int .i64 k1, .int .i64 n1, .string s1] 25)).alloc (.cells #[.int .i64 k2, .int .i64 n2, .string s2] 25)).alloc o).drew) := fun o => pair_alloc (pair_new w k1 n1 s1 k2 n2 s2) o
  obtain ⟨g1, g2, g3, g4, g5, g6⟩ := hS
  go_region_held3 (fun w' => w'.cell? ⟨w.heap.size, 0, none⟩ = some (.int .i64 k1) ∧ w'.cell? ⟨w.heap.size, 1, none⟩ = some (.int .i64 n1) ∧ w'.cell? ⟨w.heap.size, 2, none⟩ = some (.string s1) ∧ w'.cell? ⟨w.heap.size + 1, 0, none⟩ = some (.int .i64 k2) ∧ w'.cell? ⟨w.heap.size + 1, 1, none⟩ = some (.int .i64 n2) ∧ w'.cell? ⟨w.heap.size + 1, 2, none⟩ = some (.string s2)) (first | exact ⟨by assumption, by assumption, by assumption, by assumption, by assumption, by assumption⟩ | exact HA.out _)
    ((first
      | (go_at_call 39; refine (cmpInt_any _ _ _).mono ?_; rintro e w1 ⟨rfl, rfl⟩)
      | (go_at_call 40; refine (compare_any _ _ _).mono ?_; rintro e w1 ⟨rfl, rfl⟩)
      | (go_at_call 38; refine (or_new _ _ _ _ _ (by simp)).mono ?_; rintro e w1 ⟨rfl, rfl⟩)))
  clear g1 g2 g3 g4 g5 g6 HA
  go_wp2
  go_ret
  exact ⟨rfl, Below.drew ((((Below.refl _ _).alloc (Nat.le_refl _) _).alloc (by simp) _).alloc (by simp; omega) _)⟩

/-- From place k on the lists compare as they do from the beginning. -/
theorem cL_step {ps qs : List Pt} {k : Nat} (h1 : k < ps.length) (h2 : k < qs.length) : cL (ps.drop k) (qs.drop k) = if cP (ps.getD k Pt.zero) (qs.getD k Pt.zero) ≠ 0 then cP (ps.getD k Pt.zero) (qs.getD k Pt.zero) else cL (ps.drop (k + 1)) (qs.drop (k + 1)) := by
  rw [getD_lt _ _ _ h1, getD_lt _ _ _ h2, List.drop_eq_getElem_cons h1, List.drop_eq_getElem_cons h2, cL]
theorem cL_left {ps qs : List Pt} {k : Nat} (h1 : k < ps.length) (h2 : qs.length ≤ k) : cL (ps.drop k) (qs.drop k) = 1 := by
  rw [List.drop_eq_getElem_cons h1, List.drop_of_length_le h2, cL]
theorem cL_right {ps qs : List Pt} {k : Nat} (h1 : ps.length ≤ k) (h2 : k < qs.length) : cL (ps.drop k) (qs.drop k) = -1 := by
  rw [List.drop_eq_getElem_cons h2, List.drop_of_length_le h1, cL]
theorem cL_both {ps qs : List Pt} {k : Nat} (h1 : ps.length ≤ k) (h2 : qs.length ≤ k) : cL (ps.drop k) (qs.drop k) = 0 := by
  rw [List.drop_of_length_le h1, List.drop_of_length_le h2, cL]

set_option maxRecDepth 100000 in
set_option maxHeartbeats 500000 in
theorem cmpFunc_any (ao bo : Option Addr) (ca cb : Nat) (ps qs : List Pt) (w : World) (hp : PartsAt w ao ps) (hq : PartsAt w bo qs) (hl : ps.length ≤ 4294967000) (hl2 : qs.length ≤ 4294967000) :
    Calls Tryd.prog 27 #[.slice ao ps.length ca, .slice bo qs.length cb, .func (Fn.func 28) #[] #[]] w fun e w' => e = .returned (.int .i64 (cL ps qs)) ∧ Below w.heap.size w w' := by
  go_enter Tryd.func27, Tryd.ntmps27
  go_wp2_with fail
  go_loopw [13] (fun i wr => ∃ k : Nat, k ≤ ps.length ∧ i = .int .i64 k ∧ Hid (cL ps qs = cL (ps.drop k) (qs.drop k)) ∧ Hid (Below w.heap.size w wr)) (fun i _ => ps.length - (intOf i).toNat)
  case atStart => exact ⟨0, by omega, rfl, rfl, Below.refl _ _⟩
  case round =>
    obtain ⟨k, hk, rfl, HE, HB⟩ := hrel
    have hsr := HB.out.size
    by_cases hlt : k < ps.length
    · rcases hp.below HB.out with h0 | ⟨b1, off1, rfl, hbl1, hcells1⟩
      · simp [h0] at hlt
      obtain ⟨hc0, hc1, hc2⟩ := hcells1 k hlt
      by_cases hlt2 : k < qs.length
      · have hge : decide ((qs.length : Int) ≤ (k : Int)) = false := decide_eq_false (by omega)
        have HST : Hid _ := cL_step hlt hlt2
        rcases hq.below HB.out with h0 | ⟨b2, off2, rfl, hbl2, hcells2⟩
        · simp [h0] at hlt2
        obtain ⟨hd0, hd1, hd2⟩ := hcells2 k hlt2
        generalize ps.getD k Pt.zero = p at *
        generalize qs.getD k Pt.zero = q at *
        have HX : Hid (∀ (o : Obj) (a : Addr) v, wr.cell? a = some v → (wr.alloc o).cell? a = some v) := fun o a v h => by
          have hl : a.block < wr.heap.size := World.block_lt_of_cell? wr _ h
          exact (World.cell?_of_block (Below.heap_alloc _ _ _ hl)).trans h
        have he0 : ∀ o, (wr.alloc o).cell? ⟨b2, off2 + k * 3, none⟩ = _ := fun o => HX.out o _ _ hd0
        have he1 : ∀ o, (wr.alloc o).cell? ⟨b2, off2 + k * 3 + 1, none⟩ = _ := fun o => HX.out o _ _ hd1
        have he2 : ∀ o, (wr.alloc o).cell? ⟨b2, off2 + k * 3 + 2, none⟩ = _ := fun o => HX.out o _ _ hd2
        clear hcells1 hcells2 hp hq
        go_wp2_with fail
        refine (cmpParts_any p q _).mono ?_
        rintro e w3 ⟨rfl, hb3⟩
        have HB3 : Hid (Below w.heap.size w w3) := ((HB.out.alloc hsr _).alloc (by simp; omega) _).trans (hb3.mono (by simp; omega))
        clear hb3 he0 he1 he2 hd0 hd1 hd2 hc0 hc1 hc2
        by_cases hz : cP p q = 0
        · have HE2 : Hid (cL ps qs = cL (ps.drop (k + 1)) (qs.drop (k + 1))) := by
            show _ = _
            rw [HE.out, HST.out, if_neg (by simp [hz])]
          rw [hz]
          go_wp2
          go_roundw
          case rel => exact ⟨k + 1, by omega, by go_num, HE2, HB3⟩
          case measure => simp [intOf]; omega
        · have HE2 : Hid (cL ps qs = cP p q) := by
            show _ = _
            rw [HE.out, HST.out, if_pos hz]
          have hne : (cP p q == 0) = false := by simpa using hz
          go_wp2
          go_ret
          exact ⟨by rw [HE2.out]; rfl, HB3.out⟩
      · have hge : decide ((qs.length : Int) ≤ (k : Int)) = true := decide_eq_true (by omega)
        have HE2 : Hid (cL ps qs = 1) := by show _ = _; rw [HE.out, cL_left hlt (by omega)]
        go_wp2
        go_ret
        exact ⟨by rw [HE2.out]; rfl, HB.out.alloc hsr _⟩
    · obtain rfl : k = ps.length := by omega
      by_cases hlt2 : ps.length < qs.length
      · have hd : decide ((ps.length : Int) < (qs.length : Int)) = true := decide_eq_true (by omega)
        have HE2 : Hid (cL ps qs = -1) := by show _ = _; rw [HE.out, cL_right (Nat.le_refl _) hlt2]
        go_wp2
        go_ret
        exact ⟨by rw [HE2.out]; rfl, HB.out⟩
      · have hd : decide ((ps.length : Int) < (qs.length : Int)) = false := decide_eq_false (by omega)
        have HE2 : Hid (cL ps qs = 0) := by show _ = _; rw [HE.out, cL_both (Nat.le_refl _) (by omega)]
        go_wp2
        go_ret
        exact ⟨by rw [HE2.out]; rfl, HB.out⟩

theorem Compare_any (ao bo : Option Addr) (ca cb : Nat) (ps qs : List Pt) (w : World) (hp : PartsAt w ao ps) (hq : PartsAt w bo qs) (hl : ps.length ≤ 4294967000) (hl2 : qs.length ≤ 4294967000) :
    Calls Tryd.prog 15 #[.slice ao ps.length ca, .slice bo qs.length cb] w fun e w' => e = .returned (.int .i64 (cL ps qs)) ∧ Below w.heap.size w w' := by
  go_enter Tryd.func15, Tryd.ntmps15
  go_wp2_with fail
  refine (cmpFunc_any ao bo ca cb ps qs w hp hq hl hl2).mono ?_
  rintro e w1 ⟨rfl, hb⟩
  go_wp2
  go_ret
  exact ⟨rfl, hb⟩
end Go.Proofs.YtceghgbkiafklaaDoor.Od
