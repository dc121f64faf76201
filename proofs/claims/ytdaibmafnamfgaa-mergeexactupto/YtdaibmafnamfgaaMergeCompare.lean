/-
  Package merge: the order of two versions, as the literal that Merge hands on answers it; and whether two have one key and number.
-/
import Derived.Test.YtdaibmafnamfgaaOrderMath
import Derived.Test.YtdaibmafnamfgaaMergeMath
import Derived.Test.YtdaibmafnamfgaaEnHeap
import Derived.Lib.Bytealg
import Derived.Laws.Externs
namespace Go.Proofs.Ytdaibmafnamfgaa.Mg
open Go.RowKit Cm Mm
open Go.Lib (compareBytes)
set_option linter.unusedVariables false

set_option maxHeartbeats 1000000 in
set_option maxRecDepth 100000 in
theorem cmpString_any (a b : ByteArray) (w : World) :
    Calls Try.prog 47 #[.string a, .string b] w fun e w' => e = .returned (.int .i64 (compareBytes a.data.toList b.data.toList)) ∧ w' = w := by
  go_enter Try.func47, Try.ntmps47
  go_wp2
  rw [run_callFunc_extern Try.func59 (by kernel_rfl) (by kernel_rfl) (by kernel_rfl) (e := Extern.BytealgCompare.compare) (by kernel_rfl), Lib.run_compareString]
  simp only [Result.andThen]
  rw [Oper.upon_value]
  go_wp2
  go_ret
  exact ⟨rfl, rfl⟩
set_option maxHeartbeats 1000000 in
theorem compare_any (a b : ByteArray) (w : World) :
    Calls Try.prog 25 #[.string a, .string b] w fun e w' => e = .returned (.int .i64 (compareBytes a.data.toList b.data.toList)) ∧ w' = w := by
  go_enter Try.func25, Try.ntmps25
  go_wp2_with (go_at_call 47; refine (cmpString_any _ _ _).mono ?_; rintro e w' ⟨rfl, rfl⟩)
  go_ret
  exact ⟨rfl, rfl⟩
theorem isNaN_any (x : Int) (w : World) : Calls Try.prog 48 #[.int .i64 x] w fun e w' => e = .returned (.bool false) ∧ w' = w := by
  go_enter Try.func48, Try.ntmps48
  go_wp2
  go_ret
  exact ⟨rfl, rfl⟩
def cI (x y : Int) : Int := if x < y then -1 else if y < x then 1 else 0
theorem cI_lt {x y : Int} (h : x < y) : cI x y = -1 := if_pos h
theorem cI_gt {x y : Int} (h : y < x) : cI x y = 1 := by unfold cI; rw [if_neg (by omega), if_pos h]
theorem cI_eq {x y : Int} (h1 : ¬ x < y) (h2 : ¬ y < x) : cI x y = 0 := by unfold cI; rw [if_neg h1, if_neg h2]
set_option maxHeartbeats 500000 in
theorem cmpInt_any (x y : Int) (w : World) : Calls Try.prog 26 #[.int .i64 x, .int .i64 y] w fun e w' => e = .returned (.int .i64 (cI x y)) ∧ w' = w := by
  by_cases h1 : x < y
  · have hd : decide (x < y) = true := decide_eq_true h1
    rw [cI_lt h1]
    go_enter Try.func26, Try.ntmps26
    go_wp2_with (go_at_call 48; refine (isNaN_any _ _).mono ?_; rintro e w1 ⟨rfl, rfl⟩)
    go_ret
    exact ⟨rfl, rfl⟩
  · have hd : decide (x < y) = false := decide_eq_false h1
    by_cases h2 : y < x
    · have hd2 : decide (y < x) = true := decide_eq_true h2
      rw [cI_gt h2]
      go_enter Try.func26, Try.ntmps26
      go_wp2_with (go_at_call 48; refine (isNaN_any _ _).mono ?_; rintro e w1 ⟨rfl, rfl⟩)
      go_ret
      exact ⟨rfl, rfl⟩
    · have hd2 : decide (y < x) = false := decide_eq_false h2
      rw [cI_eq h1 h2]
      go_enter Try.func26, Try.ntmps26
      go_wp2_with (go_at_call 48; refine (isNaN_any _ _).mono ?_; rintro e w1 ⟨rfl, rfl⟩)
      go_ret
      exact ⟨rfl, rfl⟩
def or2 (a b : Int) : Int := if a ≠ 0 then a else b
set_option maxRecDepth 100000 in
set_option maxHeartbeats 500000 in
theorem cmpOr_any (a b : Int) (g : Nat) (w : World) (h0 : w.cell? ⟨g, 0, none⟩ = some (.int .i64 a)) (h1 : w.cell? ⟨g, 1, none⟩ = some (.int .i64 b)) :
    Calls Try.prog 24 #[.slice (some ⟨g, 0, none⟩) 2 2] w fun e w' => e = .returned (.int .i64 (or2 a b)) ∧ w' = w := by
  have HL : Hid (∀ k : Nat, k < 2 → ∃ x : Int, w.cell? ⟨g, k, none⟩ = some (.int .i64 x) ∧ (k = 0 → x = a) ∧ (k = 1 → x = b)) := fun k hk => by
    rcases (show k = 0 ∨ k = 1 by omega) with rfl | rfl
    · exact ⟨a, h0, by simp, by simp⟩
    · exact ⟨b, h1, by simp, by simp⟩
  clear h0 h1
  go_enter Try.func24, Try.ntmps24
  go_wp2
  go_loop [8] (fun i => ∃ k : Nat, k ≤ 2 ∧ i = .int .i64 k ∧ Hid ((1 ≤ k → a = 0) ∧ (2 ≤ k → b = 0))) (fun i => 2 - (intOf i).toNat)
  case atStart => exact ⟨0, by omega, rfl, by show _ ∧ _; exact ⟨fun h => by omega, fun h => by omega⟩⟩
  case round =>
    obtain ⟨k, hk, rfl, HZ⟩ := hrel
    by_cases hlt : k < 2
    · obtain ⟨x, hx, hxr⟩ := HL.out k hlt
      have HX : Hid _ := hxr
      clear hxr
      have hk0 : (0 : Int) ≤ (k : Int) := by omega
      have hk1 : (k : Int) < 2 := by omega
      by_cases hx0 : x = 0
      · subst hx0
        have HN : Hid ((1 ≤ k + 1 → a = 0) ∧ (2 ≤ k + 1 → b = 0)) := by
          obtain ⟨z1, z2⟩ := HZ.out
          obtain ⟨y1, y2⟩ := HX.out
          refine ⟨fun _ => ?_, fun h => ?_⟩
          · by_cases hk0 : k = 0
            · exact (y1 hk0).symm
            · exact z1 (by omega)
          · exact (y2 (by omega)).symm
        go_wp2
        go_round
        case rel => exact ⟨k + 1, by omega, by go_num, HN⟩
        case measure => simp [intOf]; omega
      · have hne : (x == 0) = false := by simpa using hx0
        have HR : Hid (or2 a b = x) := by
          obtain ⟨z1, z2⟩ := HZ.out
          obtain ⟨y1, y2⟩ := HX.out
          show or2 a b = x
          unfold or2
          rcases (show k = 0 ∨ k = 1 by omega) with hk | hk
          · rw [← y1 hk, if_pos hx0]
          · rw [if_neg (by simp [z1 (by omega)]), ← y2 hk]
        go_wp2
        go_ret
        exact ⟨by rw [HR.out]; rfl, rfl⟩
    · obtain rfl : k = 2 := by omega
      have HR : Hid (or2 a b = 0) := by
        obtain ⟨z1, z2⟩ := HZ.out
        show or2 a b = 0
        simp [or2, z1, z2]
      go_wp2
      go_ret
      exact ⟨by rw [HR.out]; rfl, rfl⟩
theorem or_new (u : World) (a b : Int) (g : Nat) (hg : g = u.heap.size) :
    Calls Try.prog 24 #[.slice (some ⟨g, 0, none⟩) 2 2] (u.alloc (.cells #[.int .i64 a, .int .i64 b] 3)).drew fun e w' => e = .returned (.int .i64 (or2 a b)) ∧ w' = (u.alloc (.cells #[.int .i64 a, .int .i64 b] 3)).drew := by
  subst hg
  have e : (u.alloc (.cells #[.int .i64 a, .int .i64 b] 3)).drew.heap[u.heap.size]? = some (.cells #[.int .i64 a, .int .i64 b] 3 (0, 0)) := heap_alloc_new u _
  exact cmpOr_any a b u.heap.size _ (by rw [Joins.cell_of_block e]; rfl) (by rw [Joins.cell_of_block e]; rfl)
def cE (a b : En) : Int := or2 (compareBytes a.key.data.toList b.key.data.toList) (cI b.seq a.seq)
theorem cb_lt (a b : ByteArray) : lt a b = decide (compareBytes a.data.toList b.data.toList < 0) := by
  unfold lt
  rw [Od.less_iff]
  rw [ByteArray.toList_eq, ByteArray.toList_eq]
theorem cE_lt (a b : En) : decide (cE a b < 0) = less a b := by
  unfold cE less En.ahead or2
  by_cases hk : a.key = b.key
  · rw [hk, Od.cb_self, if_pos rfl]
    simp only [ne_eq, not_true_eq_false, if_false]
    unfold cI
    by_cases h1 : b.seq < a.seq
    · simp [h1]
    · rw [if_neg h1]
      by_cases h2 : a.seq < b.seq
      · rw [if_pos h2]; simp [h1]
      · rw [if_neg h2]; simp [h1]
  · rw [if_neg hk, cb_lt]
    have h0 : compareBytes a.key.data.toList b.key.data.toList ≠ 0 := fun h => hk (by have := Od.cb_zero h; cases ha : a.key; cases hb : b.key; rw [ha, hb] at this; simpa using this)
    rw [if_pos h0]
def TwoAt (g : Nat) (a b : En) (w : World) : Prop :=
  w.cell? ⟨g, 0, none⟩ = some (.string a.key) ∧ w.cell? ⟨g, 1, none⟩ = some (.int .i64 a.seq) ∧ w.cell? ⟨g + 1, 0, none⟩ = some (.string b.key) ∧ w.cell? ⟨g + 1, 1, none⟩ = some (.int .i64 b.seq)
theorem two_new (w : World) (a b : En) : TwoAt w.heap.size a b ((w.alloc (entObj a)).alloc (entObj b)).drew := by
  have e1 : ((w.alloc (entObj a)).alloc (entObj b)).drew.heap[w.heap.size]? = some (entObj a) := (Below.heap_alloc _ _ _ (by simp)).trans (heap_alloc_new w _)
  have e2 : ((w.alloc (entObj a)).alloc (entObj b)).drew.heap[w.heap.size + 1]? = some (entObj b) := by
    have := heap_alloc_new (w.alloc (entObj a)) (entObj b)
    rw [show (w.alloc (entObj a)).heap.size = w.heap.size + 1 by simp] at this
    exact this
  obtain ⟨a0, a1, _⟩ := ent_cells e1
  obtain ⟨b0, b1, _⟩ := ent_cells e2
  exact ⟨a0, a1, b0, b1⟩
theorem two_alloc {g : Nat} {a b : En} {w : World} (h : TwoAt g a b w.drew) (o : Obj) : TwoAt g a b (w.alloc o).drew := by
  obtain ⟨g1, g2, g3, g4⟩ := h
  have f : ∀ a v, w.drew.cell? a = some v → (w.alloc o).drew.cell? a = some v := fun a v h => by
    have hl : a.block < w.heap.size := World.block_lt_of_cell? w _ h
    have : (w.alloc o).cell? a = w.cell? a := World.cell?_of_block (Below.heap_alloc _ _ _ hl)
    exact this.trans h
  exact ⟨f _ _ g1, f _ _ g2, f _ _ g3, f _ _ g4⟩
set_option maxRecDepth 100000 in
set_option maxHeartbeats 500000 in
theorem cmpE_any (a b : En) (w : World) :
    Calls Try.prog 23 #[env a, env b] w fun e w' => e = .returned (.int .i64 (cE a b)) ∧ Below w.heap.size w w' := by
  unfold cE env
  have HS : Hid _ := two_new w a b
  have HA : Hid (∀ o, TwoAt w.heap.size a b (((w.alloc (entObj a)).alloc (entObj b)).alloc o).drew) := fun o => two_alloc (two_new w a b) o
  unfold entObj at HS HA
  go_enter Try.func23, Try.ntmps23
  go_wp2_with fail
  obtain ⟨g1, g2, g3, g4⟩ := HS.out
  go_region_held3 (fun w' => w'.cell? ⟨w.heap.size, 0, none⟩ = some (.string a.key) ∧ w'.cell? ⟨w.heap.size, 1, none⟩ = some (.int .i64 a.seq) ∧ w'.cell? ⟨w.heap.size + 1, 0, none⟩ = some (.string b.key) ∧ w'.cell? ⟨w.heap.size + 1, 1, none⟩ = some (.int .i64 b.seq)) (first | exact ⟨by assumption, by assumption, by assumption, by assumption⟩ | exact HA.out _)
    ((first
      | (go_at_call 26; refine (cmpInt_any _ _ _).mono ?_; rintro e w1 ⟨rfl, rfl⟩)
      | (go_at_call 25; refine (compare_any _ _ _).mono ?_; rintro e w1 ⟨rfl, rfl⟩)
      | (go_at_call 24; refine (or_new _ _ _ _ (by simp)).mono ?_; rintro e w1 ⟨rfl, rfl⟩)))
  clear g1 g2 g3 g4 HA HS
  go_wp2
  go_ret
  exact ⟨rfl, ((((Below.refl _ _).alloc (Nat.le_refl _) _).alloc (by simp) _).alloc (by simp; omega) _).drew⟩
set_option maxRecDepth 100000 in
set_option maxHeartbeats 500000 in
theorem eqE_any (a b : En) (w : World) :
    Calls Try.prog 28 #[env a, env b] w fun e w' => e = .returned (.bool (hit b.key b.seq a)) ∧ Below w.heap.size w w' := by
  have hb := beq_toList a.key b.key
  have hB : Below w.heap.size w ((w.alloc (entObj a)).alloc (entObj b)) := ((Below.refl _ _).alloc (Nat.le_refl _) _).alloc (by simp) _
  unfold entObj at hB
  have HB : Hid _ := hB
  clear hB
  unfold env hit
  by_cases hk : a.key = b.key
  · rw [decide_eq_true hk] at hb ⊢
    clear hk
    by_cases hs : a.seq = b.seq
    · rw [decide_eq_true hs]
      have hs' : (a.seq == b.seq) = true := by simpa using hs
      clear hs
      generalize a.key = K at *
      generalize a.seq = Q at *
      go_enter Try.func28, Try.ntmps28
      go_wp2
      go_ret
      exact ⟨rfl, HB.out⟩
    · rw [decide_eq_false hs]
      have hs' : (a.seq == b.seq) = false := by simpa using hs
      clear hs
      generalize a.key = K at *
      generalize a.seq = Q at *
      go_enter Try.func28, Try.ntmps28
      go_wp2
      go_ret
      exact ⟨rfl, HB.out⟩
  · rw [decide_eq_false hk] at hb ⊢
    clear hk
    generalize a.key = K at *
    go_enter Try.func28, Try.ntmps28
    go_wp2
    go_ret
    exact ⟨rfl, HB.out⟩
end Go.Proofs.Ytdaibmafnamfgaa.Mg
