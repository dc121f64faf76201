/-
  Files put in order: the comparison, slices.SortFunc.
-/
import Derived.Test.YtjfanbemihheiaaDoorQManHeap
import Derived.Test.YtjfanbemihheiaaDoorQMergeShelf
import Derived.Shelf.SlSortCmp.NoneTotal
import Derived.Deep.RegionHeld3
import Derived.Deep.DrawnRows
import Derived.Deep.RegionWith
namespace Go.Proofs.YtjfanbemihheiaaDoor.Ma
open Go.RowKit Go.Shelf Go.Sort Cm
attribute [local go_sem ↓] Go.wp_at_zero Go.wp_at_succ
set_option linter.unusedVariables false

def cmpI (x y : Int) : Int := if x < y then -1 else if y < x then 1 else 0
def cmpF (a b : Fi) : Int := if cmpI a.1 b.1 ≠ 0 then cmpI a.1 b.1 else cmpI a.2 b.2
theorem cmpF_lt (a b : Fi) : ltOf cmpF a b = !leF b a := by
  unfold ltOf cmpF cmpI
  rw [Bool.eq_iff_iff, decide_eq_true_eq, Bool.not_eq_true', ← Bool.not_eq_true, leF_iff]
  by_cases h1 : a.1 < b.1
  · rw [if_pos h1]; simp; omega
  · rw [if_neg h1]
    by_cases h2 : b.1 < a.1
    · rw [if_pos h2]; simp; omega
    · rw [if_neg h2]
      by_cases h3 : a.2 < b.2
      · rw [if_pos h3]; simp; omega
      · rw [if_neg h3]
        by_cases h4 : b.2 < a.2
        · rw [if_pos h4]; simp; omega
        · rw [if_neg h4]; simp; omega
theorem cmpF_le : (fun x y => !(ltOf cmpF) y x) = leF := by
  funext x y
  rw [cmpF_lt, Bool.not_not]
theorem cmpF_swo : SWO (ltOf cmpF) := by
  refine ⟨fun x => ?_, fun x y z h1 h2 => ?_, fun x y z h1 h2 => ?_⟩
  · rw [cmpF_lt]
    have := leF_total x x
    simp at this
    rw [this]; rfl
  · rw [cmpF_lt, Bool.not_eq_true', ← Bool.not_eq_true, leF_iff] at *
    omega
  · rw [cmpF_lt, Bool.not_eq_false'] at *
    exact leF_trans _ _ _ h2 h1
theorem compare_any (x y : Int) (w : World) : Calls Tryd.prog 29 #[.int .i64 x, .int .i64 y] w fun e w' => e = .returned (.int .i64 (cmpI x y)) ∧ w' = w := by
  have b1 : (x != x) = false := by simp
  have b2 : (y != y) = false := by simp
  by_cases h1 : x < y
  · have HC : Hid (cmpI x y = -1) := if_pos h1
    go_enter Tryd.func29, Tryd.ntmps29
    go_wp2
    go_ret
    exact ⟨by rw [HC.out]; rfl, rfl⟩
  · by_cases h2 : y < x
    · have HC : Hid (cmpI x y = 1) := (if_neg h1).trans (if_pos h2)
      go_enter Tryd.func29, Tryd.ntmps29
      go_wp2
      go_ret
      exact ⟨by rw [HC.out]; rfl, rfl⟩
    · have HC : Hid (cmpI x y = 0) := (if_neg h1).trans (if_neg h2)
      go_enter Tryd.func29, Tryd.ntmps29
      go_wp2
      go_ret
      exact ⟨by rw [HC.out]; rfl, rfl⟩
theorem or_any (g : Nat) (a b : Int) (w : World) (h0 : w.cell? ⟨g, 0, none⟩ = some (.int .i64 a)) (h1 : w.cell? ⟨g, 1, none⟩ = some (.int .i64 b)) :
    Calls Tryd.prog 28 #[.slice (some ⟨g, 0, none⟩) 2 2] w fun e w' => e = .returned (.int .i64 (if a ≠ 0 then a else b)) ∧ w' = w := by
  have HA : Hid (∀ _ : a ≠ 0, (if a ≠ 0 then a else b) = a) := fun h => if_pos h
  have HB : Hid (∀ _ : a = 0, (if a ≠ 0 then a else b) = b) := fun h => if_neg (by rw [h]; simp)
  generalize (if a ≠ 0 then a else b) = r at *
  go_enter Tryd.func28, Tryd.ntmps28
  go_wp2
  go_loop [8] (fun i => ∃ k : Nat, k ≤ 2 ∧ i = .int .i64 k ∧ (1 ≤ k → Hid (a = 0)) ∧ (2 ≤ k → Hid (b = 0))) (fun i => 2 - (intOf i).toNat)
  case atStart => exact ⟨0, by omega, rfl, fun h => by omega, fun h => by omega⟩
  case round =>
    obtain ⟨k, hk, rfl, hz1, hz2⟩ := hrel
    rcases (by omega : k = 0 ∨ k = 1 ∨ k = 2) with rfl | rfl | rfl
    · clear hz1 hz2
      by_cases ha : a = 0
      · have HZ : Hid (a = 0) := ha
        have ha1 : (a != 0) = false := by rw [ha]; rfl
        clear ha
        go_wp2
        go_round
        case rel => exact ⟨1, by omega, by go_num, fun _ => HZ, fun h => by omega⟩
        case measure => simp [intOf]
      · have HR : Hid (r = a) := HA.out ha
        have ha1 : (a != 0) = true := by simpa using ha
        clear ha
        go_wp2
        go_ret
        exact ⟨by rw [HR.out]; rfl, rfl⟩
    · have HZ := hz1 (by omega)
      clear hz1 hz2
      have HR : Hid (r = b) := HB.out HZ.out
      by_cases hb : b = 0
      · have HZ2 : Hid (b = 0) := hb
        have hb1 : (b != 0) = false := by rw [hb]; rfl
        clear hb
        go_wp2
        go_round
        case rel => exact ⟨2, by omega, by go_num, fun _ => HZ, fun _ => HZ2⟩
        case measure => simp [intOf]
      · have hb1 : (b != 0) = true := by simpa using hb
        clear hb
        go_wp2
        go_ret
        exact ⟨by rw [HR.out]; rfl, rfl⟩
    · have HZ := hz1 (by omega)
      have HZ2 := hz2 (by omega)
      have HR : Hid (r = 0) := (HB.out HZ.out).trans HZ2.out
      clear hz1 hz2
      go_wp2
      go_ret
      exact ⟨by rw [HR.out]; rfl, rfl⟩

theorem drewN_grow (w : World) (os : Array Obj) (n : Nat) : (grow w os).drewN n = grow (w.drewN n) os := rfl
set_option maxRecDepth 100000 in
set_option maxHeartbeats 1000000 in
theorem less_any (x y : Fi) (w : World) : Calls Tryd.prog 27 #[.agg #[.int .i64 x.1, .int .i64 x.2], .agg #[.int .i64 y.1, .int .i64 y.2]] w fun e w' => e = .returned (.int .i64 (cmpF x y)) ∧ ∃ q os, w' = grow (w.drewN q) os := by
  have HF : Hid (cmpF x y = if cmpI x.1 y.1 ≠ 0 then cmpI x.1 y.1 else cmpI x.2 y.2) := rfl
  generalize cmpF x y = r at *
  obtain ⟨c1, hc1⟩ : ∃ c, c = cmpI x.1 y.1 := ⟨_, rfl⟩
  obtain ⟨c2, hc2⟩ : ∃ c, c = cmpI x.2 y.2 := ⟨_, rfl⟩
  have H1 : Hid (∀ W, Calls Tryd.prog 29 #[.int .i64 x.1, .int .i64 y.1] W fun e w' => e = .returned (.int .i64 c1) ∧ w' = W) := fun W => by rw [hc1]; exact compare_any _ _ W
  have H2 : Hid (∀ W, Calls Tryd.prog 29 #[.int .i64 x.2, .int .i64 y.2] W fun e w' => e = .returned (.int .i64 c2) ∧ w' = W) := fun W => by rw [hc2]; exact compare_any _ _ W
  rw [← hc1, ← hc2] at HF
  clear hc1 hc2
  obtain ⟨w2, hw2⟩ : ∃ w2, w2 = (w.alloc (.cells #[.int .i64 x.1, .int .i64 x.2] 28)).alloc (.cells #[.int .i64 y.1, .int .i64 y.2] 28) := ⟨_, rfl⟩
  have hg : w2 = grow w #[.cells #[.int .i64 x.1, .int .i64 x.2] 28 (0, 0), .cells #[.int .i64 y.1, .int .i64 y.2] 28 (0, 0)] := by rw [hw2, alloc_eq_grow, alloc_eq_grow, grow_grow]; rfl
  have hx : w2.heap[w.heap.size]? = some (.cells #[.int .i64 x.1, .int .i64 x.2] 28 (0, 0)) := by rw [hw2]; exact (Below.heap_alloc _ _ _ (by simp)).trans (heap_alloc_new w _)
  have hy : w2.heap[w.heap.size + 1]? = some (.cells #[.int .i64 y.1, .int .i64 y.2] 28 (0, 0)) := by rw [hw2]; have := heap_alloc_new (w.alloc (.cells #[.int .i64 x.1, .int .i64 x.2] 28)) (.cells #[.int .i64 y.1, .int .i64 y.2] 28); rwa [World.size_alloc] at this
  have hs2 : w2.heap.size = w.heap.size + 2 := by rw [hw2]; simp
  have x0 : w2.cell? ⟨w.heap.size, 0, none⟩ = some (.int .i64 x.1) := by rw [Joins.cell_of_block hx]; rfl
  have x1 : w2.cell? ⟨w.heap.size, 1, none⟩ = some (.int .i64 x.2) := by rw [Joins.cell_of_block hx]; rfl
  have y0 : w2.cell? ⟨w.heap.size + 1, 0, none⟩ = some (.int .i64 y.1) := by rw [Joins.cell_of_block hy]; rfl
  have y1 : w2.cell? ⟨w.heap.size + 1, 1, none⟩ = some (.int .i64 y.2) := by rw [Joins.cell_of_block hy]; rfl
  have hw2' := hw2.symm
  have HG : Hid _ := hg
  have HO : Hid (Calls Tryd.prog 28 #[.slice (some ⟨w.heap.size + 2, 0, none⟩) 2 2] (w2.alloc (.cells #[.int .i64 c1, .int .i64 c2] 3)).drew fun e w' => e = .returned (.int .i64 r) ∧ w' = (w2.alloc (.cells #[.int .i64 c1, .int .i64 c2] 3)).drew) := by
    rw [HF.out]
    have hn := heap_alloc_new w2 (.cells #[.int .i64 c1, .int .i64 c2] 3)
    rw [hs2] at hn
    have hn' : (w2.alloc (.cells #[.int .i64 c1, .int .i64 c2] 3)).drew.heap[w.heap.size + 2]? = some (.cells #[.int .i64 c1, .int .i64 c2] 3 (0, 0)) := hn
    exact or_any _ c1 c2 _ (by rw [Joins.cell_of_block hn']; rfl) (by rw [Joins.cell_of_block hn']; rfl)
  clear hg hw2 hx hy
  go_enter Tryd.func27, Tryd.ntmps27
  go_wp2_with fail
  go_region_held3 (fun w' => w'.cell? ⟨w.heap.size, 0, none⟩ = some (.int .i64 x.1) ∧ w'.cell? ⟨w.heap.size, 1, none⟩ = some (.int .i64 x.2) ∧ w'.cell? ⟨w.heap.size + 1, 0, none⟩ = some (.int .i64 y.1) ∧ w'.cell? ⟨w.heap.size + 1, 1, none⟩ = some (.int .i64 y.2))
    (first | with_reducible exact ⟨x0, x1, y0, y1⟩ | exact ⟨x0, x1, y0, y1⟩ | go_keep)
    (first | (go_at_call_of 29 (Value.int IntKind.i64 x.1); refine (H1.out _).mono ?_; rintro e w' ⟨rfl, rfl⟩) | (go_at_call_of 29 (Value.int IntKind.i64 x.2); refine (H2.out _).mono ?_; rintro e w' ⟨rfl, rfl⟩) | (go_at_call 28; refine (show Calls _ _ _ _ _ from HO.out).mono ?_; rintro e w' ⟨rfl, rfl⟩))
  clear HO H1 H2 hw2'
  go_wp2
  go_ret
  refine ⟨rfl, 1, #[.cells #[.int .i64 x.1, .int .i64 x.2] 28 (0, 0), .cells #[.int .i64 y.1, .int .i64 y.2] 28 (0, 0), .cells #[.int .i64 c1, .int .i64 c2] 3 (0, 0)], ?_⟩
  rw [HG.out, alloc_eq_grow, grow_grow]
  rfl

/-! ### The row in order -/
theorem isAggF (w : World) : (isAgg 28).run Tryd.prog w = .ok true w := by kernel_rfl
theorem sizeF (w : World) : (Go.sizeOf 28).run Tryd.prog w = .ok 2 w := by kernel_rfl
theorem flat_vals (l : List Fi) : (flatK fiShape.enc 2 l.toArray).toList = fiShape.vals l := by
  have hv := fiShape.vals_length l
  have hsz : fiShape.sz = 2 := rfl
  rw [hsz] at hv
  apply List.ext_getElem
  · simp [hv]
  · intro t h1 h2
    have ht : t < l.length * 2 := by rw [hv] at h2; exact h2
    have hd : t / 2 < l.length := by omega
    have hm : t % 2 < 2 := Nat.mod_lt _ (by decide)
    have hg := fiShape.vals_get l (t / 2) hd (t % 2) hm
    rw [show t / 2 * fiShape.sz + t % 2 = t by show t / 2 * 2 + t % 2 = t; omega, List.getElem?_eq_getElem h2] at hg
    have hl : (fiShape.enc l[t / 2])[t % 2]? = some (fiShape.vals l)[t] := hg.symm
    have hk := get_flatK fiShape.enc 2 l.toArray t (by simpa using ht)
    rw [getElem!_pos (flatK fiShape.enc 2 l.toArray) t (by simpa using ht)] at hk
    rw [Array.getElem_toList, hk]
    have e1 : l.toArray[t / 2]! = l[t / 2] := by simp [getElem!_pos, hd]
    rw [e1, List.getElem!_eq_getElem?_getD, hl]
    rfl
theorem holds_own {w : World} {g : Nat} {cur : Array Value} {e : TypeId} {l : List Fi} (hb : w.heap[g]? = some (.cells cur e (0, 0))) (ht : cur.toList.take (l.length * 2) = fiShape.vals l) : HoldsK fiShape.enc 2 w g 0 l.toArray := by
  intro j hj
  have hj' : j < l.length * 2 := by simpa using hj
  refine ⟨?_, by simp [World.frozen?, hb]⟩
  have h1 : (cur.toList.take (l.length * 2))[j]? = (fiShape.vals l)[j]? := by rw [ht]
  rw [List.getElem?_take_of_lt hj', ← flat_vals] at h1
  simp only [World.cell?, hb, Nat.zero_add]
  simp only [Option.isSome_none, Bool.false_eq_true, if_false]
  rw [← Array.getElem?_toList, h1, Array.getElem?_toList, Array.getElem?_eq_getElem hj, getElem!_pos _ j hj]
  rfl
theorem heap_put {w : World} {g n : Nat} {os : Array Obj} {cur : Array Value} {e : TypeId} {fr : Nat × Nat} (F : Array Value) (hb : w.heap[g]? = some (.cells cur e fr)) :
    (grow (putRow id (Sort.ahead w n) g 0 F) os).heap[g]? = some (.cells (putCells id 0 F cur) e fr) := by
  have hg : g < w.heap.size := (Array.getElem?_eq_some_iff.1 hb).1
  rw [heap_grow_old _ _ (by simpa using hg)]
  simp [putRow, mapBlock, Sort.ahead, Array.getElem?_modify, hb, onCells]
theorem grown_put {w : World} {g n : Nat} {os : Array Obj} (F : Array Value) : w.grownBy (grow (putRow id (Sort.ahead w n) g 0 F) os) (some g) := by
  refine ⟨rfl, rfl, rfl, by simp, fun k hk hne => ?_⟩
  rw [heap_grow_old _ _ (by simpa using hk)]
  have : g ≠ k := fun e => hne (by rw [e])
  simp [putRow, mapBlock, Sort.ahead, Array.getElem?_modify, this]
theorem take_put (cur F : Array Value) (h : F.size ≤ cur.size) : (putCells id 0 F cur).toList.take F.size = F.toList := by
  apply List.ext_getElem?
  intro j
  by_cases hj : j < F.size
  · rw [List.getElem?_take_of_lt hj, Array.getElem?_toList]
    simp [putCells, hj, show j < cur.size by omega]
  · rw [List.getElem?_take_eq_none (by omega), List.getElem?_eq_none (by simp; omega)]
theorem less_lays (blk off size : Nat) (w : World) : CmpLays Tryd.prog 27 #[] fiShape.enc 2 cmpF blk off size w := by
  intro m os dk hd x y
  exact less_any x y _
set_option maxRecDepth 100000 in
theorem sortF_any {B : Nat} {v : Value} (l : List Fi) (hl : l.length ≤ 1000000000000) (w : World) (h : w.ownsRow B 28 2 v l.length (fiShape.vals l)) (hB : B ≤ w.heap.size) :
    Calls Tryd.prog 26 #[v, .func (.func 27) #[] #[]] w fun e w' => e = .returned (.tuple #[]) ∧ w'.ownsRow B 28 2 v l.length (fiShape.vals (srt l)) ∧ Below B w w' := by
  rcases h.2 with ⟨rfl, hn⟩ | ⟨g, cap, cur, rfl, hBg, hg, hle, hcm, hcs, htk⟩
  · have : l = [] := List.length_eq_zero_iff.1 hn
    subst this
    refine (show Calls Tryd.prog 26 #[.slice none 0 0, .func (.func 27) #[] #[]] w _ from AnyF.slices_SortFunc_none { Tryd.sortF with } none 0 _ w).mono ?_
    rintro e w' ⟨rfl, rfl⟩
    rw [srt_nil]
    exact ⟨rfl, h, Below.refl _ _⟩
  · have hH := holds_own (l := l) hg htk
    have hS := AnyQ.slices_SortFunc_total Tryd.sortF 2 isAggF sizeF fiShape.enc fiShape.len fiShape.one cmpF cmpF_swo 27 #[] g 0 cap l.toArray w (enters_of Tryd.func27 (by kernel_rfl) rfl) (less_lays g 0 l.toArray.size w) hH (lt_of_block hg) (by simp; omega) (fun x y h1 h2 => by
      rw [cmpF_lt, Bool.not_eq_false'] at h1 h2
      exact leF_anti h2 h1)
    rw [List.size_toArray] at hS
    refine (show Calls Tryd.prog 26 #[.slice (some ⟨g, 0, none⟩) l.length cap, .func (.func 27) #[] #[]] w _ from hS).mono ?_
    rintro e w' ⟨rfl, nn, os, rfl⟩
    have he : (l.toArray.toList.mergeSort fun x y => !(ltOf cmpF) y x) = srt l := by rw [cmpF_le]; rfl
    rw [he]
    have hfs : (flatK fiShape.enc 2 (srt l).toArray).size = l.length * 2 := by rw [size_flatK, List.size_toArray, srt_len]
    refine ⟨rfl, ⟨by rw [fiShape.vals_length, srt_len]; rfl, .inr ⟨g, cap, _, rfl, hBg, heap_put _ hg, hle, hcm, by simp [putCells, hcs], ?_⟩⟩, ?_⟩
    · rw [← hfs, take_put _ _ (by rw [hfs]; have := Nat.mul_le_mul_right 2 hle; omega), flat_vals]
    · exact (Below.refl B w).grown (grown_put _) hB (fun k hk => by cases hk; exact hBg)
end Go.Proofs.YtjfanbemihheiaaDoor.Ma
