/-
  Package manifest: does no number stand there twice?
-/
import Derived.Test.YtjfanbemihheiaaDoorQMergeNums
import Derived.Shelf.Slices.CompactI
namespace Go.Proofs.YtjfanbemihheiaaDoor.Ma
open Go.RowKit Cm Go.Shelf
open Mg (NumAns NumsAt sortI values_any sorted_any)
set_option linter.unusedVariables false

theorem nums_at {w : World} {so : Option Addr} {sc : Nat} {seen : List Int} (h : CellsAt w so (seen.map (Value.int .i64))) : NumsAt (w.alloc (.cells #[.slice so seen.length sc] 34)) w.heap.size seen := by
  refine ⟨so, sc, ?_, h.keep (fun b hb => Below.heap_alloc _ _ b hb) (by simp)⟩
  rw [Joins.cell_of_block (show (w.alloc (.cells #[.slice so seen.length sc] 34)).heap[w.heap.size]? = some (.cells #[.slice so seen.length sc] 34 (0, 0)) from heap_alloc_new w _)]; rfl
theorem sortI_perm (zs : List Int) : (sortI zs).Perm zs := List.mergeSort_perm _ _
theorem sortI_sorted (zs : List Int) : (sortI zs).Pairwise (· ≤ ·) := by
  have := List.pairwise_mergeSort (le := fun x y : Int => decide (x ≤ y)) (by intro a b c h1 h2; simp at *; omega) (by intro a b; simp; omega) zs
  rw [List.pairwise_iff_getElem] at this ⊢
  exact fun i j hi hj hij => of_decide_eq_true (this i j hi hj hij)
theorem sortI_len (zs : List Int) : (sortI zs).length = zs.length := (sortI_perm zs).length_eq
theorem compact_le (zs : List Int) : (Lib.compact zs).length ≤ zs.length := by
  unfold Lib.compact Lib.compactUpTo
  rw [List.length_map]
  exact Nat.le_trans (List.length_filter_le ..) (by simp)
/-- In order: nothing goes just if no number stands there twice. -/
theorem compact_len {zs : List Int} (h : zs.Pairwise (· ≤ ·)) : decide ((Lib.compact zs).length = zs.length) = decide zs.Nodup := by
  rw [decide_eq_decide]
  have e : (Lib.compact zs).length = zs.length ↔ ∀ j, j < zs.length → Lib.keeps zs.toArray j = true := by
    unfold Lib.compact Lib.compactUpTo
    rw [List.length_map]
    have := List.length_filter_eq_length_iff (p := Lib.keeps zs.toArray) (l := List.range zs.length)
    rw [List.length_range] at this
    rw [this]
    exact ⟨fun h j hj => h j (List.mem_range.2 hj), fun h j hj => h j (List.mem_range.1 hj)⟩
  rw [e]
  have get : ∀ j, (hj : j < zs.length) → zs.toArray[j]! = zs[j] := fun j hj => by simp [getElem!_pos, hj]
  constructor
  · intro hk
    have hs : ∀ i j, (hi : i < zs.length) → (hj : j < zs.length) → i < j → zs[i] < zs[j] := by
      intro i j hi hj hij
      have h1 := hk j hj
      unfold Lib.keeps at h1
      rw [decide_eq_true_eq, get j hj, get (j - 1) (by omega)] at h1
      have h2 : zs[j] ≠ zs[j - 1] := by
        rcases h1 with h1 | h1
        · omega
        · exact h1
      have h3 := List.pairwise_iff_getElem.1 h (j - 1) j (by omega) hj (by omega)
      by_cases e2 : i = j - 1
      · subst e2; omega
      · have h4 := List.pairwise_iff_getElem.1 h i (j - 1) hi (by omega) (by omega)
        omega
    exact List.pairwise_iff_getElem.2 fun i j hi hj hij => by have := hs i j hi hj hij; omega
  · intro hn j hj
    unfold Lib.keeps
    rw [decide_eq_true_eq]
    by_cases h0 : j = 0
    · exact .inl h0
    · right
      rw [get j hj, get (j - 1) (by omega)]
      exact fun e2 => List.pairwise_iff_getElem.1 hn (j - 1) j (by omega) hj (by omega) e2.symm

theorem putRow_below {w : World} {B g n : Nat} (hB : B ≤ g) (hw : B ≤ w.heap.size) (d : Array Int) : Below B w (Sort.putRow (Value.int .i64) (Sort.ahead w n) g 0 d) := by
  refine ⟨rfl, rfl, rfl, by simp, fun k hk => ?_⟩
  have : g ≠ k := by omega
  simp [Sort.putRow, Sort.mapBlock, Sort.ahead, Array.getElem?_modify, this]

set_option maxRecDepth 100000 in
theorem compacted (ns : List Int) (hs : ns.Pairwise (· ≤ ·)) (hl : ns.length ≤ 1000000000000) {B : Nat} {v : Value} (w : World) (h : w.ownsRow B 3 1 v ns.length (ns.map (Value.int .i64))) (hB : B ≤ w.heap.size) :
    Calls Tryd.prog 46 #[v] w fun e w' => ∃ ao k c, e = .returned (.slice ao k c) ∧ decide (k = ns.length) = decide ns.Nodup ∧ k ≤ ns.length ∧ Below B w w' := by
  rcases h.2 with ⟨rfl, hn⟩ | ⟨g, cap, cur, rfl, hBg, hg, hle, hcm, hcs, htk⟩
  · have : ns = [] := List.length_eq_zero_iff.1 hn
    subst this
    refine (show Calls Tryd.prog 46 #[.slice none 0 0] w _ from Any.slices_Compact_int_empty Tryd.compactI none 0 w).mono ?_
    rintro e w' ⟨rfl, rfl⟩
    exact ⟨none, 0, 0, rfl, by simp, by simp, Below.refl _ _⟩
  · have hH := holds_of_blockI (ss := ns) hg (by simpa using htk)
    refine (show Calls Tryd.prog 46 #[.slice (some ⟨g, 0, none⟩) ns.length cap] w _ from Any.slices_Compact_int Tryd.compactI g 0 cap ns w hH (by omega) hle).mono ?_
    rintro e w' ⟨rfl, q, rfl⟩
    exact ⟨_, _, _, rfl, compact_len hs, compact_le ns, putRow_below hBg hB _⟩

theorem beq_cast (k m : Nat) : ((k : Int) == (m : Int)) = decide (k = m) := by
  rw [Bool.eq_iff_iff]; simp; omega

set_option maxRecDepth 100000 in
theorem unlike_any (ao : Option Addr) (cap : Nat) (ns : List Int) (w : World) (h : CellsAt w ao (ns.map (Value.int .i64))) (hl : ns.length ≤ 1000000000000) :
    Calls Tryd.prog 35 #[.slice ao ns.length cap] w fun e w' => e = .returned (.bool (decide ns.Nodup)) ∧ Below w.heap.size w w' := by
  have hw1 : Below w.heap.size w (w.alloc (.cells #[.slice ao ns.length cap] 34)) := (Below.refl _ _).alloc (Nat.le_refl _) _
  have HS : Hid _ := sorted_any w.heap.size ns hl _ (nums_at (sc := cap) h)
  have HW : Hid _ := hw1
  have HL : Hid (ns.length ≤ 1000000000000) := hl
  obtain ⟨m, hm⟩ : ∃ m, m = ns.length := ⟨_, rfl⟩
  have HM : Hid (m = ns.length) := hm
  rw [← hm] at HS HW hl ⊢
  clear h hw1 hm
  go_enter Tryd.func35, Tryd.ntmps35
  go_wp2_with fail
  refine (values_any _ _ _ _).mono ?_
  rintro e w1 ⟨rfl, rfl⟩
  go_wp2_with fail
  refine (show Calls _ _ _ _ _ from HS.out).mono ?_
  rintro e w2 ⟨v, rfl, ho, hb⟩
  have HC : Hid _ := compacted (sortI ns) (sortI_sorted ns) (by rw [sortI_len]; exact HL.out) w2 ho hb.size
  have HB : Hid _ := HW.out.trans (hb.mono HW.out.size)
  clear HS HW ho hb
  go_wp2_with fail
  refine (show Calls _ _ _ _ _ from HC.out).mono ?_
  rintro e w3 ⟨ao3, k, c3, rfl, hk, hk2, hb3⟩
  have HE : Hid (decide (k = m) = decide ns.Nodup) := by show _ = _; rw [HM.out, ← sortI_len ns, hk, decide_eq_decide]; exact (sortI_perm ns).nodup_iff
  have HB3 : Hid (Below w.heap.size w w3) := HB.out.trans (hb3.mono (by simp))
  clear HC hk hb3 HB HM
  go_wp2
  go_ret
  exact ⟨by rw [← HE.out, ← beq_cast]; rfl, HB3.out⟩
end Go.Proofs.YtjfanbemihheiaaDoor.Ma
