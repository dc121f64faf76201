/-
  Package manifest: whether the numbers of an edit may go, and whether its files may come.
-/
import Derived.Test.YtjfanbemihheiaaDoorQManRight
import Derived.Test.YtjfanbemihheiaaDoorQManUnlike
import Derived.Shelf.Slices.SearchI
import Derived.Shelf.Slices.Empties
import Derived.OwnWalk
import Derived.Laws.OwnMore
namespace Go.Proofs.YtjfanbemihheiaaDoor.Ma
open Go.RowKit Cm Go.Shelf
open Mg (NumAns NumsAt sortI values_any sorted_any)
set_option linter.unusedVariables false

set_option maxRecDepth 100000 in
set_option maxHeartbeats 1000000 in
theorem mayGo_any (S : Nat → Prop) (q : Nat) (v : Ve) (c : Nat) (ao : Option Addr) (cap : Nat) (ns : List Int) (w : World) (h : ShelfAt w S q v c) (hn : FarNums w (fun _ => False) ao ns) (hok : ∀ n ∈ ns, OkI n) (hl : ns.length ≤ 1000000000000) :
    Calls Tryd.prog 21 #[.pointer (some ⟨q, 0, none⟩), .slice ao ns.length cap] w fun x w' => x = .returned (.bool (ns.all (hasN v.files) && decide ns.Nodup)) ∧ Below w.heap.size w w' := by
  have HU : Hid _ := unlike_any ao cap ns w hn.cells hl
  have HN : Hid (FarNums w (fun _ => False) ao ns) := hn
  have HSh : Hid (ShelfAt w S q v c) := h
  have HOk : Hid (∀ n ∈ ns, OkI n) := hok
  obtain ⟨m, hm⟩ : ∃ m, m = ns.length := ⟨_, rfl⟩
  have HM : Hid (m = ns.length) := hm
  rw [← hm] at HU hl ⊢
  clear h hn hok hm
  go_enter Tryd.func21, Tryd.ntmps21
  go_wp2
  go_loop [9] (fun i => ∃ k : Nat, k ≤ m ∧ i = .int .i64 k ∧ Hid ((ns.take k).all (hasN v.files) = true)) (fun i => m - (intOf i).toNat)
  case atStart => exact ⟨0, by omega, rfl, by simp [Hid]⟩
  case round =>
    obtain ⟨k, hk, rfl, HR⟩ := hrel
    by_cases hlt : k < m
    · obtain ⟨b, off, rfl, e0⟩ := HN.out.get (Chg.refl _ _) (k := k) (by have := HM.out; omega)
      have HS : Hid (∀ _ : hasN v.files (ns.getD k 0) = true, (ns.take (k + 1)).all (hasN v.files) = true) := fun h => all_snoc (by have := HM.out; omega) HR.out h
      have HNo : Hid (∀ _ : hasN v.files (ns.getD k 0) = false, ns.all (hasN v.files) = false) := fun h => all_not (d := 0) (by have := HM.out; omega) h
      have hoz : OkI (ns.getD k 0) := by rw [getD_lt _ _ _ (by have := HM.out; omega)]; exact HOk.out _ (List.getElem_mem _)
      generalize ns.getD k 0 = z at *
      have HH : Hid _ := has_any S q v c z w HSh.out hoz
      clear hoz
      generalize hasN v.files z = hb at *
      cases hb
      · have HF : Hid (ns.all (hasN v.files) = false) := HNo.out rfl
        clear HS HNo
        go_wp2_with (go_at_call 34; refine (show Calls _ _ _ _ _ from HH.out).mono ?_; rintro x w1 ⟨rfl, rfl⟩)
        go_ret
        exact ⟨by rw [HF.out]; rfl, Below.refl _ _⟩
      · have HS1 : Hid ((ns.take (k + 1)).all (hasN v.files) = true) := HS.out rfl
        clear HS HNo
        go_wp2_with (go_at_call 34; refine (show Calls _ _ _ _ _ from HH.out).mono ?_; rintro x w1 ⟨rfl, rfl⟩)
        go_round
        case rel => exact ⟨k + 1, by omega, by go_num, HS1.out⟩
        case measure => simp [intOf]; omega
    · obtain rfl : k = m := by omega
      have HAll : Hid (ns.all (hasN v.files) = true) := by have := HR.out; rw [HM.out, List.take_length] at this; exact this
      clear HR hlt
      go_wp2_with (go_at_call 35; refine (show Calls _ _ _ _ _ from HU.out).mono ?_; rintro x w1 ⟨rfl, hb1⟩)
      go_ret
      exact ⟨by rw [HAll.out, Bool.true_and]; rfl, hb1⟩

theorem row_cells {w : World} {B n : Nat} {v : Value} {vs : List Value} (h : w.ownsRow B 3 1 v n vs) : ∃ ao cap, v = .slice ao n cap ∧ CellsAt w ao vs ∧ (n = 0 ∨ ∃ g, ao = some ⟨g, 0, none⟩) := by
  have hl : vs.length = n := by simpa using h.1
  rcases h.2 with ⟨rfl, hn⟩ | ⟨g, cap, cur, rfl, _, hg, _⟩
  · exact ⟨none, 0, by rw [hn], .inl (List.eq_nil_of_length_eq_zero (by omega)), .inl hn⟩
  · refine ⟨some ⟨g, 0, none⟩, cap, rfl, .inr ⟨g, 0, rfl, lt_of_block hg, fun j hj => ?_⟩, .inr ⟨g, rfl⟩⟩
    have := h.cells (g := g) rfl j vs[j] (by simp [hj])
    rw [Go.WideShapes.add_plain] at this
    rw [this]; simp [hj]
set_option maxRecDepth 100000 in
theorem search_any {B : Nat} {v : Value} (ns : List Int) (hs : ns.Pairwise (· ≤ ·)) (hl : ns.length ≤ 1000000000000) (x : Int) (w : World) (h : w.ownsRow B 3 1 v ns.length (ns.map (Value.int .i64))) :
    Calls Tryd.prog 38 #[v, .int .i64 x] w fun e w' => ∃ i : Int, e = .returned (.tuple #[.int .i64 i, .bool (ns.contains x)]) ∧ ∃ q, w' = w.drewN q := by
  rcases h.2 with ⟨rfl, hn⟩ | ⟨g, cap, cur, rfl, _, hg, _⟩
  · have : ns = [] := List.length_eq_zero_iff.1 hn
    subst this
    refine (show Calls Tryd.prog 38 #[.slice none 0 0, .int .i64 x] w _ from Any.slices_BinarySearch_int_empty Tryd.searchI none 0 x w).mono ?_
    rintro e w' ⟨rfl, rfl⟩
    exact ⟨0, rfl, 0, rfl⟩
  · have hc : ∀ j, j < ns.length → w.cell? ⟨g, 0 + j, none⟩ = some (.int .i64 (ns.getD j 0)) := fun j hj => by
      have := h.cells (g := g) rfl j (.int .i64 (ns.getD j 0)) (by rw [List.getElem?_map, List.getD_eq_getElem?_getD, List.getElem?_eq_getElem hj]; rfl)
      rw [Go.WideShapes.add_plain] at this
      exact this
    refine (show Calls Tryd.prog 38 #[.slice (some ⟨g, 0, none⟩) ns.length cap, .int .i64 x] w _ from Any.slices_BinarySearch_int Tryd.searchI g 0 ns.length cap ns x w (by omega) (by omega) hc (by rw [List.take_length]; exact hs)).mono ?_
    rintro e w' ⟨rfl, hq⟩
    rw [List.take_length]
    exact ⟨_, rfl, hq⟩
theorem infoInt : (Tryd.prog.info? 3).map (fun i => (i.zero, i.size, i.bytes)) = some (some (.int .i64 0), 1, 8) := by kernel_rfl
/-- May the file come, but for its number standing there twice? -/
def may1 (v : Ve) (e : Ed) (f : Fi) : Bool := decide (f.2 < e.next) && !(hasN v.files f.2 && !e.del.contains f.2)
theorem comes_not {v : Ve} {e : Ed} (h : e.add.all (may1 v e) = false) : comes v e = false := by
  have : e.add.all (fun f => decide (f.2 < e.next) && !(hasN v.files f.2 && !e.del.contains f.2)) = false := h
  unfold comes; rw [this]; rfl
theorem comes_is {v : Ve} {e : Ed} (h : e.add.all (may1 v e) = true) : comes v e = decide ((e.add.map (·.2)).Nodup) := by
  have : e.add.all (fun f => decide (f.2 < e.next) && !(hasN v.files f.2 && !e.del.contains f.2)) = true := h
  unfold comes; rw [this]; rfl

/-- What the loop over the files that come holds fast. -/
structure Coming (w : World) (S : Nat → Prop) (q c : Nat) (v : Ve) (aa : Option Addr) (ca : Nat) (ad : Option Addr) (cd : Nat) (e : Ed) (v5 : Value) (g k : Nat) (wr : World) : Prop where
  bel : Below w.heap.size w wr
  box : wr.heap[w.heap.size]? = some (edObj (.slice aa e.add.length ca) (.slice ad e.del.length cd) e)
  going : wr.ownsRow w.heap.size 3 1 v5 (sortI e.del).length ((sortI e.del).map (Value.int .i64))
  row : ∃ xs, wr.ownsRow w.heap.size 3 1 (.slice (some ⟨g, 0, none⟩) e.add.length e.add.length) e.add.length xs ∧ xs.take k = (e.add.take k).map fun f => Value.int .i64 f.2
  far : v5.ownBlock ≠ some g ∧ w.heap.size < g
  may : (e.add.take k).all (may1 v e) = true
section
variable {w wr X : World} {S : Nat → Prop} {q c : Nat} {v : Ve} {aa ad : Option Addr} {ca cd : Nat} {e : Ed} {v5 : Value} {g k : Nat}
theorem Coming.below (h : Coming w S q c v aa ca ad cd e v5 g k wr) (hb : Below wr.heap.size wr X) : Coming w S q c v aa ca ad cd e v5 g k X := by
  obtain ⟨xs, h1, h2⟩ := h.row
  exact ⟨h.bel.trans (hb.mono h.bel.size), (hb.block _ (lt_of_block h.box)).trans h.box, own_keep h.going fun k hk => hb.block k (h.going.lt k hk).2, ⟨xs, own_keep h1 fun k hk => hb.block k (h1.lt k hk).2, h2⟩, h.far, h.may⟩
theorem Coming.slot (h : Coming w S q c v aa ca ad cd e v5 g k wr) (hk : k < e.add.length) : ∃ u, wr.cell? ⟨g, k, none⟩ = some u ∧ wr.frozen? ⟨g, k, none⟩ = false := by
  obtain ⟨xs, h1, _⟩ := h.row
  have hxl : xs.length = e.add.length := by simpa using h1.1
  have := h1.cellAt k (by omega)
  rw [List.getElem?_eq_getElem (by omega)] at this
  exact ⟨_, this, h1.frozenAt k⟩
theorem Coming.put (h : Coming w S q c v aa ca ad cd e v5 g k wr) (hk : k < e.add.length) (hm : may1 v e (e.add.getD k (0, 0)) = true) : Coming w S q c v aa ca ad cd e v5 g (k + 1) (wr.setCell ⟨g, k, none⟩ (.int .i64 (e.add.getD k (0, 0)).2)) := by
  obtain ⟨xs, h1, h2⟩ := h.row
  obtain ⟨h3, h4⟩ := h1.stored k (.int .i64 (e.add.getD k (0, 0)).2)
  have hxl : xs.length = e.add.length := by simpa using h1.1
  have hf := h.far
  refine ⟨h.bel.grown h4 h.bel.size (fun j hj => by cases hj; omega), ?_, ownsRow_setCell_other h.going hf.1 _, ⟨_, h3, ?_⟩, hf, all_snoc hk h.may hm⟩
  · rw [Below.heap_setCell _ _ _ _ (by simp; omega)]; exact h.box
  · rw [take_at hk (d := (0, 0)), List.map_append, ← h2, List.take_succ_eq_append_getElem (by simpa using (by omega : k < xs.length)), List.getElem_set_self, List.take_set_of_le (Nat.le_refl k)]
    rfl
end
end Go.Proofs.YtjfanbemihheiaaDoor.Ma
