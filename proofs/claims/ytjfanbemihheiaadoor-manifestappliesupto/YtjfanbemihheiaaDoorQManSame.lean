/-
  The reference's comparison of lists of files, and of versions.
-/
import Derived.Test.YtjfanbemihheiaaDoorQManVersion
import Derived.Laws.StructEq
import Derived.BigQuiet
namespace Go.Proofs.YtjfanbemihheiaaDoor.Ma
open Go.RowKit Cm
attribute [local go_sem ↓] Go.wp_at_zero Go.wp_at_succ
set_option linter.unusedVariables false

theorem guardFile : Tryd.prog.eqGuardType Tryd.prog.depth 28 = false := by kernel_rfl
def eqFi (x y : Fi) : Bool := x.1 == y.1 && x.2 == y.2
theorem eqFi_iff {x y : Fi} : eqFi x y = true ↔ x = y := by
  unfold eqFi
  rw [Bool.and_eq_true, beq_iff_eq, beq_iff_eq]
  exact ⟨fun h => Prod.ext h.1 h.2, fun h => by rw [h]; exact ⟨rfl, rfl⟩⟩
theorem neq_files (x y : Fi) (w : World) : (binOp .neq 28 (.agg #[.int .i64 x.1, .int .i64 x.2]) (.agg #[.int .i64 y.1, .int .i64 y.2])).run Tryd.prog w = .ok (.bool (!eqFi x y)) w := by
  have u3 := Tryd.underlying3
  have a3 := Tryd.isAgg3
  have z3 := Tryd.sizeOf3
  have hS : Tryd.prog.underlying 28 = some (.struct (Tryd.prog.fieldsOf 28)) := by kernel_rfl
  have hp : Tryd.prog.stoodInHeld 28 = false := by kernel_rfl
  rw [run_neq_struct, show (10000 : Nat) = 9999 + 1 from rfl, run_equalIn_agg w 9999 28 _ _ hS hp]
  simp only [Program.fieldsOf, Tryd.underlying28]
  by_cases h1 : x.1 = y.1
  · by_cases h2 : x.2 = y.2
    · have : eqFi x y = true := by unfold eqFi; simp [h1, h2]
      rw [this]
      go_simp
    · have : eqFi x y = false := by unfold eqFi; simp [h2]
      have h2' : (x.2 == y.2) = false := by simpa using h2
      rw [this]
      go_simp
  · have : eqFi x y = false := by unfold eqFi; simp [h1]
    have h1' : (x.1 == y.1) = false := by simpa using h1
    rw [this]
    go_simp
theorem neq_self (x : Fi) (w : World) : (binOp .neq 28 (.agg #[.int .i64 x.1, .int .i64 x.2]) (.agg #[.int .i64 x.1, .int .i64 x.2])).run Tryd.prog w = .ok (.bool false) w := by
  have := neq_files x x w
  rwa [eqFi_iff.2 rfl] at this
theorem fi_get {w wr : World} {ao : Option Addr} {xs : List Fi} (h : ElemsAt fiShape w ao xs) {n : Nat} (hw : wr = w.drewN n) {k : Nat} (hk : k < xs.length) : ∃ b off, ao = some ⟨b, off, none⟩ ∧ wr.cell? ⟨b, off + k * 2, none⟩ = some (.int .i64 (xs.getD k (0, 0)).1) ∧ wr.cell? ⟨b, off + k * 2 + 1, none⟩ = some (.int .i64 (xs.getD k (0, 0)).2) := by
  rw [getD_lt _ _ _ hk]
  rcases h with rfl | ⟨b, off, rfl, _, hc⟩
  · simp at hk
  · subst hw
    exact ⟨b, off, rfl, hc k hk 0 _ rfl, hc k hk 1 _ rfl⟩
set_option maxRecDepth 100000 in
set_option maxHeartbeats 500000 in
theorem sameFiles_any (ao bo : Option Addr) (ca cb : Nat) (xs : List Fi) (w : World) (ha : ElemsAt fiShape w ao xs) (hb : ElemsAt fiShape w bo xs) (hlen : xs.length ≤ 1000000000000) :
    Calls Tryd.prog 10 #[.slice ao xs.length ca, .slice bo xs.length cb] w fun e w' => e = .returned (.bool true) ∧ ∃ n, w' = w.drewN n := by
  have hgd := guardFile
  have hns := neq_self
  obtain ⟨m, hm⟩ : ∃ m, m = xs.length := ⟨_, rfl⟩
  have HM : Hid (m = xs.length) := hm
  rw [← hm] at hlen ⊢
  have HA : Hid (ElemsAt fiShape w ao xs) := ha
  have HB : Hid (ElemsAt fiShape w bo xs) := hb
  clear ha hb hm
  go_enter Tryd.func10, Tryd.ntmps10
  go_wp2
  go_loopw [13] (fun i wr => ∃ k q : Nat, k ≤ m ∧ i = .int .i64 k ∧ Hid (wr = w.drewN q)) (fun i _ => m - (intOf i).toNat)
  case atStart => exact ⟨0, 0, by omega, rfl, rfl⟩
  case round =>
    obtain ⟨k, q, hk, rfl, HW⟩ := hrel
    by_cases hlt : k < m
    · obtain ⟨b1, o1, rfl, d0, d1⟩ := fi_get HA.out HW.out (k := k) (by have := HM.out; omega)
      obtain ⟨b2, o2, rfl, f0, f1⟩ := fi_get HB.out HW.out (k := k) (by have := HM.out; omega)
      have HN : ∀ n, Hid (wr.drewN n = w.drewN (q + n)) := fun n => by show _ = _; rw [HW.out, World.drewN_drewN]
      generalize xs.getD k (0, 0) = p at *
      have hk0 : (0 : Int) ≤ (k : Int) := by omega
      have hk1 : (k : Int) < (m : Int) := by omega
      clear HW
      go_wp2_with fail
      go_quiet (fail)
      go_wp2
      go_roundw
      case rel => exact ⟨k + 1, _, by omega, by go_num, HN _⟩
      case measure => simp [intOf]; omega
    · go_wp2
      go_ret
      exact ⟨rfl, q, HW.out⟩
set_option maxRecDepth 100000 in
set_option maxHeartbeats 1000000 in
theorem same_any (ao bo : Option Addr) (ca cb : Nat) (v : Ve) (w : World) (ha : ElemsAt fiShape w ao v.files) (hb : ElemsAt fiShape w bo v.files) (hlen : v.files.length ≤ 1000000000000) :
    Calls Tryd.prog 8 #[veV (.slice ao v.files.length ca) v, veV (.slice bo v.files.length cb) v] w fun e w' => e = .returned (.bool true) ∧ Below w.heap.size w w' := by
  obtain ⟨m, hm⟩ : ∃ m, m = v.files.length := ⟨_, rfl⟩
  obtain ⟨w2, hw2⟩ : ∃ w2, w2 = (w.alloc (veObj (.slice ao m ca) v)).alloc (veObj (.slice bo m cb) v) := ⟨_, rfl⟩
  have hb2 : Below w.heap.size w w2 := by rw [hw2]; exact ((Below.refl _ _).alloc (Nat.le_refl _) _).alloc (by simp) _
  have hx : w2.heap[w.heap.size]? = some (veObj (.slice ao m ca) v) := by rw [hw2]; exact (Below.heap_alloc _ _ _ (by simp)).trans (heap_alloc_new w _)
  have hy : w2.heap[w.heap.size + 1]? = some (veObj (.slice bo m cb) v) := by
    have := heap_alloc_new (w.alloc (veObj (.slice ao m ca) v)) (veObj (.slice bo m cb) v)
    rw [World.size_alloc] at this
    rw [hw2]; exact this
  have HF : Hid _ := sameFiles_any ao bo ca cb v.files w2 (ha.later hb2) (hb.later hb2) hlen
  rw [← hm] at HF ⊢
  have HX : Hid (w2.heap[w.heap.size]? = some (veObj (.slice ao m ca) v)) := hx
  have HY : Hid (w2.heap[w.heap.size + 1]? = some (veObj (.slice bo m cb) v)) := hy
  obtain ⟨x0, x1, x2, x3, _⟩ := ve_cells hx
  obtain ⟨y0, y1, y2, y3, _⟩ := ve_cells hy
  have HB2 : Hid (Below w.heap.size w w2) := hb2
  have hw2' : (w.alloc (.cells #[.slice ao m ca, .int .i64 v.wal, .int .i64 v.next, .int .i64 v.seq] 24)).alloc (.cells #[.slice bo m cb, .int .i64 v.wal, .int .i64 v.next, .int .i64 v.seq] 24) = w2 := hw2.symm
  unfold veV
  clear ha hb hlen hm hb2 hx hy hw2
  go_enter Tryd.func8, Tryd.ntmps8
  go_wp2_with fail
  refine (show Calls _ _ _ _ _ from HF.out).mono ?_
  rintro e w3 ⟨rfl, n, hn⟩
  have hx : w3.heap[w.heap.size]? = some (veObj (.slice ao m ca) v) := by rw [hn]; exact HX.out
  have hy : w3.heap[w.heap.size + 1]? = some (veObj (.slice bo m cb) v) := by rw [hn]; exact HY.out
  have HB3 : Hid (Below w.heap.size w w3) := by show Below _ _ _; rw [hn]; exact ⟨HB2.out.os, HB2.out.tape, HB2.out.output, HB2.out.size, HB2.out.block⟩
  clear x0 x1 x2 x3 y0 y1 y2 y3 hn HF hw2'
  obtain ⟨x0, x1, x2, x3, _⟩ := ve_cells hx
  obtain ⟨y0, y1, y2, y3, _⟩ := ve_cells hy
  clear hx hy
  have e1 : (v.wal == v.wal) = true := by simp
  have e2 : (v.next == v.next) = true := by simp
  have e3 : (v.seq == v.seq) = true := by simp
  go_wp2
  go_ret
  exact ⟨rfl, HB3.out⟩
end Go.Proofs.YtjfanbemihheiaaDoor.Ma
