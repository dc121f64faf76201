/-
  Package cabin: seats, spots and rows compared; the document's comparisons of lists.
-/
import Derived.Test.YtbnmjmapmbdioaaDoorCabBlocks
import Derived.Laws.StructEq
namespace Go.Proofs.YtbnmjmapmbdioaaDoor.Cb
open Go.RowKit Cm
attribute [local go_sem ↓] Go.wp_at_zero Go.wp_at_succ
set_option linter.unusedVariables false

theorem guardSe : Tryd.prog.eqGuardType Tryd.prog.depth 38 = false := by kernel_rfl
theorem guardSp : Tryd.prog.eqGuardType Tryd.prog.depth 40 = false := by kernel_rfl
theorem guardRw : Tryd.prog.eqGuardType Tryd.prog.depth 25 = false := by kernel_rfl
theorem eql_seat (a b : Int × Int) (w : World) : (binOp .eql 38 (.agg #[.int .i64 a.1, .int .u8 a.2]) (.agg #[.int .i64 b.1, .int .u8 b.2])).run Tryd.prog w = .ok (.bool (decide (a = b))) w := by
  have u3 := Tryd.underlying3
  have a3 := Tryd.isAgg3
  have z3 := Tryd.sizeOf3
  have u9 := Tryd.underlying5
  have a9 := Tryd.isAgg5
  have z9 := Tryd.sizeOf5
  have hS : Tryd.prog.underlying 38 = some (.struct (Tryd.prog.fieldsOf 38)) := by kernel_rfl
  have hp : Tryd.prog.stoodInHeld 38 = false := by kernel_rfl
  obtain ⟨a1, a2⟩ := a
  obtain ⟨b1, b2⟩ := b
  rw [run_eql_struct, show (10000 : Nat) = 9999 + 1 from rfl, run_equalIn_agg w 9999 38 _ _ hS hp]
  simp only [Program.fieldsOf, Tryd.underlying38]
  by_cases h1 : a1 = b1
  · by_cases h2 : a2 = b2
    · subst h1 h2
      go_simp
    · have h2' : (a2 == b2) = false := by simpa using h2
      subst h1
      go_simp
  · have h1' : (a1 == b1) = false := by simpa using h1
    go_simp
theorem neq_seat (a b : Int × Int) (w : World) : (binOp .neq 38 (.agg #[.int .i64 a.1, .int .u8 a.2]) (.agg #[.int .i64 b.1, .int .u8 b.2])).run Tryd.prog w = .ok (.bool (!decide (a = b))) w := by
  have h := eql_seat a b w
  rw [run_eql_struct] at h
  rw [run_neq_struct]
  cases hr : (Op.equalIn 10000 38 (.agg #[.int .i64 a.1, .int .u8 a.2]) (.agg #[.int .i64 b.1, .int .u8 b.2])).run Tryd.prog w with
  | ok r w' =>
    rw [hr] at h
    simp only [Result.andThen_ok, Result.ok.injEq, Value.bool.injEq] at h ⊢
    rw [h.1]; exact ⟨rfl, h.2⟩
  | _ => rw [hr] at h; simp [Result.andThen] at h
theorem same_seat (a b : Int) (w : World) : (Op.equalIn 9999 38 (.agg #[.int .i64 a, .int .u8 b]) (.agg #[.int .i64 a, .int .u8 b])).run Tryd.prog w = .ok true w := by
  have u3 := Tryd.underlying3
  have a3 := Tryd.isAgg3
  have z3 := Tryd.sizeOf3
  have u9 := Tryd.underlying5
  have a9 := Tryd.isAgg5
  have z9 := Tryd.sizeOf5
  have hS : Tryd.prog.underlying 38 = some (.struct (Tryd.prog.fieldsOf 38)) := by kernel_rfl
  have hp : Tryd.prog.stoodInHeld 38 = false := by kernel_rfl
  rw [show (9999 : Nat) = 9998 + 1 from rfl, run_equalIn_agg w 9998 38 _ _ hS hp]
  simp only [Program.fieldsOf, Tryd.underlying38]
  go_simp
set_option maxRecDepth 100000 in
theorem neq_spot (s : Sp) (w : World) : (binOp .neq 40 (.agg #[.int .i64 s.num, .int .u8 s.ltr, .int .i64 s.cab, .int .i64 s.zone, .int .i64 s.blk, .bool s.exit, .bool s.bld]) (.agg #[.int .i64 s.num, .int .u8 s.ltr, .int .i64 s.cab, .int .i64 s.zone, .int .i64 s.blk, .bool s.exit, .bool s.bld])).run Tryd.prog w = .ok (.bool false) w := by
  have u3 := Tryd.underlying3
  have a3 := Tryd.isAgg3
  have z3 := Tryd.sizeOf3
  have u4 := Tryd.underlying4
  have a4 := Tryd.isAgg4
  have z4 := Tryd.sizeOf4
  have hS : Tryd.prog.underlying 40 = some (.struct (Tryd.prog.fieldsOf 40)) := by kernel_rfl
  have hp : Tryd.prog.stoodInHeld 40 = false := by kernel_rfl
  have ga := Tryd.isAgg38
  have gz := Tryd.sizeOf38
  have gs := same_seat s.num s.ltr
  rw [run_neq_struct, show (10000 : Nat) = 9999 + 1 from rfl, run_equalIn_agg w 9999 40 _ _ hS hp]
  simp only [Program.fieldsOf, Tryd.underlying40]
  go_simp
set_option maxRecDepth 100000 in
theorem eql_spot (s : Sp) (w : World) : (binOp .eql 40 (.agg #[.int .i64 s.num, .int .u8 s.ltr, .int .i64 s.cab, .int .i64 s.zone, .int .i64 s.blk, .bool s.exit, .bool s.bld]) (.agg #[.int .i64 s.num, .int .u8 s.ltr, .int .i64 s.cab, .int .i64 s.zone, .int .i64 s.blk, .bool s.exit, .bool s.bld])).run Tryd.prog w = .ok (.bool true) w := by
  have h := neq_spot s w
  rw [run_neq_struct] at h
  rw [run_eql_struct]
  cases hr : (Op.equalIn 10000 40 (.agg #[.int .i64 s.num, .int .u8 s.ltr, .int .i64 s.cab, .int .i64 s.zone, .int .i64 s.blk, .bool s.exit, .bool s.bld]) (.agg #[.int .i64 s.num, .int .u8 s.ltr, .int .i64 s.cab, .int .i64 s.zone, .int .i64 s.blk, .bool s.exit, .bool s.bld])).run Tryd.prog w with
  | ok r w' =>
    rw [hr] at h
    simp only [Result.andThen_ok, Result.ok.injEq, Value.bool.injEq] at h ⊢
    refine ⟨?_, h.2⟩
    have := h.1
    cases r <;> simp_all
  | _ => rw [hr] at h; simp [Result.andThen] at h
theorem neq_row (r : Rw) (w : World) : (binOp .neq 25 (.agg #[.int .i64 r.num, .int .i64 r.cab, .int .i64 r.zone, .bool r.exit, .string r.seats]) (.agg #[.int .i64 r.num, .int .i64 r.cab, .int .i64 r.zone, .bool r.exit, .string r.seats])).run Tryd.prog w = .ok (.bool false) w := by
  have u3 := Tryd.underlying3
  have a3 := Tryd.isAgg3
  have z3 := Tryd.sizeOf3
  have u9 := Tryd.underlying9
  have a9 := Tryd.isAgg9
  have z9 := Tryd.sizeOf9
  have u4 := Tryd.underlying4
  have a4 := Tryd.isAgg4
  have z4 := Tryd.sizeOf4
  have hS : Tryd.prog.underlying 25 = some (.struct (Tryd.prog.fieldsOf 25)) := by kernel_rfl
  have hp : Tryd.prog.stoodInHeld 25 = false := by kernel_rfl
  rw [run_neq_struct, show (10000 : Nat) = 9999 + 1 from rfl, run_equalIn_agg w 9999 25 _ _ hS hp]
  simp only [Program.fieldsOf, Tryd.underlying25]
  go_simp
/-- The k-th of a slice of seats. -/
theorem seat_cells {w : World} {ao : Option Addr} {xs : List (Int × Int)} (h : ElemsAt seShape w ao xs) {k : Nat} (hk : k < xs.length) : ∃ pb off, ao = some ⟨pb, off, none⟩ ∧ pb < w.heap.size ∧ w.cell? ⟨pb, off + k * 2, none⟩ = some (.int .i64 (xs.getD k (0, 0)).1) ∧ w.cell? ⟨pb, off + k * 2 + 1, none⟩ = some (.int .u8 (xs.getD k (0, 0)).2) := by
  rw [getD_lt _ _ _ hk]
  rcases h with rfl | ⟨pb, off, rfl, hp, hc⟩
  · simp at hk
  · exact ⟨pb, off, rfl, hp, hc k hk 0 _ rfl, hc k hk 1 _ rfl⟩
set_option maxRecDepth 100000 in
set_option maxHeartbeats 1000000 in
theorem sameSpots_any (ao bo : Option Addr) (ca cb : Nat) (ps : List Sp) (w : World) (ha : ElemsAt spShape w ao ps) (hb : ElemsAt spShape w bo ps) (hlen : ps.length ≤ 4611686018427387904) :
    Calls Tryd.prog 14 #[.slice ao ps.length ca, .slice bo ps.length cb] w fun e w' => e = .returned (.bool true) ∧ ∃ n, w' = w.drewN n := by
  have hgd := guardSp
  have hns := neq_spot
  go_enter Tryd.func14, Tryd.ntmps14
  go_wp2
  go_loopw [13] (fun i wr => ∃ k m : Nat, k ≤ ps.length ∧ i = .int .i64 k ∧ Hid (wr = w.drewN m)) (fun i _ => ps.length - (intOf i).toNat)
  case atStart => exact ⟨0, 0, by omega, rfl, rfl⟩
  case round =>
    obtain ⟨k, m, hk, rfl, HW⟩ := hrel
    by_cases hlt : k < ps.length
    · have hwr := HW.out
      subst hwr
      clear HW
      obtain ⟨b1, o1, rfl, _, d0, d1, d2, d3, d4, d5, d6⟩ := spot_cells ha hlt
      obtain ⟨b2, o2, rfl, _, f0, f1, f2, f3, f4, f5, f6⟩ := spot_cells hb hlt
      generalize ps.getD k Sp.zero = p at *
      have hk0 : (0 : Int) ≤ (k : Int) := by omega
      have hk1 : (k : Int) < (ps.length : Int) := by omega
      have hnp := hns p
      clear ha hb hns
      go_wp2_with fail
      go_quiet (fail)
      go_wp2
      go_roundw
      case rel => exact ⟨k + 1, _, by omega, by go_num, hid_rfl⟩
      case measure => simp [intOf]; omega
    · go_wp2
      go_ret
      exact ⟨rfl, m, HW.out⟩
set_option maxRecDepth 100000 in
set_option maxHeartbeats 1000000 in
theorem sameRows_any (ao bo : Option Addr) (ca cb : Nat) (ps : List Rw) (w : World) (ha : ElemsAt rwShape w ao ps) (hb : ElemsAt rwShape w bo ps) (hlen : ps.length ≤ 4611686018427387904) :
    Calls Tryd.prog 16 #[.slice ao ps.length ca, .slice bo ps.length cb] w fun e w' => e = .returned (.bool true) ∧ ∃ n, w' = w.drewN n := by
  have hgd := guardRw
  have hns := neq_row
  go_enter Tryd.func16, Tryd.ntmps16
  go_wp2
  go_loopw [13] (fun i wr => ∃ k m : Nat, k ≤ ps.length ∧ i = .int .i64 k ∧ Hid (wr = w.drewN m)) (fun i _ => ps.length - (intOf i).toNat)
  case atStart => exact ⟨0, 0, by omega, rfl, rfl⟩
  case round =>
    obtain ⟨k, m, hk, rfl, HW⟩ := hrel
    by_cases hlt : k < ps.length
    · have hwr := HW.out
      subst hwr
      clear HW
      obtain ⟨b1, o1, rfl, _, d0, d1, d2, d3, d4⟩ := row_cells ha hlt
      obtain ⟨b2, o2, rfl, _, f0, f1, f2, f3, f4⟩ := row_cells hb hlt
      generalize ps.getD k Rw.zero = p at *
      have hk0 : (0 : Int) ≤ (k : Int) := by omega
      have hk1 : (k : Int) < (ps.length : Int) := by omega
      have hnp := hns p
      clear ha hb hns
      go_wp2_with fail
      go_quiet (fail)
      go_wp2
      go_roundw
      case rel => exact ⟨k + 1, _, by omega, by go_num, hid_rfl⟩
      case measure => simp [intOf]; omega
    · go_wp2
      go_ret
      exact ⟨rfl, m, HW.out⟩
theorem neq_self_seat (p : Int × Int) (w : World) : (binOp .neq 38 (.agg #[.int .i64 p.1, .int .u8 p.2]) (.agg #[.int .i64 p.1, .int .u8 p.2])).run Tryd.prog w = .ok (.bool false) w := by
  rw [neq_seat p p w]; simp
set_option maxRecDepth 100000 in
set_option maxHeartbeats 1000000 in
theorem sameSeats_any (ao bo : Option Addr) (ca cb : Nat) (ps : List (Int × Int)) (w : World) (ha : ElemsAt seShape w ao ps) (hb : ElemsAt seShape w bo ps) (hlen : ps.length ≤ 4611686018427387904) :
    Calls Tryd.prog 29 #[.slice ao ps.length ca, .slice bo ps.length cb] w fun e w' => e = .returned (.bool true) ∧ ∃ n, w' = w.drewN n := by
  have hgd := guardSe
  have hns := neq_self_seat
  go_enter Tryd.func29, Tryd.ntmps29
  go_wp2
  go_loopw [13] (fun i wr => ∃ k m : Nat, k ≤ ps.length ∧ i = .int .i64 k ∧ Hid (wr = w.drewN m)) (fun i _ => ps.length - (intOf i).toNat)
  case atStart => exact ⟨0, 0, by omega, rfl, rfl⟩
  case round =>
    obtain ⟨k, m, hk, rfl, HW⟩ := hrel
    by_cases hlt : k < ps.length
    · have hwr := HW.out
      subst hwr
      clear HW
      obtain ⟨b1, o1, rfl, _, d0, d1⟩ := seat_cells ha hlt
      obtain ⟨b2, o2, rfl, _, f0, f1⟩ := seat_cells hb hlt
      generalize ps.getD k (0, 0) = p at *
      have hk0 : (0 : Int) ≤ (k : Int) := by omega
      have hk1 : (k : Int) < (ps.length : Int) := by omega
      have hnp := hns p
      clear ha hb hns
      go_wp2_with fail
      go_quiet (fail)
      go_wp2
      go_roundw
      case rel => exact ⟨k + 1, _, by omega, by go_num, hid_rfl⟩
      case measure => simp [intOf]; omega
    · go_wp2
      go_ret
      exact ⟨rfl, m, HW.out⟩
end Go.Proofs.YtbnmjmapmbdioaaDoor.Cb
