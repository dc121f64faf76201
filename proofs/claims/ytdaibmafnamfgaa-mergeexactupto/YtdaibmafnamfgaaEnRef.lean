/-
  The document's answers for layer 6 that later layers use too: lists of versions compared, versions compared, does a list rise.
-/
import Derived.Test.YtdaibmafnamfgaaEnHeap
import Derived.Laws.StructEq
namespace Go.Proofs.Ytdaibmafnamfgaa.Mm
open Go.RowKit Cm
set_option linter.unusedVariables false

theorem guardEn : Try.prog.eqGuardType Try.prog.depth 28 = false := by kernel_rfl
theorem neq_self (k : ByteArray) (n : Int) (d : Bool) (v : ByteArray) (w : World) : (binOp .neq 28 (.agg #[.string k, .int .i64 n, .bool d, .string v]) (.agg #[.string k, .int .i64 n, .bool d, .string v])).run Try.prog w = .ok (.bool false) w := by
  have u3 := Try.underlying3
  have a3 := Try.isAgg3
  have z3 := Try.sizeOf3
  have u9 := Try.underlying9
  have a9 := Try.isAgg9
  have z9 := Try.sizeOf9
  have u4 := Try.underlying4
  have a4 := Try.isAgg4
  have z4 := Try.sizeOf4
  have hS : Try.prog.underlying 28 = some (.struct (Try.prog.fieldsOf 28)) := by kernel_rfl
  have hp : Try.prog.stoodInHeld 28 = false := by kernel_rfl
  rw [run_neq_struct, show (10000 : Nat) = 9999 + 1 from rfl, run_equalIn_agg w 9999 28 _ _ hS hp]
  simp only [Program.fieldsOf, Try.underlying28]
  go_simp
theorem eql_self (k : ByteArray) (n : Int) (d : Bool) (v : ByteArray) (w : World) : (binOp .eql 28 (.agg #[.string k, .int .i64 n, .bool d, .string v]) (.agg #[.string k, .int .i64 n, .bool d, .string v])).run Try.prog w = .ok (.bool true) w := by
  have u3 := Try.underlying3
  have a3 := Try.isAgg3
  have z3 := Try.sizeOf3
  have u9 := Try.underlying9
  have a9 := Try.isAgg9
  have z9 := Try.sizeOf9
  have u4 := Try.underlying4
  have a4 := Try.isAgg4
  have z4 := Try.sizeOf4
  have hS : Try.prog.underlying 28 = some (.struct (Try.prog.fieldsOf 28)) := by kernel_rfl
  have hp : Try.prog.stoodInHeld 28 = false := by kernel_rfl
  rw [run_eql_struct, show (10000 : Nat) = 9999 + 1 from rfl, run_equalIn_agg w 9999 28 _ _ hS hp]
  simp only [Program.fieldsOf, Try.underlying28]
  go_simp
set_option maxRecDepth 100000 in
set_option maxHeartbeats 500000 in
theorem same_any (ao bo : Option Addr) (ca cb : Nat) (ps : List En) (w : World) (ha : ElemsAt enShape w ao ps) (hb : ElemsAt enShape w bo ps) (hlen : ps.length ≤ 1000000000000) :
    Calls Try.prog 11 #[.slice ao ps.length ca, .slice bo ps.length cb] w fun e w' => e = .returned (.bool true) ∧ ∃ n, w' = w.drewN n := by
  have hgd := guardEn
  have hns := neq_self
  go_enter Try.func11, Try.ntmps11
  go_wp2
  go_loopw [13] (fun i wr => ∃ k m : Nat, k ≤ ps.length ∧ i = .int .i64 k ∧ Hid (wr = w.drewN m)) (fun i _ => ps.length - (intOf i).toNat)
  case atStart => exact ⟨0, 0, by omega, rfl, rfl⟩
  case round =>
    obtain ⟨k, m, hk, rfl, HW⟩ := hrel
    by_cases hlt : k < ps.length
    · have hwr := HW.out
      subst hwr
      clear HW
      obtain ⟨b1, o1, rfl, d0, d1, d2, d3⟩ := elem_cells ha hlt
      obtain ⟨b2, o2, rfl, f0, f1, f2, f3⟩ := elem_cells hb hlt
      generalize ps.getD k En.zero = p at *
      have hk0 : (0 : Int) ≤ (k : Int) := by omega
      have hk1 : (k : Int) < (ps.length : Int) := by omega
      clear ha hb
      go_wp2_with fail
      go_quiet (fail)
      go_wp2
      go_roundw
      case rel => exact ⟨k + 1, _, by omega, by go_num, hid_rfl⟩
      case measure => simp [intOf]; omega
    · go_wp2
      go_ret
      exact ⟨rfl, m, HW.out⟩
set_option maxRecDepth 100000 in
set_option maxHeartbeats 500000 in
theorem less_any (a b : En) (w : World) : Calls Try.prog 39 #[env a, env b] w fun e w' => e = .returned (.bool (Mm.less a b)) ∧ Below w.heap.size w w' := by
  have hb := beq_toList a.key b.key
  have hB : Below w.heap.size w ((w.alloc (entObj a)).alloc (entObj b)) := ((Below.refl _ _).alloc (Nat.le_refl _) _).alloc (by simp) _
  unfold entObj at hB
  have HB : Hid _ := hB
  clear hB
  unfold env Mm.less En.ahead
  by_cases hk : a.key = b.key
  · rw [if_pos hk]
    rw [decide_eq_true hk] at hb
    have hl := lt_irrefl b.key
    unfold lt at hl
    have hl2 : Op.bytesLess a.key.toList b.key.toList = false := by rw [hk]; exact hl
    clear hk hl
    generalize a.key = K at *
    go_enter Try.func39, Try.ntmps39
    go_wp2
    go_ret
    exact ⟨rfl, HB.out⟩
  · rw [if_neg hk]
    rw [decide_eq_false hk] at hb
    unfold lt
    cases hl : Op.bytesLess a.key.toList b.key.toList
    · clear hk
      generalize a.key = K at *
      go_enter Try.func39, Try.ntmps39
      go_wp2
      go_ret
      exact ⟨rfl, HB.out⟩
    · clear hk
      generalize a.key = K at *
      go_enter Try.func39, Try.ntmps39
      go_wp2
      go_ret
      exact ⟨rfl, HB.out⟩
set_option maxRecDepth 100000 in
set_option maxHeartbeats 500000 in
theorem rising_any (ao : Option Addr) (ca : Nat) (xs : List En) (w : World) (hx : ElemsAt enShape w ao xs) (hs : Sorted xs) (hl : xs.length ≤ 100000000000) :
    Calls Try.prog 18 #[.slice ao xs.length ca] w fun e w' => e = .returned (.bool true) ∧ Below w.heap.size w w' := by
  have HX : Hid (∀ wr, Below w.heap.size w wr → ElemsAt enShape wr ao xs) := fun wr hb => hx.later hb
  have HS : Hid (∀ k, k + 1 < xs.length → Mm.less (xs.getD k En.zero) (xs.getD (k + 1) En.zero) = true) := fun k hk => by
    rw [getD_lt _ _ _ (by omega), getD_lt _ _ _ hk]
    exact (List.pairwise_iff_getElem.1 hs) k (k + 1) (by omega) hk (by omega)
  clear hx hs
  go_enter Try.func18, Try.ntmps18
  go_wp2
  go_loopw [3] (fun i wr => ∃ j : Nat, i = .int .i64 (j : Int) ∧ 1 ≤ j ∧ j ≤ xs.length + 1 ∧ Hid (Below w.heap.size w wr)) (fun i _ => xs.length + 1 - (intOf i).toNat)
  case atStart => exact ⟨1, rfl, by omega, by omega, Below.refl _ _⟩
  case round =>
    obtain ⟨j, rfl, hj1, hj, HB⟩ := hrel
    by_cases hlt : j < xs.length
    · obtain ⟨k, hkj⟩ : ∃ k, k + 1 = j := ⟨j - 1, by omega⟩
      have HKJ : Hid (k + 1 = j) := hkj
      have hw : IntKind.i64.wrap ((j : Int) - 1) = (k : Int) := wrap_nat (by omega) (by omega)
      have hkl : k < xs.length := by omega
      have HS1 := HS.out k (by omega)
      rw [hkj] at HS1
      clear hkj
      obtain ⟨pb, off, rfl, c0, c1, c2, c3⟩ := elem_cells (HX.out wr HB.out) (k := k) hkl
      obtain ⟨pb2, off2, e2, d0, d1, d2, d3⟩ := elem_cells (HX.out wr HB.out) hlt
      cases e2
      have HK : Hid (∀ w', Below w.heap.size w w' → w'.cell? ⟨pb, off + k * 4, none⟩ = some (.string (xs.getD k En.zero).key) ∧ w'.cell? ⟨pb, off + k * 4 + 1, none⟩ = some (.int .i64 (xs.getD k En.zero).seq) ∧ w'.cell? ⟨pb, off + k * 4 + 2, none⟩ = some (.bool (xs.getD k En.zero).dead) ∧ w'.cell? ⟨pb, off + k * 4 + 3, none⟩ = some (.string (xs.getD k En.zero).val) ∧ w'.cell? ⟨pb, off + j * 4, none⟩ = some (.string (xs.getD j En.zero).key) ∧ w'.cell? ⟨pb, off + j * 4 + 1, none⟩ = some (.int .i64 (xs.getD j En.zero).seq) ∧ w'.cell? ⟨pb, off + j * 4 + 2, none⟩ = some (.bool (xs.getD j En.zero).dead) ∧ w'.cell? ⟨pb, off + j * 4 + 3, none⟩ = some (.string (xs.getD j En.zero).val)) := fun w' hb => by
        obtain ⟨p1, o1, e1, a0, a1, a2, a3⟩ := elem_cells (HX.out w' hb) (k := k) hkl
        obtain ⟨p2, o2, e3, b0, b1, b2, b3⟩ := elem_cells (HX.out w' hb) hlt
        cases e1
        cases e3
        exact ⟨a0, a1, a2, a3, b0, b1, b2, b3⟩
      have HL : Hid (∀ wq, _) := fun wq => less_any (xs.getD k En.zero) (xs.getD j En.zero) wq
      rw [HS1] at HL
      unfold env at HL
      generalize xs.getD k En.zero = y at *
      generalize xs.getD j En.zero = z at *
      have hk0 : (0 : Int) ≤ (k : Int) := by omega
      have hk1 : (j : Int) < (xs.length : Int) := by omega
      have hk3 : (0 : Int) ≤ (j : Int) := by omega
      have hk2 : (k : Int) < (xs.length : Int) := by omega
      have hbs := HB.out.size
      have HBd : Hid (∀ wq, Below wr.drew.heap.size wr.drew wq → Below w.heap.size w wq) := fun wq h => HB.out.drew.trans (h.mono hbs)
      clear HX HS HB HS1
      go_wp2_with fail
      go_region_held3 (fun w' => w'.cell? ⟨pb, off + k * 4, none⟩ = some (.string y.key) ∧ w'.cell? ⟨pb, off + k * 4 + 1, none⟩ = some (.int .i64 y.seq) ∧ w'.cell? ⟨pb, off + k * 4 + 2, none⟩ = some (.bool y.dead) ∧ w'.cell? ⟨pb, off + k * 4 + 3, none⟩ = some (.string y.val) ∧ w'.cell? ⟨pb, off + j * 4, none⟩ = some (.string z.key) ∧ w'.cell? ⟨pb, off + j * 4 + 1, none⟩ = some (.int .i64 z.seq) ∧ w'.cell? ⟨pb, off + j * 4 + 2, none⟩ = some (.bool z.dead) ∧ w'.cell? ⟨pb, off + j * 4 + 3, none⟩ = some (.string z.val)) (first | with_reducible exact ⟨c0, c1, c2, c3, d0, d1, d2, d3⟩ | exact ⟨c0, c1, c2, c3, d0, d1, d2, d3⟩ | exact HK.out _ hbq)
        ((go_at_call 39; refine (show Calls _ _ _ _ _ from HL.out _).mono ?_; rintro e w2 ⟨rfl, hb2⟩; have hbq := HBd.out w2 hb2))
      have HB2 : Hid _ := hbq
      clear hb2 hbq HBd HK HL
      go_wp2
      go_roundw
      case rel => exact ⟨j + 1, by go_num, by omega, by omega, HB2⟩
      case measure => simp [intOf]; omega
    · go_wp2
      go_ret
      exact ⟨rfl, HB.out⟩
end Go.Proofs.Ytdaibmafnamfgaa.Mm
