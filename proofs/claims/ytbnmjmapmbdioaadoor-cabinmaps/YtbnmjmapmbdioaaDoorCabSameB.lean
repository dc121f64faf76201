/-
  Package cabin: the document's comparison of blocks.
-/
import Derived.Test.YtbnmjmapmbdioaaDoorCabSame
namespace Go.Proofs.YtbnmjmapmbdioaaDoor.Cb
open Go.RowKit Cm
attribute [local go_sem ↓] Go.wp_at_zero Go.wp_at_succ
set_option linter.unusedVariables false

/-- The k-th block, to be read. -/
theorem BlksAt.read {w : World} {B k : Nat} {v : Value} {bs : List Bk} (h : BlksAt w B v bs) (hk : k < bs.length) : ∃ g cap ao ca, v = .slice (some ⟨g, 0, Option.none⟩) bs.length cap ∧ bs.length ≤ cap ∧
    w.cell? ⟨g, k * 4, Option.none⟩ = some (.int .i64 (bs.getD k Bk.zero).cab) ∧ w.cell? ⟨g, k * 4 + 1, Option.none⟩ = some (.int .i64 (bs.getD k Bk.zero).row) ∧ w.cell? ⟨g, k * 4 + 2, Option.none⟩ = some (.bool (bs.getD k Bk.zero).exit) ∧ w.cell? ⟨g, k * 4 + 3, Option.none⟩ = some (.slice ao (bs.getD k Bk.zero).seats.length ca) ∧
    (bs.getD k Bk.zero).seats.length ≤ ca ∧ ElemsAt seShape w ao (bs.getD k Bk.zero).seats := by
  obtain ⟨g, cap, x, hV, hgB, hgl, hle, o, hfar, hfz, c0, c1, c2, c3, _⟩ := h.spot hk
  obtain ⟨ao, ca, hx, _, _, hle2, he⟩ := own_rows o.own
  rw [o.cab] at c0
  rw [o.row] at c1
  rw [o.exit] at c2
  rw [hx] at c3
  exact ⟨g, cap, ao, ca, hV, hle, c0, c1, c2, c3, hle2, he⟩
theorem BlksAt.drewN {w : World} {B n : Nat} {v : Value} {bs : List Bk} (h : BlksAt w B v bs) : BlksAt (w.drewN n) B v bs := h.keep fun _ _ _ => rfl
theorem quiet_add {P : Program} {f : FuncId} {args : Array Value} {w : World} {m x : Nat} {v : Value} (h : Calls P f args (w.drewN (m + x)) fun e w' => e = .returned v ∧ ∃ y, w' = (w.drewN (m + x)).drewN y) : Calls P f args (w.drewN (m + x)) fun e w'' => e = .returned v ∧ ∃ n, w'' = w.drewN (m + n) :=
  h.mono fun _ _ ⟨he, y, hm⟩ => ⟨he, x + y, by rw [hm, World.drewN_drewN, Nat.add_assoc]⟩
set_option maxRecDepth 100000 in
set_option maxHeartbeats 4000000 in
theorem sameBlocks_any (va vb : Value) (bs : List Bk) (B B' : Nat) (w : World) (ha : BlksAt w B va bs) (hb : BlksAt w B' vb bs) (hlen : bs.length ≤ 4611686018427387904) (hs : ∀ k, (bs.getD k Bk.zero).seats.length ≤ 4611686018427387904) :
    Calls Tryd.prog 15 #[va, vb] w fun e w' => e = .returned (.bool true) ∧ ∃ n, w' = w.drewN n := by
  have HA : Hid _ := ha
  have HB : Hid _ := hb
  have HS : Hid _ := hs
  obtain ⟨ao, ca, rfl, _⟩ := ha.size_eq
  obtain ⟨bo, cb, rfl, _⟩ := hb.size_eq
  clear ha hb hs
  go_enter Tryd.func15, Tryd.ntmps15
  go_wp2
  go_loopw [13] (fun i wr => ∃ k m : Nat, k ≤ bs.length ∧ i = .int .i64 k ∧ Hid (wr = w.drewN m)) (fun i _ => bs.length - (intOf i).toNat)
  case atStart => exact ⟨0, 0, by omega, rfl, rfl⟩
  case round =>
    obtain ⟨k, m, hk, rfl, HW⟩ := hrel
    by_cases hlt : k < bs.length
    · have hwr := HW.out
      subst hwr
      clear HW
      obtain ⟨g1, p1, s1, q1, e1, l1, c0, c1, c2, c3, r1, t1⟩ := BlksAt.read HA.out hlt
      obtain ⟨g2, p2, s2, q2, e2, l2, d0, d1, d2, d3, r2, t2⟩ := BlksAt.read HB.out hlt
      cases e1
      cases e2
      have hsl := HS.out k
      have HC : Hid (∀ n, Calls Tryd.prog 29 #[.slice s1 (bs.getD k Bk.zero).seats.length q1, .slice s2 (bs.getD k Bk.zero).seats.length q2] (w.drewN n) fun e w' => e = .returned (.bool true) ∧ ∃ x, w' = (w.drewN n).drewN x) := fun n => sameSeats_any s1 s2 q1 q2 _ _ (t1.keep (fun _ _ _ => rfl) (Nat.le_refl _)) (t2.keep (fun _ _ _ => rfl) (Nat.le_refl _)) hsl
      generalize (bs.getD k Bk.zero).seats.length = N at *
      generalize bs.getD k Bk.zero = b at *
      obtain ⟨bc, br, be, bss⟩ := b
      simp only at c0 c1 c2 d0 d1 d2
      have hk0 : (0 : Int) ≤ (k : Int) := by omega
      have hk1 : (k : Int) < (bs.length : Int) := by omega
      have z1 : (bc != bc) = false := by simp
      have z2 : (br != br) = false := by simp
      have z3 : (be != be) = false := by simp
      clear t1 t2 r1 r2 HA HB HS hsl
      go_wp2_with fail
      go_quiet ((go_at_call 29; trace_state; exact quiet_add (HC.out _)))
      go_wp2
      go_roundw
      case rel => exact ⟨k + 1, _, by omega, by go_num, hid_rfl⟩
      case measure => simp [intOf]; omega
    · go_wp2
      go_ret
      exact ⟨rfl, m, HW.out⟩
end Go.Proofs.YtbnmjmapmbdioaaDoor.Cb
