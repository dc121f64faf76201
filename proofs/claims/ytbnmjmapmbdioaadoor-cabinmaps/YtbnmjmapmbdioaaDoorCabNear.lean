/-
  Package cabin: seats side by side.
-/
import Derived.Test.YtbnmjmapmbdioaaDoorCabFind
namespace Go.Proofs.YtbnmjmapmbdioaaDoor.Cb
open Go.RowKit Cm
attribute [local go_sem ↓] Go.wp_at_zero Go.wp_at_succ
set_option linter.unusedVariables false

/-- Side by side, by places. -/
def nearP (sps : List Sp) (i j : Int) : Bool :=
  if i < 0 ∨ j < 0 then false
  else if (sps.getD i.toNat Sp.zero).blk ≠ (sps.getD j.toNat Sp.zero).blk then false
  else decide (i + 1 = j) || decide (j + 1 = i)
theorem nearP_is (sps : List Sp) (a b : Int × Int) : nearL sps a b = nearP sps (plc a sps) (plc b sps) := rfl
set_option maxRecDepth 100000 in
set_option maxHeartbeats 4000000 in
theorem near_any (a b : Int × Int) (ao : Option Addr) (ca : Nat) (rows : List Rw) (w : World) (hx : ElemsAt rwShape w ao rows) (hok : ∀ r ∈ rows, r.ok) (hl : rows.length ≤ 4611686018427387904) :
    Calls Tryd.prog 19 #[sev a, sev b, .slice ao rows.length ca] w fun e w' => e = .returned (.bool (nearL (spots rows) a b)) ∧ Below w.heap.size w w' := by
  obtain ⟨X, hX⟩ : ∃ X, X = (w.alloc (seObj a.1 a.2)).alloc (seObj b.1 b.2) := ⟨_, rfl⟩
  have hbX : Below w.heap.size w X := by rw [hX]; exact ((Below.refl _ _).alloc (Nat.le_refl _) _).alloc (by simp) _
  have HC : Hid _ := spots_any ao ca rows X (hx.later hbX) hok hl
  have g0 : X.heap[w.heap.size]? = some (seObj a.1 a.2) := by rw [hX, Below.heap_alloc _ _ _ (by simp)]; exact heap_alloc_new w _
  have g1 : X.heap[w.heap.size + 1]? = some (seObj b.1 b.2) := by
    rw [hX]
    have := heap_alloc_new (w.alloc (seObj a.1 a.2)) (seObj b.1 b.2)
    rw [World.size_alloc] at this
    exact this
  have hle := spots_le rows
  rw [nearP_is]
  generalize spots rows = sps at *
  generalize rows.length = rl at *
  clear hx hok hl
  have HBX : Hid _ := hbX
  obtain ⟨a1, a2⟩ := a
  obtain ⟨b1, b2⟩ := b
  unfold sev seObj at *
  simp only at *
  have HX : Hid _ := hX
  clear hX hbX
  have hga := plc_ge (a1, a2) sps
  have hgb := plc_ge (b1, b2) sps
  have hla := plc_lt (a1, a2) sps
  have hlb := plc_lt (b1, b2) sps
  obtain ⟨i, hI⟩ : ∃ i, plc (a1, a2) sps = i := ⟨_, rfl⟩
  obtain ⟨j, hJ⟩ : ∃ j, plc (b1, b2) sps = j := ⟨_, rfl⟩
  rw [hI] at hga hla ⊢
  rw [hJ] at hgb hlb ⊢
  have HI : Hid _ := hI
  have HJ : Hid _ := hJ
  clear hI hJ
  go_enter Tryd.func19, Tryd.ntmps19
  go_wp2_with fail
  rw [← HX.out]
  clear HX
  refine (show Calls _ _ _ _ _ from HC.out).mono ?_
  rintro e w1 ⟨vS, rfl, hS, hb1⟩
  obtain ⟨aS, cS, rfl, hcS, hxS⟩ := hS.slice
  have hs1 := hb1.size
  have HBox : Hid (∀ Y, Below w1.heap.size w1 Y → Y.cell? ⟨w.heap.size, 0, none⟩ = some (.int .i64 a1) ∧ Y.cell? ⟨w.heap.size, 1, none⟩ = some (.int .u8 a2) ∧ Y.cell? ⟨w.heap.size + 1, 0, none⟩ = some (.int .i64 b1) ∧ Y.cell? ⟨w.heap.size + 1, 1, none⟩ = some (.int .u8 b2)) := fun Y hY => by
    have k0 : Y.heap[w.heap.size]? = some (seObj a1 a2) := (hY.block _ (by have := lt_of_block g0; omega)).trans ((hb1.block _ (lt_of_block g0)).trans g0)
    have k1 : Y.heap[w.heap.size + 1]? = some (seObj b1 b2) := (hY.block _ (by have := lt_of_block g1; omega)).trans ((hb1.block _ (lt_of_block g1)).trans g1)
    obtain ⟨p, q⟩ := seo_cells k0
    obtain ⟨r, s⟩ := seo_cells k1
    exact ⟨p, q, r, s⟩
  obtain ⟨c0, c1, c2, c3⟩ := HBox.out w1 (Below.refl _ _)
  have HPA : Hid (∀ Y, Below w1.heap.size w1 Y → Calls Tryd.prog 30 #[.agg #[.int .i64 a1, .int .u8 a2], .slice aS sps.length cS] Y fun e w' => e = .returned (.int .i64 i) ∧ Below Y.heap.size Y w') := fun Y hY => by rw [← HI.out]; exact place_any (a1, a2) aS cS sps Y (hxS.later hY) (by omega)
  have HPB : Hid (∀ Y, Below w1.heap.size w1 Y → Calls Tryd.prog 30 #[.agg #[.int .i64 b1, .int .u8 b2], .slice aS sps.length cS] Y fun e w' => e = .returned (.int .i64 j) ∧ Below Y.heap.size Y w') := fun Y hY => by rw [← HJ.out]; exact place_any (b1, b2) aS cS sps Y (hxS.later hY) (by omega)
  have HXS : Hid (∀ Y, Below w1.heap.size w1 Y → ElemsAt spShape Y aS sps) := fun Y hY => hxS.later hY
  have HB1 : Hid (Below w.heap.size w w1) := HBX.out.trans (hb1.mono HBX.out.size)
  have HD : Hid (Below w1.heap.size w1 w1.drew) := (Below.refl _ _).drew
  have HT : Hid (∀ Y Z, Below w1.heap.size w1 Y → Below Y.heap.size Y Z → Below w1.heap.size w1 Z) := fun Y Z h1 h2 => h1.trans (h2.mono h1.size)
  clear hS hxS hb1 HC g0 g1 hs1 HBX
  go_wp2_with fail
  go_region_held3 (fun w' => w'.cell? ⟨w.heap.size, 0, none⟩ = some (.int .i64 a1) ∧ w'.cell? ⟨w.heap.size, 1, none⟩ = some (.int .u8 a2) ∧ w'.cell? ⟨w.heap.size + 1, 0, none⟩ = some (.int .i64 b1) ∧ w'.cell? ⟨w.heap.size + 1, 1, none⟩ = some (.int .u8 b2)) (first | go_keep | trivial)
    ((first
      | (go_at_call 30; refine (show Calls _ _ _ _ _ from HPA.out w1.drew HD.out).mono ?_; rintro e w5 ⟨rfl, hb5⟩; obtain ⟨d0, d1, d2, d3⟩ := HBox.out w5 (HT.out _ _ HD.out hb5))
      | (go_at_call 30; refine (show Calls _ _ _ _ _ from HPB.out w1.drew HD.out).mono ?_; rintro e w6 ⟨rfl, hb6⟩; obtain ⟨d0, d1, d2, d3⟩ := HBox.out w6 (HT.out _ _ HD.out hb6))
      | (go_at_call 30; refine (show Calls _ _ _ _ _ from HPB.out w5 (HT.out _ _ HD.out hb5)).mono ?_; rintro e wz ⟨rfl, hbz⟩; have hbw := HT.out _ _ (HT.out _ _ HD.out hb5) hbz; obtain ⟨f0, f1, f2, f3⟩ := HBox.out wz hbw)
      | (go_at_call 30; refine (show Calls _ _ _ _ _ from HPA.out w6 (HT.out _ _ HD.out hb6)).mono ?_; rintro e wz ⟨rfl, hbz⟩; have hbw := HT.out _ _ (HT.out _ _ HD.out hb6) hbz; obtain ⟨f0, f1, f2, f3⟩ := HBox.out wz hbw)
      | fail))
  all_goals
    have HBZ : Hid (Below w.heap.size w wz) := HB1.out.trans (hbw.mono HB1.out.size)
    have hxz := HXS.out wz hbw
    clear hbz hbw d0 d1 d2 d3 f0 f1 f2 f3 c0 c1 c2 c3 HXS HB1 HPA HPB HBox HD HT
    have HF : Hid (nearP sps i j = if i < 0 ∨ j < 0 then false else if (sps.getD i.toNat Sp.zero).blk ≠ (sps.getD j.toNat Sp.zero).blk then false else decide (i + 1 = j) || decide (j + 1 = i)) := rfl
    by_cases hi : i < 0
    · have hi' : decide (i < 0) = true := decide_eq_true hi
      rw [if_pos (.inl hi)] at HF
      clear hxz
      go_wp2_with fail
      go_quiet (fail)
      go_wp2
      go_ret
      exact ⟨by first | rfl | (rw [HF.out]; rfl), ⟨HBZ.out.os, HBZ.out.tape, HBZ.out.output, HBZ.out.size, HBZ.out.block⟩⟩
    have hi' : decide (i < 0) = false := decide_eq_false hi
    by_cases hj : j < 0
    · have hj' : decide (j < 0) = true := decide_eq_true hj
      rw [if_pos (.inr hj)] at HF
      clear hxz
      go_wp2_with fail
      go_quiet (fail)
      go_wp2
      go_ret
      exact ⟨by first | rfl | (rw [HF.out]; rfl), ⟨HBZ.out.os, HBZ.out.tape, HBZ.out.output, HBZ.out.size, HBZ.out.block⟩⟩
    have hj' : decide (j < 0) = false := decide_eq_false hj
    rw [if_neg (by omega)] at HF
    obtain ⟨m, rfl⟩ : ∃ m : Nat, i = (m : Int) := ⟨i.toNat, by omega⟩
    obtain ⟨n, rfl⟩ : ∃ n : Nat, j = (n : Int) := ⟨j.toNat, by omega⟩
    obtain ⟨pb, off, rfl, hpb, k0, k1, k2, k3, k4, k5, k6⟩ := spot_cells hxz (show m < sps.length by omega)
    obtain ⟨pb2, off2, e2, _, _, _, _, _, l4, _, _⟩ := spot_cells hxz (show n < sps.length by omega)
    cases e2
    simp only [Int.toNat_natCast] at HF
    obtain ⟨u, hu⟩ : ∃ u, (sps.getD m Sp.zero).blk = u := ⟨_, rfl⟩
    obtain ⟨v, hv⟩ : ∃ v, (sps.getD n Sp.zero).blk = v := ⟨_, rfl⟩
    simp only [hu, hv] at HF
    rw [hu] at k4
    rw [hv] at l4
    clear hu hv
    have hm0 : (0 : Int) ≤ (m : Int) := by omega
    have hn0 : (0 : Int) ≤ (n : Int) := by omega
    clear hxz k0 k1 k2 k3 k5 k6 hi hj
    by_cases huv : u = v
    · have huv' : (u != v) = false := by simp [huv]
      rw [if_neg (fun h => h huv)] at HF
      clear huv
      by_cases h1 : (m : Int) + 1 = n
      · have h1' : ((m : Int) + 1 == (n : Int)) = true := by simpa using h1
        rw [decide_eq_true h1, Bool.true_or] at HF
        clear h1
        go_wp2_with fail
        go_quiet (fail)
        go_wp2
        go_ret
        exact ⟨by first | rfl | (rw [HF.out]; rfl), ⟨HBZ.out.os, HBZ.out.tape, HBZ.out.output, HBZ.out.size, HBZ.out.block⟩⟩
      · have h1' : ((m : Int) + 1 == (n : Int)) = false := by simpa using h1
        rw [decide_eq_false h1, Bool.false_or] at HF
        clear h1
        go_wp2_with fail
        go_quiet (fail)
        go_wp2
        go_ret
        exact ⟨by first | rfl | (rw [HF.out]; rfl), ⟨HBZ.out.os, HBZ.out.tape, HBZ.out.output, HBZ.out.size, HBZ.out.block⟩⟩
    · have huv' : (u != v) = true := by simp [huv]
      rw [if_pos huv] at HF
      clear huv
      go_wp2_with fail
      go_quiet (fail)
      go_wp2
      go_ret
      exact ⟨by first | rfl | (rw [HF.out]; rfl), ⟨HBZ.out.os, HBZ.out.tape, HBZ.out.output, HBZ.out.size, HBZ.out.block⟩⟩
end Go.Proofs.YtbnmjmapmbdioaaDoor.Cb
