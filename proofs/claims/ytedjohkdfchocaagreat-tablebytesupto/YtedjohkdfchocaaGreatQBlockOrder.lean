/-
  The texts BlockOrder.
-/
import Derived.Test.YtedjohkdfchocaaGreatPart1
import Derived.Test.YtedjohkdfchocaaGreatQEnRef

/-
  Package block and the document's answer: is a version sound, do two stand in order, are all of a list right.
-/
namespace Go.Proofs.YtedjohkdfchocaaGreat.Bk
open Go.RowKit Cm Mm
set_option linter.unusedVariables false

theorem empty_iff (s : ByteArray) : s.toList.isEmpty = decide (s.size = 0) := by
  rw [bs_toList, ← bs_len]
  cases bs s <;> simp
theorem empty_beq (s : ByteArray) : (s.toList == (⟨#[]⟩ : ByteArray).toList) = decide (s.size = 0) := by
  rw [bs_toList, bs_toList, ← bs_len]
  cases bs s <;> simp [bs]
set_option maxRecDepth 100000 in
theorem sound_any (e : En) (w : World) : Calls Tryz.prog 68 #[env e] w fun r w' => r = .returned (.bool (sound e)) ∧ w' = w.alloc (entObj e) := by
  unfold env sound entObj
  have h1 := empty_iff e.val
  have h2 := empty_beq e.val
  cases hd : e.dead
  · go_enter Tryz.func68, Tryz.ntmps68
    go_wp2
    go_ret
    exact ⟨rfl, by rw [← hd]⟩
  · by_cases hv : e.val.size = 0
    · rw [decide_eq_true hv] at h1 h2 ⊢
      clear hv
      go_enter Tryz.func68, Tryz.ntmps68
      go_wp2
      go_ret
      exact ⟨rfl, by rw [← hd]⟩
    · rw [decide_eq_false hv] at h1 h2 ⊢
      clear hv
      go_enter Tryz.func68, Tryz.ntmps68
      go_wp2
      go_ret
      exact ⟨rfl, by rw [← hd]⟩
set_option maxRecDepth 100000 in
theorem rises_any (a b : En) (w : World) : Calls Tryz.prog 69 #[env a, env b] w fun r w' => r = .returned (.bool (less a b)) ∧ Below w.heap.size w w' := by
  have hb := beq_toList a.key b.key
  have hB : Below w.heap.size w ((w.alloc (entObj a)).alloc (entObj b)) := ((Below.refl _ _).alloc (Nat.le_refl _) _).alloc (by simp) _
  unfold entObj at hB
  have HB : Hid _ := hB
  clear hB
  unfold env Mm.less En.ahead
  by_cases hk : a.key = b.key
  · rw [if_pos hk]
    rw [decide_eq_true hk] at hb
    clear hk
    generalize a.key = K at *
    go_enter Tryz.func69, Tryz.ntmps69
    go_wp2
    go_ret
    exact ⟨rfl, HB.out⟩
  · rw [if_neg hk]
    rw [decide_eq_false hk] at hb
    unfold lt
    clear hk
    generalize a.key = K at *
    go_enter Tryz.func69, Tryz.ntmps69
    go_wp2
    go_ret
    exact ⟨rfl, HB.out⟩
set_option maxRecDepth 100000 in
set_option maxHeartbeats 500000 in
theorem risingR_any (ao : Option Addr) (ca : Nat) (xs : List En) (w : World) (hx : ElemsAt enShape w ao xs) (hl : xs.length ≤ 100000000000) :
    Calls Tryz.prog 49 #[.slice ao xs.length ca] w fun e w' => e = .returned (.bool (rises xs)) ∧ Below w.heap.size w w' := by
  have HX : Hid (∀ wr, Below w.heap.size w wr → ElemsAt enShape wr ao xs) := fun wr hb => hx.later hb
  clear hx
  go_enter Tryz.func49, Tryz.ntmps49
  go_wp2
  go_loopw [3] (fun i wr => ∃ j : Nat, i = .int .i64 (j : Int) ∧ 1 ≤ j ∧ j ≤ xs.length + 1 ∧ Hid (∀ k, k + 1 < xs.length → k + 1 < j → Mm.less (xs.getD k En.zero) (xs.getD (k + 1) En.zero) = true) ∧ Hid (Below w.heap.size w wr)) (fun i _ => xs.length + 1 - (intOf i).toNat)
  case atStart => exact ⟨1, rfl, by omega, by omega, (fun k _ hk => by omega), Below.refl _ _⟩
  case round =>
    obtain ⟨j, rfl, hj1, hj, HS, HB⟩ := hrel
    by_cases hlt : j < xs.length
    · obtain ⟨k, hkj⟩ : ∃ k, k + 1 = j := ⟨j - 1, by omega⟩
      have HKJ : Hid (k + 1 = j) := hkj
      have hw : IntKind.i64.wrap ((j : Int) - 1) = (k : Int) := wrap_nat (by omega) (by omega)
      have hkl : k < xs.length := by omega
      have HY : Hid (Mm.less (xs.getD k En.zero) (xs.getD j En.zero) = true → ∀ k, k + 1 < xs.length → k + 1 < j + 1 → Mm.less (xs.getD k En.zero) (xs.getD (k + 1) En.zero) = true) := fun h i hi hij => by
        rcases Nat.lt_or_ge (i + 1) j with q | q
        · exact HS.out i hi q
        · obtain rfl : i = k := by omega
          rw [hkj]; exact h
      have HN : Hid (Mm.less (xs.getD k En.zero) (xs.getD j En.zero) = false → rises xs = false) := fun h => by
        cases hr : rises xs
        · rfl
        · have := (rises_iff xs).1 hr k (by omega)
          rw [hkj, h] at this; cases this
      clear hkj HS
      obtain ⟨pb, off, rfl, c0, c1, c2, c3⟩ := elem_cells (HX.out wr HB.out) (k := k) hkl
      obtain ⟨pb2, off2, e2, d0, d1, d2, d3⟩ := elem_cells (HX.out wr HB.out) hlt
      cases e2
      have HK : Hid (∀ w', Below w.heap.size w w' → w'.cell? ⟨pb, off + k * 4, none⟩ = some (.string (xs.getD k En.zero).key) ∧ w'.cell? ⟨pb, off + k * 4 + 1, none⟩ = some (.int .i64 (xs.getD k En.zero).seq) ∧ w'.cell? ⟨pb, off + k * 4 + 2, none⟩ = some (.bool (xs.getD k En.zero).dead) ∧ w'.cell? ⟨pb, off + k * 4 + 3, none⟩ = some (.string (xs.getD k En.zero).val) ∧ w'.cell? ⟨pb, off + j * 4, none⟩ = some (.string (xs.getD j En.zero).key) ∧ w'.cell? ⟨pb, off + j * 4 + 1, none⟩ = some (.int .i64 (xs.getD j En.zero).seq) ∧ w'.cell? ⟨pb, off + j * 4 + 2, none⟩ = some (.bool (xs.getD j En.zero).dead) ∧ w'.cell? ⟨pb, off + j * 4 + 3, none⟩ = some (.string (xs.getD j En.zero).val)) := fun w' hb => by
        obtain ⟨p1, o1, e1, a0, a1, a2, a3⟩ := elem_cells (HX.out w' hb) (k := k) hkl
        obtain ⟨p2, o2, e3, b0, b1, b2, b3⟩ := elem_cells (HX.out w' hb) hlt
        cases e1
        cases e3
        exact ⟨a0, a1, a2, a3, b0, b1, b2, b3⟩
      have HL : Hid (∀ wq, _) := fun wq => less_any (xs.getD k En.zero) (xs.getD j En.zero) wq
      unfold env at HL
      generalize xs.getD k En.zero = y at *
      generalize xs.getD j En.zero = z at *
      generalize Mm.less y z = L at *
      have hk0 : (0 : Int) ≤ (k : Int) := by omega
      have hk1 : (j : Int) < (xs.length : Int) := by omega
      have hk3 : (0 : Int) ≤ (j : Int) := by omega
      have hk2 : (k : Int) < (xs.length : Int) := by omega
      have hbs := HB.out.size
      have HBd : Hid (∀ wq, Below wr.drew.heap.size wr.drew wq → Below w.heap.size w wq) := fun wq h => HB.out.drew.trans (h.mono hbs)
      clear HX HB
      go_wp2_with fail
      go_region_held3 (fun w' => w'.cell? ⟨pb, off + k * 4, none⟩ = some (.string y.key) ∧ w'.cell? ⟨pb, off + k * 4 + 1, none⟩ = some (.int .i64 y.seq) ∧ w'.cell? ⟨pb, off + k * 4 + 2, none⟩ = some (.bool y.dead) ∧ w'.cell? ⟨pb, off + k * 4 + 3, none⟩ = some (.string y.val) ∧ w'.cell? ⟨pb, off + j * 4, none⟩ = some (.string z.key) ∧ w'.cell? ⟨pb, off + j * 4 + 1, none⟩ = some (.int .i64 z.seq) ∧ w'.cell? ⟨pb, off + j * 4 + 2, none⟩ = some (.bool z.dead) ∧ w'.cell? ⟨pb, off + j * 4 + 3, none⟩ = some (.string z.val)) (first | with_reducible exact ⟨c0, c1, c2, c3, d0, d1, d2, d3⟩ | exact ⟨c0, c1, c2, c3, d0, d1, d2, d3⟩ | exact HK.out _ hbq)
        ((go_at_call 75; refine (show Calls _ _ _ _ _ from HL.out _).mono ?_; rintro e w2 ⟨rfl, hb2⟩; have hbq := HBd.out w2 hb2))
      have HB2 : Hid _ := hbq
      clear hb2 hbq HBd HK HL
      cases L
      · have HR : Hid _ := HN.out rfl
        clear HN HY
        go_wp2
        go_ret
        exact ⟨by rw [HR.out]; rfl, HB2.out⟩
      · have HY1 : Hid _ := HY.out rfl
        clear HN HY
        go_wp2
        go_roundw
        case rel => exact ⟨j + 1, by go_num, by omega, by omega, HY1, HB2⟩
        case measure => simp [intOf]; omega
    · have HR : Hid (rises xs = true) := (rises_iff xs).2 fun k hk => HS.out k hk (by omega)
      clear HS HX
      go_wp2
      go_ret
      exact ⟨by rw [HR.out]; rfl, HB.out⟩
set_option maxRecDepth 100000 in
set_option maxHeartbeats 500000 in
theorem rightR_any (ao : Option Addr) (ca : Nat) (xs : List En) (w : World) (hx : ElemsAt enShape w ao xs) (hl : xs.length ≤ 100000000000) :
    Calls Tryz.prog 20 #[.slice ao xs.length ca] w fun e w' => e = .returned (.bool (right xs)) ∧ Below w.heap.size w w' := by
  have HX : Hid (∀ wr, Below w.heap.size w wr → ElemsAt enShape wr ao xs) := fun wr hb => hx.later hb
  clear hx
  go_enter Tryz.func20, Tryz.ntmps20
  go_wp2
  go_loopw [7] (fun i wr => ∃ k : Nat, k ≤ xs.length ∧ i = .int .i64 k ∧ Hid (∀ j, j < k → sound (xs.getD j En.zero) = true) ∧ Hid (Below w.heap.size w wr)) (fun i _ => xs.length - (intOf i).toNat)
  case atStart => exact ⟨0, by omega, rfl, (fun j hj => by omega), Below.refl _ _⟩
  case round =>
    obtain ⟨k, hk, rfl, HS, HB⟩ := hrel
    by_cases hlt : k < xs.length
    · obtain ⟨pb, off, rfl, c0, c1, c2, c3⟩ := elem_cells (HX.out wr HB.out) hlt
      have HY : Hid (sound (xs.getD k En.zero) = true → ∀ j, j < k + 1 → sound (xs.getD j En.zero) = true) := fun h i hi => by
        rcases Nat.lt_or_ge i k with q | q
        · exact HS.out i q
        · obtain rfl : i = k := by omega
          exact h
      have HN : Hid (sound (xs.getD k En.zero) = false → right xs = false) := fun h => not_right hlt (by rw [h]; simp)
      have HBn : Hid (∀ o, Below w.heap.size w (wr.alloc o)) := fun o => HB.out.alloc HB.out.size o
      have h1 := empty_iff (xs.getD k En.zero).val
      have h2 := empty_beq (xs.getD k En.zero).val
      generalize xs.getD k En.zero = y at *
      have hk0 : (0 : Int) ≤ (k : Int) := by omega
      have hk1 : (k : Int) < (xs.length : Int) := by omega
      clear HS HB HX
      cases hd : y.dead
      · have HY1 : Hid _ := HY.out (by unfold sound; rw [hd]; rfl)
        clear HY HN
        rw [hd] at c2
        go_wp2
        go_roundw
        case rel => exact ⟨k + 1, by omega, by go_num, HY1, HBn.out _⟩
        case measure => simp [intOf]; omega
      · rw [hd] at c2
        by_cases hv : y.val.size = 0
        · have HY1 : Hid _ := HY.out (by unfold sound; rw [hd]; simp [hv])
          rw [decide_eq_true hv] at h1 h2
          clear HY HN hv
          go_wp2
          go_roundw
          case rel => exact ⟨k + 1, by omega, by go_num, HY1, HBn.out _⟩
          case measure => simp [intOf]; omega
        · have HR : Hid _ := HN.out (by unfold sound; rw [hd]; simp [hv])
          rw [decide_eq_false hv] at h1 h2
          clear HY HN hv
          go_wp2
          go_ret
          exact ⟨by rw [HR.out]; rfl, HBn.out _⟩
    · have HR : Hid (right xs = rises xs) := by
        have : xs.all sound = true := (all_iff xs).2 fun j hj => HS.out j (by omega)
        show _ = _
        unfold right; rw [this]; rfl
      have hq := risingR_any ao ca xs wr (HX.out wr HB.out) hl
      clear HS HX
      go_wp2_with fail
      refine hq.mono ?_
      rintro e w2 ⟨rfl, hb2⟩
      have HB2 : Hid (Below w.heap.size w w2) := HB.out.trans (hb2.mono HB.out.size)
      clear hb2 HB hq
      go_wp2
      go_ret
      exact ⟨by rw [HR.out]; rfl, HB2.out⟩
end Go.Proofs.YtedjohkdfchocaaGreat.Bk
