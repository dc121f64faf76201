/-
  The texts TableSearch.
-/
import Derived.Test.YtedjohkdfchocaaGreatQTableCompare
import Derived.Deep.RegionHeld3
import Derived.BigQuiet

/-
  Package table: where a version of this key and number would stand ('place', by halving).
-/
namespace Go.Proofs.YtedjohkdfchocaaGreat.Tb
open Go.RowKit Cm Mm
set_option linter.unusedVariables false

theorem ahead_at {es : List En} (hs : Sorted es) (K : ByteArray) (s : Int) {m : Nat} (hm : m < es.length) : (es.getD m En.zero).ahead K s = decide (m < (pre es K s).length) := by
  have hp := pre_post es K s
  have hl : (pre es K s).length + (post es K s).length = es.length := by rw [← List.length_append, hp]
  by_cases h : m < (pre es K s).length
  · rw [decide_eq_true h]
    apply pre_ahead (vs := es)
    rw [getD_lt _ _ _ hm]
    have : es[m] = (pre es K s)[m] := by
      have e : (pre es K s ++ post es K s)[m]? = (pre es K s)[m]? := List.getElem?_append_left h
      rw [hp] at e
      rw [List.getElem?_eq_getElem hm, List.getElem?_eq_getElem h] at e
      exact Option.some.inj e
    rw [this]
    exact List.getElem_mem h
  · rw [decide_eq_false h]
    apply post_not (vs := es) hs
    rw [getD_lt _ _ _ hm]
    have h2 : m - (pre es K s).length < (post es K s).length := by omega
    have : es[m] = (post es K s)[m - (pre es K s).length] := by
      have e : (pre es K s ++ post es K s)[m]? = (post es K s)[m - (pre es K s).length]? := List.getElem?_append_right (by omega)
      rw [hp] at e
      rw [List.getElem?_eq_getElem hm, List.getElem?_eq_getElem h2] at e
      exact Option.some.inj e
    rw [this]
    exact List.getElem_mem h2
def PlaceAns (n : Nat) (e : Ending) : Prop := ∃ b, e = .returned (.tuple #[.int .i64 (n : Nat), .bool b])
/-- The box of what is looked for, beside the list. -/
structure Sought (w : World) (t : En) (X : World) : Prop where
  bel : Below w.heap.size w X
  box : X.heap[w.heap.size]? = some (entObj t)
theorem Sought.later {w X Y : World} {t : En} (h : Sought w t X) (hb : Below X.heap.size X Y) : Sought w t Y :=
  ⟨h.bel.trans (hb.mono h.bel.size), (hb.block _ (lt_of_block h.box)).trans h.box⟩
theorem Sought.new (w : World) (t : En) : Sought w t (w.alloc (entObj t)) := ⟨(Below.refl _ _).alloc (Nat.le_refl _) _, heap_alloc_new w _⟩

set_option maxRecDepth 100000 in
set_option maxHeartbeats 1000000 in
theorem search_any (ao : Option Addr) (ca : Nat) (es : List En) (K : ByteArray) (s : Int) (w : World) (hx : ElemsAt enShape w ao es) (hs : Sorted es) (hl : es.length ≤ 100000000000) :
    Calls Tryz.prog 63 #[.slice ao es.length ca, env ⟨K, s, false, ⟨#[]⟩⟩, .func (Fn.func 35) #[] #[]] w fun e w' => PlaceAns (pre es K s).length e ∧ Below w.heap.size w w' := by
  obtain ⟨t, ht⟩ : ∃ t : En, t = ⟨K, s, false, ⟨#[]⟩⟩ := ⟨_, rfl⟩
  obtain ⟨P, hP⟩ : ∃ P, P = (pre es K s).length := ⟨_, rfl⟩
  have HA : Hid (∀ m, m < es.length → decide (cE (es.getD m En.zero) t < 0) = decide (m < P)) := fun m hm => by
    rw [cE_lt, hP, ← ahead_at hs K s hm, ht]; rfl
  have hPl : P ≤ es.length := by
    rw [hP]
    have := congrArg List.length (pre_post es K s)
    rw [List.length_append] at this
    omega
  rw [← ht, ← hP]
  have HX : Hid (∀ wr, Below w.heap.size w wr → ElemsAt enShape wr ao es) := fun wr hb => hx.later hb
  have HN : Hid (Sought w t (w.alloc (entObj t))) := Sought.new w t
  clear hx hs ht hP
  unfold env entObj at *
  go_enter Tryz.func63, Tryz.ntmps63
  go_wp2
  go_loopw [9, 10] (fun i j wr => ∃ a b : Nat, a ≤ P ∧ P ≤ b ∧ b ≤ es.length ∧ i = .int .i64 a ∧ j = .int .i64 b ∧ Hid (Sought w t wr)) (fun i j _ => (intOf j).toNat - (intOf i).toNat)
  case atStart => exact ⟨0, es.length, by omega, by omega, by omega, rfl, rfl, HN⟩
  case round =>
    obtain ⟨a, b, h1, h2, h3, rfl, rfl, HS⟩ := hrel
    obtain ⟨t0, t1, t2, t3, _⟩ := ent_cells HS.out.box
    by_cases hlt : a < b
    · obtain ⟨m, hm⟩ : ∃ m, m = (a + b) / 2 := ⟨_, rfl⟩
      have hml : m < es.length := by omega
      obtain ⟨pb, off, rfl, c0, c1, c2, c3⟩ := elem_cells (HX.out wr HS.out.bel) hml
      have HD := HA.out m hml
      have HQ : Hid (∀ X, Below wr.drew.heap.size wr.drew X → Sought w t X) := fun X hX => HS.out.later ((Below.refl _ wr).drew.trans hX)
      have HE : Hid (∀ X, Below w.heap.size w X → ∃ pb' off', some (⟨pb, off, none⟩ : Addr) = some ⟨pb', off', none⟩ ∧ X.cell? ⟨pb', off' + m * 4, none⟩ = some (.string (es.getD m En.zero).key) ∧ X.cell? ⟨pb', off' + m * 4 + 1, none⟩ = some (.int .i64 (es.getD m En.zero).seq) ∧ X.cell? ⟨pb', off' + m * 4 + 2, none⟩ = some (.bool (es.getD m En.zero).dead) ∧ X.cell? ⟨pb', off' + m * 4 + 3, none⟩ = some (.string (es.getD m En.zero).val)) := fun X hX => elem_cells (HX.out X hX) hml
      have hmi : ((a : Int) + (b : Int)) / 2 = (m : Int) := by omega
      have hk0 : (0 : Int) ≤ (m : Int) := by omega
      have hk1 : (m : Int) < (es.length : Int) := by omega
      have HD' : Hid _ := HD
      have HM : Hid (m = (a + b) / 2) := hm
      have HMI : Hid _ := hmi
      clear HD hm HX HA HN hmi
      generalize es.getD m En.zero = y at *
      go_wp2_with fail
      rw [HMI.out]
      go_region_held3 (fun w' => w'.cell? ⟨w.heap.size, 0, none⟩ = some (.string t.key) ∧ w'.cell? ⟨w.heap.size, 1, none⟩ = some (.int .i64 t.seq) ∧ w'.cell? ⟨w.heap.size, 2, none⟩ = some (.bool t.dead) ∧ w'.cell? ⟨w.heap.size, 3, none⟩ = some (.string t.val) ∧ w'.cell? ⟨pb, off + m * 4, none⟩ = some (.string y.key) ∧ w'.cell? ⟨pb, off + m * 4 + 1, none⟩ = some (.int .i64 y.seq) ∧ w'.cell? ⟨pb, off + m * 4 + 2, none⟩ = some (.bool y.dead) ∧ w'.cell? ⟨pb, off + m * 4 + 3, none⟩ = some (.string y.val)) (first | exact ⟨t0, t1, t2, t3, c0, c1, c2, c3⟩ | exact ⟨m0, m1, m2, m3, d0, d1, d2, d3⟩)
        ((go_at_call 35; refine (cmpE_any y t _).mono ?_; rintro e w6 ⟨rfl, hb6⟩; have hq6 := HQ.out w6 hb6; obtain ⟨m0, m1, m2, m3, _⟩ := ent_cells hq6.box; obtain ⟨_, _, eq6, d0, d1, d2, d3⟩ := HE.out w6 hq6.bel; cases eq6))
      have HQ6 : Hid _ := hq6
      clear hq6 hb6 HQ HE t0 t1 t2 t3 c0 c1 c2 c3 m0 m1 m2 m3 d0 d1 d2 d3 HMI
      have HD2 := HD'.out
      generalize cE y t = c at *
      by_cases hmP : m < P
      · have hc : decide (c < 0) = true := by rw [HD2]; exact decide_eq_true hmP
        have hc' : c < 0 := of_decide_eq_true hc
        clear HD2 HD'
        go_wp2
        go_roundw
        case rel => exact ⟨m + 1, b, by omega, h2, h3, by go_num, rfl, HQ6⟩
        case measure => have := HM.out; simp [intOf]; omega
      · have hc : decide (c < 0) = false := by rw [HD2]; exact decide_eq_false hmP
        have hc' : ¬ c < 0 := of_decide_eq_false hc
        clear HD2 HD'
        go_wp2
        go_roundw
        case rel => exact ⟨a, m, h1, by omega, by omega, rfl, rfl, HQ6⟩
        case measure => have := HM.out; simp [intOf]; omega
    · obtain rfl : a = P := by omega
      obtain rfl : b = a := by omega
      clear HA HN
      by_cases hb : b < es.length
      · obtain ⟨pb, off, rfl, c0, c1, c2, c3⟩ := elem_cells (HX.out wr HS.out.bel) hb
        have HQ : Hid (∀ X, Below wr.drew.heap.size wr.drew X → Sought w t X) := fun X hX => HS.out.later ((Below.refl _ wr).drew.trans hX)
        have HE : Hid (∀ X, Below w.heap.size w X → ∃ pb' off', some (⟨pb, off, none⟩ : Addr) = some ⟨pb', off', none⟩ ∧ X.cell? ⟨pb', off' + b * 4, none⟩ = some (.string (es.getD b En.zero).key) ∧ X.cell? ⟨pb', off' + b * 4 + 1, none⟩ = some (.int .i64 (es.getD b En.zero).seq) ∧ X.cell? ⟨pb', off' + b * 4 + 2, none⟩ = some (.bool (es.getD b En.zero).dead) ∧ X.cell? ⟨pb', off' + b * 4 + 3, none⟩ = some (.string (es.getD b En.zero).val)) := fun X hX => elem_cells (HX.out X hX) hb
        have hk0 : (0 : Int) ≤ (b : Int) := by omega
        have hk1 : (b : Int) < (es.length : Int) := by omega
        have hk2 : decide ((b : Int) < (es.length : Int)) = true := decide_eq_true hk1
        clear HX
        generalize es.getD b En.zero = y at *
        go_wp2_with fail
        go_region_held3 (fun w' => w'.cell? ⟨w.heap.size, 0, none⟩ = some (.string t.key) ∧ w'.cell? ⟨w.heap.size, 1, none⟩ = some (.int .i64 t.seq) ∧ w'.cell? ⟨w.heap.size, 2, none⟩ = some (.bool t.dead) ∧ w'.cell? ⟨w.heap.size, 3, none⟩ = some (.string t.val) ∧ w'.cell? ⟨pb, off + b * 4, none⟩ = some (.string y.key) ∧ w'.cell? ⟨pb, off + b * 4 + 1, none⟩ = some (.int .i64 y.seq) ∧ w'.cell? ⟨pb, off + b * 4 + 2, none⟩ = some (.bool y.dead) ∧ w'.cell? ⟨pb, off + b * 4 + 3, none⟩ = some (.string y.val)) (first | exact ⟨t0, t1, t2, t3, c0, c1, c2, c3⟩ | exact ⟨m0, m1, m2, m3, d0, d1, d2, d3⟩)
          ((go_at_call 35; refine (cmpE_any y t _).mono ?_; rintro e w6 ⟨rfl, hb6⟩; have hq6 := HQ.out w6 hb6; obtain ⟨m0, m1, m2, m3, _⟩ := ent_cells hq6.box; obtain ⟨_, _, eq6, d0, d1, d2, d3⟩ := HE.out w6 hq6.bel; cases eq6))
        go_wp2
        go_ret2
        exact ⟨⟨_, rfl⟩, hq6.bel⟩
      · have hk2 : decide ((b : Int) < (es.length : Int)) = false := decide_eq_false (by omega)
        have HB : Hid (Below w.heap.size w wr) := HS.out.bel
        clear HX HS
        go_wp2_with fail
        go_quiet (fail)
        go_wp2
        go_ret2
        exact ⟨⟨_, rfl⟩, ⟨HB.out.os, HB.out.tape, HB.out.output, HB.out.size, HB.out.block⟩⟩
end Go.Proofs.YtedjohkdfchocaaGreat.Tb
