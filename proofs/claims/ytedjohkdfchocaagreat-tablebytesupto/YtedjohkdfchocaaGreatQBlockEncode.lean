/-
  The texts BlockEncode.
-/
import Derived.Test.YtedjohkdfchocaaGreatQBlockPut
import Derived.Test.YtedjohkdfchocaaGreatQBlockOrder

/-
  Package block: what Encode answers, for every list.
-/
namespace Go.Proofs.YtedjohkdfchocaaGreat.Bk
open Go.RowKit Cm Mm
open Pk (WrAt RdAt Step enc enc_len fold text)
set_option linter.unusedVariables false

/-- What is answered: the block, or that the versions aren't right. -/
def encV (es : List En) : Value := if right es then .tuple #[.string ⟨(block es).toArray⟩, .int .i64 0] else .tuple #[.string ⟨#[]⟩, .int .i64 9]
/-- The list is of a size that the calls here are asked for. -/
structure Sized (es : List En) : Prop where
  few : es.length ≤ 100000000000
  all : (block es).length ≤ 100000000000000
  each : ∀ k, (es.getD k En.zero).key.size ≤ 1000000000000 ∧ (es.getD k En.zero).val.size ≤ 1000000000000
theorem lastK (es : List En) (k : Nat) (h : k < es.length) : (⟨(lastKey [] (es.take (k + 1))).toArray⟩ : ByteArray) = (es.getD k En.zero).key := by
  apply bs_inj
  rw [bs_mk, take_at h, lastKey_snoc]
theorem bodyK (es : List En) (k : Nat) (h : k < es.length) : body [] (es.take (k + 1)) = body [] (es.take k) ++ piece (lastKey [] (es.take k)) (es.getD k En.zero) := by
  rw [take_at h, body_snoc]
theorem body_take (es : List En) (k : Nat) : (body [] (es.take k)).length ≤ (body [] es).length := by
  have : body [] es = body [] (es.take k) ++ body (lastKey [] (es.take k)) (es.drop k) := by rw [← body_append, List.take_append_drop]
  rw [this, List.length_append]; omega
theorem last_len {es : List En} (h : Sized es) (k : Nat) : (⟨(lastKey [] (es.take k)).toArray⟩ : ByteArray).size ≤ 1000000000000 := by
  cases k with
  | zero => show 0 ≤ _; omega
  | succ k =>
    by_cases hk : k < es.length
    · rw [lastK es k hk]; exact (h.each k).1
    · rcases Nat.eq_zero_or_pos es.length with h0 | h0
      · have : es = [] := List.eq_nil_of_length_eq_zero h0
        subst this; show 0 ≤ _; omega
      · rw [List.take_of_length_le (by omega), lastKey_last h0]
        rw [← bs_len, bs_mk, bs_len]; exact (h.each _).1
theorem WS.later {w X Y : World} {base q b : Nat} {L : ByteArray} {r : Option Nat} {bytes : List UInt8} (h : WS w base q b L r bytes X) (hb : Below X.heap.size X Y) (hB : base ≤ X.heap.size) : WS w base q b L r bytes Y :=
  ⟨(hb.block _ (lt_of_block h.hq)).trans h.hq, h.wr.keep (hb.block _ h.wr.lt) (fun k hk => hb.block _ (h.wr.row_ge k hk).2.1), h.bel.trans (hb.mono hB)⟩
theorem WS.again {w v X : World} {base q b : Nat} {L : ByteArray} {r : Option Nat} {bytes : List UInt8} (h : WS v base q b L r bytes X) (hb : Below base w v) : WS w base q b L r bytes X := ⟨h.hq, h.wr, hb.trans h.bel⟩

set_option maxRecDepth 100000 in
set_option maxHeartbeats 2000000 in
theorem encode_any (ao : Option Addr) (ca : Nat) (es : List En) (w : World) (hx : ElemsAt enShape w ao es) (hok : AllOk es) (hs : Sized es) :
    Calls Tryz.prog 36 #[.slice ao es.length ca] w fun e w' => e = .returned (encV es) ∧ Below w.heap.size w w' := by
  have HX : Hid (∀ wr, Below w.heap.size w wr → ElemsAt enShape wr ao es) := fun wr hb => hx.later hb
  have HOK : Hid (∀ k, k < es.length → (es.getD k En.zero).ok) := fun k hk => by rw [getD_lt _ _ _ hk]; exact hok _ (List.getElem_mem hk)
  have HSZ : Hid (Sized es) := hs
  have hfew := hs.few
  clear hx hok hs
  go_enter Tryz.func36, Tryz.ntmps36
  go_wp2_with fail
  refine (Pk.new_any _ 0 (Nat.zero_le _)).mono ?_
  rintro e w1 ⟨rfl, rfl⟩
  obtain ⟨w2, hw2⟩ : ∃ w2, w2 = (w.alloc (.cells #[.slice none 0 0] 125)).alloc (.cells #[.pointer (some ⟨w.heap.size, 0, none⟩), .string ⟨#[]⟩] 118) := ⟨_, rfl⟩
  have HW2 : Hid (WS w w.heap.size (w.heap.size + 1) w.heap.size ⟨#[]⟩ none [] w2) := by
    rw [hw2]
    refine ⟨?_, (Pk.new_wr w w.heap.size).alloc _, ((Below.refl _ _).alloc (Nat.le_refl _) _).alloc (by simp) _⟩
    have := heap_alloc_new (w.alloc (.cells #[.slice none 0 0] 125)) (bwObj w.heap.size ⟨#[]⟩)
    simpa [bwObj] using this
  have HZ2 : Hid (w2.heap.size = w.heap.size + 2) := by show _ = _; rw [hw2]; simp
  have hP := put_num w2 es.length HW2.out.wr (by omega) (by simp) (by have := HZ2.out; omega)
  rw [HZ2.out] at hP
  have HP : Hid _ := hP
  clear hP
  go_wp2_with fail
  rw [← hw2]
  refine (show Calls _ _ _ _ _ from HP.out).mono ?_
  rintro e w3 ⟨rfl, r3, hw3, hs3⟩
  have hw3' : WS w w.heap.size (w.heap.size + 1) w.heap.size ⟨#[]⟩ r3 (enc es.length) w3 := by
    have f := far HW2.out.wr HW2.out.hq (fun cs e => by simp [bwObj] at e) (fun cs e => by simp [bwObj] at e)
    refine ⟨(hs3.kept.block _ (lt_of_block HW2.out.hq) f.1 f.2).trans HW2.out.hq, by simpa using hw3, HW2.out.bel.trans (hs3.below (by have := HZ2.out; omega) (Nat.le_refl _) (fun k hk => by cases hk))⟩
  have HW3 : Hid _ := hw3'
  clear hw3' hw3 hs3 HP HW2 HZ2 hw2
  go_wp2
  go_loopw [21] (fun i wr => ∃ (k : Nat) (r : Option Nat), k ≤ es.length ∧ i = .int .i64 k ∧ Hid (RightTo es k) ∧ Hid (WS w w.heap.size (w.heap.size + 1) w.heap.size ⟨(lastKey [] (es.take k)).toArray⟩ r (enc es.length ++ body [] (es.take k)) wr)) (fun i _ => es.length - (intOf i).toNat)
  case atStart => exact ⟨0, r3, by omega, rfl, (fun i hi => by omega), by simpa [Hid, body, lastKey] using HW3.out⟩
  case round =>
    obtain ⟨k, r, hk, rfl, HR, HW⟩ := hrel
    by_cases hlt : k < es.length
    · obtain ⟨pb, off, rfl, c0, c1, c2, c3⟩ := elem_cells (HX.out wr HW.out.bel) hlt
      have hbs := HW.out.bel.size
      have HN : Hid (¬ (sound (es.getD k En.zero) = true ∧ (0 < k → less (es.getD (k - 1) En.zero) (es.getD k En.zero) = true)) → encV es = .tuple #[.string ⟨#[]⟩, .int .i64 9]) := fun h => by unfold encV; rw [not_right hlt h]; rfl
      have HY : Hid (sound (es.getD k En.zero) = true → (0 < k → less (es.getD (k - 1) En.zero) (es.getD k En.zero) = true) → RightTo es (k + 1)) := fun h1 h2 => HR.out.next h1 h2
      have HV : Hid (∀ X, Below wr.heap.size wr X → Calls Tryz.prog 70 #[.pointer (some ⟨w.heap.size + 1, 0, none⟩), env (es.getD k En.zero)] X fun x w' => x = .returned (.tuple #[]) ∧ ∃ r', WS w w.heap.size (w.heap.size + 1) w.heap.size ⟨(lastKey [] (es.take (k + 1))).toArray⟩ r' (enc es.length ++ body [] (es.take (k + 1))) w') := fun X hX => by
        have h1 := HW.out.later hX hbs
        have hz := HSZ.out.each k
        have hb1 := body_take es (k + 1)
        have hb2 := HSZ.out.all
        have hb3 := body_take es k
        unfold block at hb2
        rw [List.length_append] at hb2
        refine (version_any w.heap.size (w.heap.size + 1) w.heap.size _ (es.getD k En.zero) r _ X h1.hq h1.wr (HOK.out k hlt) (last_len HSZ.out k) hz.1 hz.2 (by rw [List.length_append]; omega) h1.bel.size (by omega) (Nat.le_refl _)).mono ?_
        rintro x w' ⟨rfl, r', h2⟩
        refine ⟨rfl, r', ?_⟩
        rw [lastK es k hlt, bodyK es k hlt, ← List.append_assoc]
        rw [bs_mk] at h2
        exact h2.again h1.bel
      have HS : Hid (∀ X, Calls Tryz.prog 68 #[env (es.getD k En.zero)] X fun x w' => x = .returned (.bool (sound (es.getD k En.zero))) ∧ Below X.heap.size X w') := fun X => (sound_any _ X).mono fun x w' ⟨h1, h2⟩ => ⟨h1, by rw [h2]; exact (Below.refl _ _).alloc (Nat.le_refl _) _⟩
      have hk0 : (0 : Int) ≤ (k : Int) := by omega
      have hk1 : (k : Int) < (es.length : Int) := by omega
      have HB : Hid (Below w.heap.size w wr) := HW.out.bel
      clear HR HW HSZ HOK HW3
      have HN5 : Hid (Below wr.heap.size wr (wr.alloc (entObj (es.getD k En.zero))) ∧ (wr.alloc (entObj (es.getD k En.zero))).heap[wr.heap.size]? = some (entObj (es.getD k En.zero)) ∧ wr.heap.size < (wr.alloc (entObj (es.getD k En.zero))).heap.size) := ⟨(Below.refl _ _).alloc (Nat.le_refl _) _, heap_alloc_new wr _, by simp⟩
      have HQ : Hid (∀ w5, Below wr.heap.size wr w5 ∧ w5.heap[wr.heap.size]? = some (entObj (es.getD k En.zero)) ∧ wr.heap.size < w5.heap.size → ∀ X, Below w5.heap.size w5 X → (Below wr.heap.size wr X ∧ X.heap[wr.heap.size]? = some (entObj (es.getD k En.zero)) ∧ wr.heap.size < X.heap.size)) := fun w5 ⟨a1, a2, a3⟩ X hX => ⟨a1.trans (hX.mono a1.size), (hX.block _ a3).trans a2, Nat.lt_of_lt_of_le a3 hX.size⟩
      by_cases hso : sound (es.getD k En.zero) = true
      · rw [hso] at HS
        by_cases hk2 : 0 < k
        · obtain ⟨j, hj⟩ : ∃ j, j + 1 = k := ⟨k - 1, by omega⟩
          have hjk : IntKind.i64.wrap ((k : Int) - 1) = (j : Int) := wrap_nat (by omega) (by omega)
          have hjl : j < es.length := by omega
          have ej : k - 1 = j := by omega
          rw [ej] at HN HY
          have HL : Hid (∀ X, Calls Tryz.prog 69 #[env (es.getD j En.zero), env (es.getD k En.zero)] X fun x w' => x = .returned (.bool (less (es.getD j En.zero) (es.getD k En.zero))) ∧ Below X.heap.size X w') := fun X => rises_any _ _ X
          obtain ⟨pb2, off2, ea, b0, b1, b2, b3⟩ := elem_cells (HX.out wr HB.out) hjl
          cases ea
          have HE : Hid (∀ X, Below wr.heap.size wr X → X.cell? ⟨pb, off + j * 4, none⟩ = some (.string (es.getD j En.zero).key) ∧ X.cell? ⟨pb, off + j * 4 + 1, none⟩ = some (.int .i64 (es.getD j En.zero).seq) ∧ X.cell? ⟨pb, off + j * 4 + 2, none⟩ = some (.bool (es.getD j En.zero).dead) ∧ X.cell? ⟨pb, off + j * 4 + 3, none⟩ = some (.string (es.getD j En.zero).val)) := fun X hX => by
            obtain ⟨p1, o1, e1, q⟩ := elem_cells (HX.out X (HB.out.trans (hX.mono hbs))) hjl
            cases e1
            exact q
          have hkz : decide ((0 : Int) < (k : Int)) = true := by simp; omega
          have hkz2 : decide (0 < k) = true := by simp; omega
          have hk3 : (0 : Int) ≤ (j : Int) := by omega
          have hk4 : (j : Int) < (es.length : Int) := by omega
          clear ej hj HX hk2
          have HY' : Hid (less (es.getD j En.zero) (es.getD k En.zero) = true → RightTo es (k + 1)) := fun h => HY.out hso (fun _ => h)
          have HN' : Hid (less (es.getD j En.zero) (es.getD k En.zero) = false → encV es = .tuple #[.string ⟨#[]⟩, .int .i64 9]) := fun h => HN.out (fun q => by have := q.2 (by simpa using hkz2); rw [h] at this; cases this)
          clear HN HY hso
          unfold env at HS HV HL
          generalize es.getD k En.zero = y at *
          generalize es.getD j En.zero = z at *
          generalize less z y = B at *
          unfold entObj at HN5 HQ
          go_wp2_with fail
          obtain ⟨w5, hw5⟩ : ∃ w5, w5 = wr.alloc (.cells #[.string y.key, .int .i64 y.seq, .bool y.dead, .string y.val] 25) := ⟨_, rfl⟩
          rw [← hw5] at HN5 ⊢
          clear hw5 b0 b1 b2 b3
          obtain ⟨n0, n1, n2, n3, _⟩ := ent_cells HN5.out.2.1
          obtain ⟨b0, b1, b2, b3⟩ := HE.out w5 HN5.out.1
          have HQ5 : Hid _ := HQ.out w5.drew ⟨HN5.out.1.drew, HN5.out.2.1, HN5.out.2.2⟩
          go_region_held3 (fun w' => w'.cell? ⟨wr.heap.size, 0, none⟩ = some (.string y.key) ∧ w'.cell? ⟨wr.heap.size, 1, none⟩ = some (.int .i64 y.seq) ∧ w'.cell? ⟨wr.heap.size, 2, none⟩ = some (.bool y.dead) ∧ w'.cell? ⟨wr.heap.size, 3, none⟩ = some (.string y.val) ∧ w'.cell? ⟨pb, off + j * 4, none⟩ = some (.string z.key) ∧ w'.cell? ⟨pb, off + j * 4 + 1, none⟩ = some (.int .i64 z.seq) ∧ w'.cell? ⟨pb, off + j * 4 + 2, none⟩ = some (.bool z.dead) ∧ w'.cell? ⟨pb, off + j * 4 + 3, none⟩ = some (.string z.val)) (first | with_reducible exact ⟨n0, n1, n2, n3, b0, b1, b2, b3⟩ | exact ⟨n0, n1, n2, n3, b0, b1, b2, b3⟩ | exact ⟨p0, p1, p2, p3, p4, p5, p6, p7⟩ | exact ⟨m0, m1, m2, m3, m4, m5, m6, m7⟩)
            (first
              | (go_at_call 68; refine (show Calls _ _ _ _ _ from HS.out _).mono ?_; rintro x w6 ⟨rfl, hb6⟩; have hq6 := HQ5.out w6 hb6; obtain ⟨m0, m1, m2, m3, _⟩ := ent_cells hq6.2.1; obtain ⟨m4, m5, m6, m7⟩ := HE.out w6 hq6.1)
              | (go_at_call 69; refine (show Calls _ _ _ _ _ from HL.out _).mono ?_; rintro x w7 ⟨rfl, hb7⟩; have hq7 := HQ.out w6 hq6 w7 hb7; obtain ⟨p0, p1, p2, p3, _⟩ := ent_cells hq7.2.1; obtain ⟨p4, p5, p6, p7⟩ := HE.out w7 hq7.1))
          have HQ7 : Hid _ := hq7
          have HV7 : Hid _ := HV.out w7 HQ7.out.1
          clear hq7 hb7 hq6 hb6 HQ5 HS HQ HN5 HL HE n0 n1 n2 n3 m0 m1 m2 m3 m4 m5 m6 m7 HV b0 b1 b2 b3 c0 c1 c2 c3
          cases B
          · have HR : Hid _ := HN'.out rfl
            clear HN' HY' HV7
            go_wp2
            go_ret2
            exact ⟨by rw [HR.out]; rfl, HB.out.trans (HQ7.out.1.mono hbs)⟩
          · have HY1 : Hid _ := HY'.out rfl
            clear HN' HY'
            go_wp2_with (go_at_call 70; refine (show Calls _ _ _ _ _ from HV7.out).mono ?_; rintro x w8 ⟨rfl, hv8⟩)
            obtain ⟨r8, hv8⟩ := hv8
            go_roundw
            case rel => exact ⟨k + 1, r8, by omega, by go_num, HY1, hv8⟩
            case measure => simp [intOf]; omega
        · have HY1 : Hid _ := HY.out hso (fun h => absurd h hk2)
          obtain rfl : k = 0 := by omega
          clear HN HY HX hso hk2
          rw [Nat.zero_mul, Nat.add_zero] at c0 c1 c2 c3
          have hl0 : (0 : Int) < (es.length : Int) := by omega
          unfold env at HS HV
          generalize es.getD 0 En.zero = y at *
          unfold entObj at HN5 HQ
          go_wp2_with fail
          obtain ⟨w5, hw5⟩ : ∃ w5, w5 = wr.alloc (.cells #[.string y.key, .int .i64 y.seq, .bool y.dead, .string y.val] 25) := ⟨_, rfl⟩
          rw [← hw5] at HN5 ⊢
          clear hw5
          obtain ⟨n0, n1, n2, n3, _⟩ := ent_cells HN5.out.2.1
          have HQ5 : Hid _ := HQ.out w5.drew ⟨HN5.out.1.drew, HN5.out.2.1, HN5.out.2.2⟩
          refine wp_region_held_drew (S := (fun w' => w'.cell? ⟨wr.heap.size, 0, none⟩ = some (.string y.key) ∧ w'.cell? ⟨wr.heap.size, 1, none⟩ = some (.int .i64 y.seq) ∧ w'.cell? ⟨wr.heap.size, 2, none⟩ = some (.bool y.dead) ∧ w'.cell? ⟨wr.heap.size, 3, none⟩ = some (.string y.val))) (by kernel_rfl) ⟨n0, n1, n2, n3⟩ (fun hHeld => ?_)
          refine wpAnyH_take (i := 0) (v := .agg #[.string y.key, .int .i64 y.seq, .bool y.dead, .string y.val]) rfl (by kernel_rfl) (by kernel_rfl) (by kernel_rfl) (fun _ _ _ h => h) (Or.inl ⟨by rfl, ?_⟩) hHeld ?_
          · intro w hSw; go_split_ands; go_simp
          simp only [List.getElem_toArray, List.getElem_cons_zero, Act.put, List.setIfInBounds_toArray, List.set_cons_zero, List.set_cons_succ]
          refine wpAnyH_ready (rs := [1]) (by kernel_rfl) (by simp) (AllReadyH.cons rfl (fun K hK => ?_) AllReadyH.nil)
          go_simp
          refine (show Calls _ _ _ _ _ from HS.out _).mono ?_
          rintro x w6 ⟨rfl, hb6⟩
          have hq6 := HQ5.out w6 hb6
          obtain ⟨m0, m1, m2, m3, _⟩ := ent_cells hq6.2.1
          refine hK.out _ _ ⟨m0, m1, m2, m3⟩ (fun hHeld => ?_)
          clear hK K
          refine wpAnyH_take (i := 2) (v := .bool false) rfl (by kernel_rfl) (by kernel_rfl) (by kernel_rfl) (fun _ _ _ h => h) (Or.inl ⟨by rfl, ?_⟩) hHeld ?_
          · intro w hSw; go_split_ands; go_simp
          simp only [List.getElem_toArray, List.getElem_cons_zero, List.getElem_cons_succ, Act.put, List.setIfInBounds_toArray, List.set_cons_zero, List.set_cons_succ]
          refine wpAnyH_take (i := 3) (v := .bool false) rfl (by kernel_rfl) (by kernel_rfl) (by kernel_rfl) (fun _ _ _ h => h) (Or.inl ⟨by rfl, ?_⟩) hHeld ?_
          · intro w hSw; go_split_ands; go_simp
          simp only [List.getElem_toArray, List.getElem_cons_zero, List.getElem_cons_succ, Act.put, List.setIfInBounds_toArray, List.set_cons_zero, List.set_cons_succ]
          refine wpAnyH_take (i := 4) (v := .int .i64 0) rfl (by kernel_rfl) (by kernel_rfl) (by kernel_rfl) (fun _ _ _ h => h) (Or.inl ⟨by rfl, ?_⟩) hHeld ?_
          · intro w hSw; go_split_ands; go_simp
          simp only [List.getElem_toArray, List.getElem_cons_zero, List.getElem_cons_succ, Act.put, List.setIfInBounds_toArray, List.set_cons_zero, List.set_cons_succ]
          refine wpAnyH_take (i := 5) (v := .bool false) rfl (by kernel_rfl) (by kernel_rfl) (by kernel_rfl) (fun _ _ _ h => h) (Or.inl ⟨by rfl, ?_⟩) hHeld ?_
          · intro w hSw; go_split_ands; go_simp
          simp only [List.getElem_toArray, List.getElem_cons_zero, List.getElem_cons_succ, Act.put, List.setIfInBounds_toArray, List.set_cons_zero, List.set_cons_succ]
          refine wpAnyH_take (i := 6) (v := .bool false) rfl (by kernel_rfl) (by kernel_rfl) (by kernel_rfl) (fun _ _ _ h => h) (Or.inl ⟨by rfl, ?_⟩) hHeld ?_
          · intro w hSw; go_split_ands; go_simp
          simp only [List.getElem_toArray, List.getElem_cons_zero, List.getElem_cons_succ, Act.put, List.setIfInBounds_toArray, List.set_cons_zero, List.set_cons_succ]
          refine wpAnyH_take (i := 7) (v := undef) rfl (by kernel_rfl) (by kernel_rfl) (by kernel_rfl) (fun _ _ _ h => h) (Or.inr ⟨by rfl, rfl⟩) hHeld ?_
          simp only [List.getElem_toArray, List.getElem_cons_zero, List.getElem_cons_succ, Act.put, List.setIfInBounds_toArray, List.set_cons_zero, List.set_cons_succ]
          refine wpAnyH_take (i := 8) (v := undef) rfl (by kernel_rfl) (by kernel_rfl) (by kernel_rfl) (fun _ _ _ h => h) (Or.inr ⟨by rfl, rfl⟩) hHeld ?_
          simp only [List.getElem_toArray, List.getElem_cons_zero, List.getElem_cons_succ, Act.put, List.setIfInBounds_toArray, List.set_cons_zero, List.set_cons_succ]
          refine wpAnyH_take (i := 9) (v := undef) rfl (by kernel_rfl) (by kernel_rfl) (by kernel_rfl) (fun _ _ _ h => h) (Or.inr ⟨by rfl, rfl⟩) hHeld ?_
          simp only [List.getElem_toArray, List.getElem_cons_zero, List.getElem_cons_succ, Act.put, List.setIfInBounds_toArray, List.set_cons_zero, List.set_cons_succ]
          refine wpAnyH_take (i := 10) (v := undef) rfl (by kernel_rfl) (by kernel_rfl) (by kernel_rfl) (fun _ _ _ h => h) (Or.inr ⟨by rfl, rfl⟩) hHeld ?_
          simp only [List.getElem_toArray, List.getElem_cons_zero, List.getElem_cons_succ, Act.put, List.setIfInBounds_toArray, List.set_cons_zero, List.set_cons_succ]
          refine wpAnyH_take (i := 11) (v := undef) rfl (by kernel_rfl) (by kernel_rfl) (by kernel_rfl) (fun _ _ _ h => h) (Or.inr ⟨by rfl, rfl⟩) hHeld ?_
          simp only [List.getElem_toArray, List.getElem_cons_zero, List.getElem_cons_succ, Act.put, List.setIfInBounds_toArray, List.set_cons_zero, List.set_cons_succ]
          refine wpAnyH_take (i := 12) (v := undef) rfl (by kernel_rfl) (by kernel_rfl) (by kernel_rfl) (fun _ _ _ h => h) (Or.inr ⟨by rfl, rfl⟩) hHeld ?_
          simp only [List.getElem_toArray, List.getElem_cons_zero, List.getElem_cons_succ, Act.put, List.setIfInBounds_toArray, List.set_cons_zero, List.set_cons_succ]
          refine wpAnyH_take (i := 13) (v := undef) rfl (by kernel_rfl) (by kernel_rfl) (by kernel_rfl) (fun _ _ _ h => h) (Or.inr ⟨by rfl, rfl⟩) hHeld ?_
          simp only [List.getElem_toArray, List.getElem_cons_zero, List.getElem_cons_succ, Act.put, List.setIfInBounds_toArray, List.set_cons_zero, List.set_cons_succ]
          refine wpAnyH_take (i := 14) (v := undef) rfl (by kernel_rfl) (by kernel_rfl) (by kernel_rfl) (fun _ _ _ h => h) (Or.inr ⟨by rfl, rfl⟩) hHeld ?_
          simp only [List.getElem_toArray, List.getElem_cons_zero, List.getElem_cons_succ, Act.put, List.setIfInBounds_toArray, List.set_cons_zero, List.set_cons_succ]
          refine wpAnyH_take (i := 15) (v := .bool false) rfl (by kernel_rfl) (by kernel_rfl) (by kernel_rfl) (fun _ _ _ h => h) (Or.inl ⟨by rfl, ?_⟩) hHeld ?_
          · intro w hSw; go_split_ands; go_simp
          simp only [List.getElem_toArray, List.getElem_cons_zero, List.getElem_cons_succ, Act.put, List.setIfInBounds_toArray, List.set_cons_zero, List.set_cons_succ]
          refine wpAnyH_take (i := 16) (v := .bool false) rfl (by kernel_rfl) (by kernel_rfl) (by kernel_rfl) (fun _ _ _ h => h) (Or.inl ⟨by rfl, ?_⟩) hHeld ?_
          · intro w hSw; go_split_ands; go_simp
          simp only [List.getElem_toArray, List.getElem_cons_zero, List.getElem_cons_succ, Act.put, List.setIfInBounds_toArray, List.set_cons_zero, List.set_cons_succ]
          refine wpAnyH_done (by kernel_rfl) ?_ _
          have HQ6 : Hid _ := hq6
          clear hq6 hb6 HQ5 HS HQ HN5 n0 n1 n2 n3
          have HV6 : Hid _ := HV.out w6 HQ6.out.1
          go_wp2_with (go_at_call 70; refine (show Calls _ _ _ _ _ from HV6.out).mono ?_; rintro x w7 ⟨rfl, hv7⟩)
          obtain ⟨r7, hv7⟩ := hv7
          go_roundw
          case rel => exact ⟨0 + 1, r7, by omega, by go_num, HY1, hv7⟩
          case measure => simp [intOf]; omega
      · have HR : Hid _ := HN.out (fun h => hso h.1)
        have hso' : sound (es.getD k En.zero) = false := by simpa using hso
        rw [hso'] at HS
        clear HN HY HV HX hso hso'
        unfold env at HS
        generalize es.getD k En.zero = y at *
        unfold entObj at HN5 HQ
        go_wp2_with fail
        obtain ⟨w5, hw5⟩ : ∃ w5, w5 = wr.alloc (.cells #[.string y.key, .int .i64 y.seq, .bool y.dead, .string y.val] 25) := ⟨_, rfl⟩
        rw [← hw5] at HN5 ⊢
        clear hw5
        obtain ⟨n0, n1, n2, n3, _⟩ := ent_cells HN5.out.2.1
        have HQ5 : Hid _ := HQ.out w5.drew ⟨HN5.out.1.drew, HN5.out.2.1, HN5.out.2.2⟩
        refine wp_region_held_drew (S := (fun w' => w'.cell? ⟨wr.heap.size, 0, none⟩ = some (.string y.key) ∧ w'.cell? ⟨wr.heap.size, 1, none⟩ = some (.int .i64 y.seq) ∧ w'.cell? ⟨wr.heap.size, 2, none⟩ = some (.bool y.dead) ∧ w'.cell? ⟨wr.heap.size, 3, none⟩ = some (.string y.val))) (by kernel_rfl) ⟨n0, n1, n2, n3⟩ (fun hHeld => ?_)
        refine wpAnyH_take (i := 0) (v := .agg #[.string y.key, .int .i64 y.seq, .bool y.dead, .string y.val]) rfl (by kernel_rfl) (by kernel_rfl) (by kernel_rfl) (fun _ _ _ h => h) (Or.inl ⟨by rfl, ?_⟩) hHeld ?_
        · intro w hSw; go_split_ands; go_simp
        simp only [List.getElem_toArray, List.getElem_cons_zero, Act.put, List.setIfInBounds_toArray, List.set_cons_zero, List.set_cons_succ]
        refine wpAnyH_ready (rs := [1]) (by kernel_rfl) (by simp) (AllReadyH.cons rfl (fun K hK => ?_) AllReadyH.nil)
        go_simp
        refine (show Calls _ _ _ _ _ from HS.out _).mono ?_
        rintro x w6 ⟨rfl, hb6⟩
        have hq6 := HQ5.out w6 hb6
        obtain ⟨m0, m1, m2, m3, _⟩ := ent_cells hq6.2.1
        refine hK.out _ _ ⟨m0, m1, m2, m3⟩ (fun hHeld => ?_)
        clear hK K
        refine wpAnyH_take (i := 2) (v := .bool true) rfl (by kernel_rfl) (by kernel_rfl) (by kernel_rfl) (fun _ _ _ h => h) (Or.inl ⟨by rfl, ?_⟩) hHeld ?_
        · intro w hSw; go_split_ands; go_simp
        simp only [List.getElem_toArray, List.getElem_cons_zero, List.getElem_cons_succ, Act.put, List.setIfInBounds_toArray, List.set_cons_zero, List.set_cons_succ]
        refine wpAnyH_take (i := 3) (v := .bool true) rfl (by kernel_rfl) (by kernel_rfl) (by kernel_rfl) (fun _ _ _ h => h) (Or.inl ⟨by rfl, ?_⟩) hHeld ?_
        · intro w hSw; go_split_ands; go_simp
        simp only [List.getElem_toArray, List.getElem_cons_zero, List.getElem_cons_succ, Act.put, List.setIfInBounds_toArray, List.set_cons_zero, List.set_cons_succ]
        refine wpAnyH_take (i := 4) (v := undef) rfl (by kernel_rfl) (by kernel_rfl) (by kernel_rfl) (fun _ _ _ h => h) (Or.inr ⟨by rfl, rfl⟩) hHeld ?_
        simp only [List.getElem_toArray, List.getElem_cons_zero, List.getElem_cons_succ, Act.put, List.setIfInBounds_toArray, List.set_cons_zero, List.set_cons_succ]
        refine wpAnyH_take (i := 5) (v := undef) rfl (by kernel_rfl) (by kernel_rfl) (by kernel_rfl) (fun _ _ _ h => h) (Or.inr ⟨by rfl, rfl⟩) hHeld ?_
        simp only [List.getElem_toArray, List.getElem_cons_zero, List.getElem_cons_succ, Act.put, List.setIfInBounds_toArray, List.set_cons_zero, List.set_cons_succ]
        refine wpAnyH_take (i := 6) (v := undef) rfl (by kernel_rfl) (by kernel_rfl) (by kernel_rfl) (fun _ _ _ h => h) (Or.inr ⟨by rfl, rfl⟩) hHeld ?_
        simp only [List.getElem_toArray, List.getElem_cons_zero, List.getElem_cons_succ, Act.put, List.setIfInBounds_toArray, List.set_cons_zero, List.set_cons_succ]
        refine wpAnyH_take (i := 7) (v := undef) rfl (by kernel_rfl) (by kernel_rfl) (by kernel_rfl) (fun _ _ _ h => h) (Or.inr ⟨by rfl, rfl⟩) hHeld ?_
        simp only [List.getElem_toArray, List.getElem_cons_zero, List.getElem_cons_succ, Act.put, List.setIfInBounds_toArray, List.set_cons_zero, List.set_cons_succ]
        refine wpAnyH_take (i := 8) (v := undef) rfl (by kernel_rfl) (by kernel_rfl) (by kernel_rfl) (fun _ _ _ h => h) (Or.inr ⟨by rfl, rfl⟩) hHeld ?_
        simp only [List.getElem_toArray, List.getElem_cons_zero, List.getElem_cons_succ, Act.put, List.setIfInBounds_toArray, List.set_cons_zero, List.set_cons_succ]
        refine wpAnyH_take (i := 9) (v := undef) rfl (by kernel_rfl) (by kernel_rfl) (by kernel_rfl) (fun _ _ _ h => h) (Or.inr ⟨by rfl, rfl⟩) hHeld ?_
        simp only [List.getElem_toArray, List.getElem_cons_zero, List.getElem_cons_succ, Act.put, List.setIfInBounds_toArray, List.set_cons_zero, List.set_cons_succ]
        refine wpAnyH_take (i := 10) (v := undef) rfl (by kernel_rfl) (by kernel_rfl) (by kernel_rfl) (fun _ _ _ h => h) (Or.inr ⟨by rfl, rfl⟩) hHeld ?_
        simp only [List.getElem_toArray, List.getElem_cons_zero, List.getElem_cons_succ, Act.put, List.setIfInBounds_toArray, List.set_cons_zero, List.set_cons_succ]
        refine wpAnyH_take (i := 11) (v := undef) rfl (by kernel_rfl) (by kernel_rfl) (by kernel_rfl) (fun _ _ _ h => h) (Or.inr ⟨by rfl, rfl⟩) hHeld ?_
        simp only [List.getElem_toArray, List.getElem_cons_zero, List.getElem_cons_succ, Act.put, List.setIfInBounds_toArray, List.set_cons_zero, List.set_cons_succ]
        refine wpAnyH_take (i := 12) (v := undef) rfl (by kernel_rfl) (by kernel_rfl) (by kernel_rfl) (fun _ _ _ h => h) (Or.inr ⟨by rfl, rfl⟩) hHeld ?_
        simp only [List.getElem_toArray, List.getElem_cons_zero, List.getElem_cons_succ, Act.put, List.setIfInBounds_toArray, List.set_cons_zero, List.set_cons_succ]
        refine wpAnyH_take (i := 13) (v := undef) rfl (by kernel_rfl) (by kernel_rfl) (by kernel_rfl) (fun _ _ _ h => h) (Or.inr ⟨by rfl, rfl⟩) hHeld ?_
        simp only [List.getElem_toArray, List.getElem_cons_zero, List.getElem_cons_succ, Act.put, List.setIfInBounds_toArray, List.set_cons_zero, List.set_cons_succ]
        refine wpAnyH_take (i := 14) (v := undef) rfl (by kernel_rfl) (by kernel_rfl) (by kernel_rfl) (fun _ _ _ h => h) (Or.inr ⟨by rfl, rfl⟩) hHeld ?_
        simp only [List.getElem_toArray, List.getElem_cons_zero, List.getElem_cons_succ, Act.put, List.setIfInBounds_toArray, List.set_cons_zero, List.set_cons_succ]
        refine wpAnyH_take (i := 15) (v := undef) rfl (by kernel_rfl) (by kernel_rfl) (by kernel_rfl) (fun _ _ _ h => h) (Or.inr ⟨by rfl, rfl⟩) hHeld ?_
        simp only [List.getElem_toArray, List.getElem_cons_zero, List.getElem_cons_succ, Act.put, List.setIfInBounds_toArray, List.set_cons_zero, List.set_cons_succ]
        refine wpAnyH_take (i := 16) (v := .bool true) rfl (by kernel_rfl) (by kernel_rfl) (by kernel_rfl) (fun _ _ _ h => h) (Or.inl ⟨by rfl, ?_⟩) hHeld ?_
        · intro w hSw; go_split_ands; go_simp
        simp only [List.getElem_toArray, List.getElem_cons_zero, List.getElem_cons_succ, Act.put, List.setIfInBounds_toArray, List.set_cons_zero, List.set_cons_succ]
        refine wpAnyH_done (by kernel_rfl) ?_ _
        have HQ6 : Hid _ := hq6
        clear hq6 hb6 HQ5 HS HQ HN5 n0 n1 n2 n3
        go_wp2
        go_ret2
        exact ⟨by rw [HR.out]; rfl, HB.out.trans (HQ6.out.1.mono hbs)⟩
    · have hkl : k = es.length := by omega
      subst hkl
      have HE : Hid (encV es = .tuple #[.string ⟨(block es).toArray⟩, .int .i64 0]) := by show _ = _; unfold encV; rw [if_pos ((right_iff es).2 HR.out)]
      have hW := HW.out
      rw [List.take_length] at hW
      have HW1 : Hid _ := hW
      have c0 : wr.cell? ⟨w.heap.size + 1, 0, none⟩ = some (.pointer (some ⟨w.heap.size, 0, none⟩)) := by rw [Joins.cell_of_block hW.hq]; rfl
      clear hW HW HR HX HOK HSZ HW3
      go_wp2_with fail
      refine (Pk.wBytes_any _ _ _ _ _ HW1.out.wr).mono ?_
      rintro x w8 ⟨rfl, rfl⟩
      go_wp2
      go_ret2
      exact ⟨by rw [HE.out]; rfl, HW1.out.bel⟩
end Go.Proofs.YtedjohkdfchocaaGreat.Bk
