/-
  The walk of the statement MemFinds.
-/
import Derived.Test.YtbbncfgiimkpnaaMemLives
import Derived.Test.YtbbncfgiimkpnaaMemRef2
namespace Go.Proofs.Ytbbncfgiimkpnaa.Mm
open Go.RowKit Cm
set_option linter.unusedVariables false

/-- What came in lies ahead of whatever is made. -/
theorem apart_new {w : World} {ao : Option Addr} {xs : List En} (h : ElemsAt enShape w ao xs) {B : Nat} (hB : w.heap.size ≤ B) : xs ≠ [] → ∀ ad, ao = some ad → ¬ (B ≤ ad.block) := fun hne ad e => by
  rcases h with h | ⟨b, off, he, hlt, _⟩
  · exact absurd h hne
  · rw [e] at he
    cases he
    show ¬ (B ≤ b)
    omega
theorem getE_drop {L : List En} {K : ByteArray} {s : Int} {k : Nat} (hk : k < L.length) : getE (L.drop k) K s = if hit K s (L.getD k En.zero) then some (L.getD k En.zero) else getE (L.drop (k + 1)) K s := by
  rw [getD_lt _ _ _ hk]
  show (L.drop k).find? (hit K s) = _
  rw [List.drop_eq_getElem_cons hk, List.find?_cons]
  cases hit K s L[k] <;> rfl
theorem getE_from (vs : List En) (K : ByteArray) (s : Int) : getE vs K s = getE (fromE vs K) K s := by
  induction vs with
  | nil => rfl
  | cons v vs ih =>
    unfold fromE
    rw [List.dropWhile_cons]
    split
    · rename_i hv
      have hne : v.key ≠ K := by
        rintro rfl
        rw [lt_irrefl] at hv; cases hv
      show (v :: vs).find? (hit K s) = _
      rw [List.find?_cons_of_neg (by unfold hit; simp [hne])]
      exact ih
    · rfl
/-- The end of a slice, wherever it is cut. -/
theorem elems_cut {w : World} {ao : Option Addr} {A L : List En} {c : Nat} (h : ElemsAt enShape w ao (A ++ L)) (hc : (A ++ L).length ≤ c) : ElemsAt enShape w (if c = A.length then ao else Option.map (fun x => x.add (A.length * 4)) ao) L := by
  split
  · rename_i e
    have : L = [] := List.eq_nil_of_length_eq_zero (by rw [List.length_append] at hc; omega)
    exact .inl this
  · rcases h with h | ⟨b, off, rfl, hlt, hcell⟩
    · exact .inl (by simp at h; exact h.2)
    · have := elems_drop (.inr ⟨b, off, rfl, hlt, hcell⟩) A.length
      rw [List.drop_left] at this
      simp only [Option.map_some, Go.WideShapes.add_plain]
      exact this
theorem from_split (vs : List En) (K : ByteArray) : ∃ A, vs = A ++ fromE vs K ∧ ∀ e ∈ A, lt e.key K = true := by
  refine ⟨vs.takeWhile fun e => lt e.key K, List.takeWhile_append_dropWhile.symm, ?_⟩
  induction vs with
  | nil => intro e he; simp at he
  | cons v vs ih =>
    intro e he
    rw [List.takeWhile_cons] at he
    split at he
    · rcases List.mem_cons.1 he with rfl | he
      · assumption
      · exact ih e he
    · simp at he

set_option maxRecDepth 100000 in
set_option maxHeartbeats 4000000 in
theorem finds_walk (ah ao : Option Addr) (ch ca : Nat) (hs : List Int) (xs : List En) (K : ByteArray) (s : Int) (w : World) (hh : CellsAt w ah (hs.map (Value.int .i64))) (hok : ∀ h ∈ hs, -9223372036854775808 ≤ h ∧ h ≤ 9223372036854775807) (hx : ElemsAt enShape w ao xs) (hxo : AllOk xs)
    (hhl : hs.length ≤ 10000000) (hb : xs.length + bytesE xs ≤ 10000000) :
    Calls Try.prog 5 #[.slice ah hs.length ch, .slice ao xs.length ca, .agg #[.string K, .int .i64 s]] w fun e w' => e = .returned (.bool true) ∧ Below w.heap.size w w' := by
  have HN : Hid (∀ wr, Below w.heap.size w wr → _) := fun wr hb => newS ah ch hs wr (hh.below hb) hok (by omega)
  have HA : Hid (∀ wr b B S, Below w.heap.size w wr → Tab wr S b [] → (∀ k, wr.heap.size ≤ k → S k) → w.heap.size ≤ B → (∀ k, S k → B ≤ k) → _) := fun wr b B S hb ht hS hB hS2 => addS (S := S) (b := b) ao ca xs wr ht hS (hx.later hb) (fun hne ad e h => apart_new hx hB hne ad e (hS2 _ h)) hxo (by simp; omega) (by simp [bytesE] at *; omega)
  have hlen := addAll_len [] xs
  have hvl : (addAll [] xs).length ≤ 10000000 := by simp at hlen; omega
  obtain ⟨A, hsp, hAlt⟩ := from_split (addAll [] xs) K
  have HGf : Hid _ := getE_from (addAll [] xs) K s
  generalize addAll [] xs = vs at *
  obtain ⟨L, hL⟩ : ∃ L, L = fromE vs K := ⟨_, rfl⟩
  rw [← hL] at hsp HGf
  have HL : Hid (fromE vs K = L) := hL.symm
  have HV : Hid (vs = A ++ L) := hsp
  clear hh hok hx hxo hhl hb hlen hL hsp
  go_enter Try.func5, Try.ntmps5
  go_wp2_with fail
  refine (lives_any _).mono ?_
  rintro e w1 ⟨rfl, hb1⟩
  have c0 : w1.cell? ⟨w.heap.size, 0, none⟩ = some (.string K) := by
    rw [World.cell?_of_block (hb1.block _ (by simp)), Joins.cell_of_block (heap_alloc_new w _)]; rfl
  have c1 : w1.cell? ⟨w.heap.size, 1, none⟩ = some (.int .i64 s) := by
    rw [World.cell?_of_block (hb1.block _ (by simp)), Joins.cell_of_block (heap_alloc_new w _)]; rfl
  have HB1 : Hid (∀ j, Below w.heap.size w (w1.drewN j)) := fun j => by
    have h : Below w.heap.size w w1 := ((Below.refl _ _).alloc (Nat.le_refl _) _).trans (hb1.mono (by simp))
    exact ⟨h.os, h.tape, h.output, h.size, h.block⟩
  clear hb1
  go_wp2_with fail
  go_quiet (fail)
  have HB1' : Hid _ := HB1.out nq
  clear HB1 c0 c1
  generalize w1.drewN nq = w2 at *
  have hs2 := HB1'.out.size
  go_wp2_with fail
  refine (show Calls _ _ _ _ _ from HN.out w2 HB1'.out).mono ?_
  rintro e w3 ⟨rfl, T3, hb3⟩
  have hs3 := hb3.size
  have HB3 : Hid (Below w.heap.size w w3) := HB1'.out.trans (hb3.mono hs2)
  have HAd : Hid _ := HA.out w3 (w2.heap.size + 1) w2.heap.size _ HB3.out T3 (fun k hk => Nat.le_trans hs3 hk) hs2 (fun k e => e)
  clear hb3 T3 HN HA
  go_wp2_with fail
  refine (show Calls _ _ _ _ _ from HAd.out).mono ?_
  rintro e w4 ⟨rfl, T4, hc4⟩
  have HB4 : Hid (Below w.heap.size w w4) := HB3.out.trans (hc4.below (fun k e => Nat.le_trans hs2 e) (Nat.le_trans hs2 hs3))
  have HT4 : Hid (Tab w4 (fun k => w2.heap.size ≤ k) (w2.heap.size + 1) vs) := T4
  have hs4 := HB4.out.size
  clear T4 hc4 HAd HB3 HB1'
  have HF : Hid _ := fromS K w4 HT4.out (by omega)
  rw [HL.out] at HF
  go_wp2_with fail
  refine (show Calls _ _ _ _ _ from HF.out).mono ?_
  rintro e w5 ⟨v5, rfl, ho5, hb5⟩
  have hs5 := hb5.size
  have HT5 : Hid (Tab w5 (fun k => w2.heap.size ≤ k) (w2.heap.size + 1) vs) := Tab.below HT4.out hb5
  have HB5 : Hid (Below w.heap.size w w5) := HB4.out.trans (hb5.mono hs4)
  have HAl : Hid _ := allS w5 HT5.out (by omega)
  rw [HV.out] at HAl
  have HO5 : Hid (w5.ownsRow w4.heap.size 31 4 v5 L.length (enShape.vals L)) := ho5
  clear hb5 HF HT4 HB4 ho5
  go_wp2_with fail
  refine (show Calls _ _ _ _ _ from HAl.out).mono ?_
  rintro e w6 ⟨v6, rfl, ho6, hb6⟩
  have hs6 := hb6.size
  have HT6 : Hid (Tab w6 (fun k => w2.heap.size ≤ k) (w2.heap.size + 1) vs) := Tab.below HT5.out hb6
  have HB6 : Hid (Below w.heap.size w w6) := HB5.out.trans (hb6.mono (by omega))
  obtain ⟨ao6, c6, rfl, hn6, _, hcap6, he6⟩ := own_rows (F := enShape) ho6
  have HO6 : w6.ownsRow w4.heap.size 31 4 v5 L.length (enShape.vals L) := rows_keep HO5.out fun j hj => hb6.block j (HO5.out.lt j hj).2
  obtain ⟨ao5, c5, rfl, hn5, _, hcap5, he5⟩ := own_rows (F := enShape) HO6
  clear hb6 HAl HT5 HB5 HO5 HO6 ho6 hs5 hs6
  rw [List.length_append] at hcap6
  have e6 : (A ++ L).length = A.length + L.length := List.length_append
  rw [e6]
  have hlA : A.length + L.length ≤ 10000000 := by rw [← e6, ← HV.out]; exact hvl
  clear e6 hvl HL HV
  by_cases hA : A = []
  · subst hA
    simp only [List.nil_append, List.length_nil, Nat.zero_add] at *
    have HS : Hid _ := same_any ao6 ao5 c6 c5 L w6 he6 he5 (by omega)
    go_wp2_with fail
    refine (show Calls _ _ _ _ _ from HS.out).mono ?_
    rintro e w7 ⟨rfl, n7, rfl⟩
    have HT7 : Hid (Tab (w6.drewN n7) (fun k => w2.heap.size ≤ k) (w2.heap.size + 1) vs) := Tab.keep HT6.out fun _ _ _ => rfl
    have HB7 : Hid (Below w.heap.size w (w6.drewN n7)) := ⟨HB6.out.os, HB6.out.tape, HB6.out.output, HB6.out.size, HB6.out.block⟩
    have HE7 : Hid (ElemsAt enShape (w6.drewN n7) ao5 L) := he5
    clear HS he5 he6 HT6 HB6
    generalize w6.drewN n7 = w7 at *
    have hs7 := HB7.out.size
    have hl7 : w2.heap.size + 1 < w7.heap.size := (Tab.cells HT7.out).2.2.1
    have HG0 : Hid (getE (L.drop L.length) K s = none) := by show _ = _; simp [getE]
    have HW0 : Hid ((w7.alloc (entObj En.zero)).heap[w7.heap.size]? = some (entObj ((getE (L.drop L.length) K s).getD En.zero)) ∧ Below w7.heap.size w7 (w7.alloc (entObj En.zero))) := by
      rw [HG0.out]
      exact ⟨heap_alloc_new w7 _, (Below.refl _ _).alloc (Nat.le_refl _) _⟩
    unfold entObj En.zero at HW0
    simp only [] at HW0
    go_wp2
    go_loopw [13, 14] (fun o i wr => ∃ k : Nat, k ≤ L.length ∧ i = .int .i64 ((k : Int) - 1) ∧ o = .bool (getE (L.drop k) K s).isSome ∧ Hid (wr.heap[w7.heap.size]? = some (entObj ((getE (L.drop k) K s).getD En.zero)) ∧ Below w7.heap.size w7 wr)) (fun _ i _ => (intOf i + 1).toNat)
    case atStart => exact ⟨L.length, Nat.le_refl _, by go_num, by rw [HG0.out]; rfl, HW0⟩
    case round =>
      obtain ⟨k, hk, rfl, rfl, HW⟩ := hrel
      cases k with
      | zero =>
        have HG : Hid _ := getS K s wr (Tab.below HT7.out HW.out.2)
        rw [HGf.out] at HG
        have HWz := HW.out
        rw [List.drop_zero] at HWz ⊢
        obtain ⟨hwz, hbz⟩ := HWz
        have hsz := hbz.size
        have HBz : Hid (Below w.heap.size w wr) := HB7.out.trans (hbz.mono hs7)
        obtain ⟨q0, q1, q2, q3, _⟩ := ent_cells hwz
        have hlz := lt_of_block hwz
        have HK : Hid (∀ wq o, Below wr.heap.size wr wq → Below w.heap.size w (wq.alloc o) ∧ (wq.alloc o).heap[w7.heap.size]? = some (entObj ((getE L K s).getD En.zero))) := fun wq o h => ⟨(HBz.out.trans (h.mono HBz.out.size)).alloc (Nat.le_trans HBz.out.size h.size) o, (Below.heap_alloc _ _ _ (Nat.lt_of_lt_of_le hlz h.size)).trans ((h.block _ hlz).trans hwz)⟩
        have hgd := guardEn
        have hes := eql_self
        clear HW HT7 HB7 HE7 hwz hbz HGf
        unfold foundV env at HG
        generalize (getE L K s).getD En.zero = E at *
        generalize (getE L K s).isSome = F at *
        go_wp2_with fail
        refine (show Calls _ _ _ _ _ from HG.out).mono ?_
        rintro e w8 ⟨rfl, hb8⟩
        have HK8 : Hid _ := HK.out w8 (entObj E) hb8
        obtain ⟨u0, u1, u2, u3, _⟩ := ent_cells HK8.out.2
        have hlt8 : w7.heap.size < w8.heap.size := Nat.lt_of_lt_of_le hlz hb8.size
        unfold entObj at HK8 u0 u1 u2 u3
        clear HK HG hb8
        go_wp2
        go_ret
        exact ⟨rfl, HK8.out.1⟩
      | succ k =>
        have hkl : k < L.length := hk
        have HEr := HE7.out.later HW.out.2
        obtain ⟨pb, off, rfl, c0, c1, c2, c3⟩ := elem_cells HEr hkl
        have HD : Hid _ := getE_drop (K := K) (s := s) hkl
        have hbk := beq_toList (L.getD k En.zero).key K
        have e1 : (((k + 1 : Nat) : Int) - 1) = (k : Int) := by omega
        rw [e1]
        clear e1
        have hk0 : (0 : Int) ≤ (k : Int) := by omega
        have hk1 : (k : Int) < (L.length : Int) := by omega
        by_cases hh : hit K s (L.getD k En.zero) = true
        · have HG : Hid (getE (L.drop k) K s = some (L.getD k En.zero)) := by show _ = _; rw [HD.out, if_pos hh]
          have hh2 := hh
          unfold hit at hh2
          simp only [Bool.and_eq_true, decide_eq_true_eq] at hh2
          rw [decide_eq_true hh2.1] at hbk
          have hsq : (L.getD k En.zero).seq ≤ s := hh2.2
          obtain ⟨_, _, _, _, bf⟩ := ent_cells HW.out.1
          obtain ⟨b0, b1, b2, b3, _⟩ := ent_cells HW.out.1
          have f0 := bf 0
          have f1 := bf 1
          have f2 := bf 2
          have f3 := bf 3
          have HWn : Hid (((((wr.setCell ⟨w7.heap.size, 0, none⟩ (.string (L.getD k En.zero).key)).setCell ⟨w7.heap.size, 1, none⟩ (.int .i64 (L.getD k En.zero).seq)).setCell ⟨w7.heap.size, 2, none⟩ (.bool (L.getD k En.zero).dead)).setCell ⟨w7.heap.size, 3, none⟩ (.string (L.getD k En.zero).val)).heap[w7.heap.size]? = some (entObj ((getE (L.drop k) K s).getD En.zero)) ∧ Below w7.heap.size w7 ((((wr.setCell ⟨w7.heap.size, 0, none⟩ (.string (L.getD k En.zero).key)).setCell ⟨w7.heap.size, 1, none⟩ (.int .i64 (L.getD k En.zero).seq)).setCell ⟨w7.heap.size, 2, none⟩ (.bool (L.getD k En.zero).dead)).setCell ⟨w7.heap.size, 3, none⟩ (.string (L.getD k En.zero).val))) := by
            rw [HG.out]
            refine ⟨?_, (((HW.out.2.setCell (by simp) _).setCell (by simp) _).setCell (by simp) _).setCell (by simp) _⟩
            rw [Joins.block_setCell (Joins.block_setCell (Joins.block_setCell (Joins.block_setCell (show wr.heap[w7.heap.size]? = some (.cells _ _ _) from HW.out.1) _) _) _)]
            rfl
          have HGs : Hid ((getE (L.drop k) K s).isSome = true) := by rw [HG.out]; exact hid_rfl
          clear hh hh2 HG HD HW HEr bf
          generalize getE (L.drop (k + 1)) K s = G1 at *
          generalize L.getD k En.zero = y at *
          go_wp2
          go_roundw
          case rel => exact ⟨k, by omega, by go_num, by rw [HGs.out], HWn⟩
          case measure => simp [intOf]
        · have hf : hit K s (L.getD k En.zero) = false := by simpa using hh
          have HG : Hid (getE (L.drop k) K s = getE (L.drop (k + 1)) K s) := by show _ = _; rw [HD.out, hf]; rfl
          have HWn : Hid _ := HW.out
          rw [← HG.out] at HWn ⊢
          clear hh HG HD HW HEr
          generalize hgk : getE (L.drop k) K s = G1 at *
          have HGK : Hid (getE (L.drop k) K s = G1) := hgk
          clear hgk
          generalize L.getD k En.zero = y at *
          by_cases hkk : y.key = K
          · rw [decide_eq_true hkk] at hbk
            have hsq : decide (y.seq ≤ s) = false := by unfold hit at hf; simpa [hkk] using hf
            clear hf hkk
            go_wp2
            go_roundw
            case rel => exact ⟨k, by omega, by go_num, by rw [HGK.out], by rw [HGK.out]; exact HWn⟩
            case measure => simp [intOf]
          · rw [decide_eq_false hkk] at hbk
            clear hf hkk
            go_wp2
            go_roundw
            case rel => exact ⟨k, by omega, by go_num, by rw [HGK.out], by rw [HGK.out]; exact HWn⟩
            case measure => simp [intOf]
  · have hA0 : 0 < A.length := List.length_pos_iff.2 hA
    obtain ⟨kA, hkA⟩ : ∃ kA, A.length = kA + 1 := ⟨A.length - 1, by omega⟩
    have hlast : lt (A.getD kA En.zero).key K = true := hAlt _ (by rw [getD_lt _ _ _ (by omega)]; exact List.getElem_mem _)
    have hgd : (A ++ L).getD kA En.zero = A.getD kA En.zero := by
      rw [getD_lt _ _ _ (by rw [List.length_append]; omega), getD_lt _ _ _ (by omega), List.getElem_append_left]
    obtain ⟨g6, o6, rfl, d0, d1, d2, d3⟩ := elem_cells he6 (k := kA) (by rw [List.length_append]; omega)
    rw [hgd] at d0
    have he6D := elems_drop he6 A.length
    rw [List.drop_left, hkA] at he6D
    rw [hkA] at hcap6 hlA ⊢
    clear hgd d1 d2 d3 hA hA0 hAlt
    generalize (A.getD kA En.zero).key = KA at *
    have hl2 : Op.bytesLess KA.toList K.toList = true := hlast
    have hi0 : (0 : Int) ≤ (kA : Int) := by omega
    have hi1 : (kA : Int) + 1 ≤ (c6 : Int) := by omega
    clear hlast hkA
    by_cases hck : c6 = kA + 1
    · have HS : Hid _ := same_any (some ⟨g6, o6, none⟩) ao5 0 c5 L w6 (.inl (List.eq_nil_of_length_eq_zero (by omega))) he5 (by omega)
      go_wp2_with fail
      refine (show Calls _ _ _ _ _ from HS.out).mono ?_
      rintro e w7 ⟨rfl, n7, rfl⟩
      have HT7 : Hid (Tab (w6.drewN n7) (fun k => w2.heap.size ≤ k) (w2.heap.size + 1) vs) := Tab.keep HT6.out fun _ _ _ => rfl
      have HB7 : Hid (Below w.heap.size w (w6.drewN n7)) := ⟨HB6.out.os, HB6.out.tape, HB6.out.output, HB6.out.size, HB6.out.block⟩
      have HE7 : Hid (ElemsAt enShape (w6.drewN n7) ao5 L) := he5
      have dk : (w6.drewN n7).cell? ⟨g6, o6 + kA * 4, none⟩ = some (.string KA) := d0
      clear d0
      clear HS he5 he6 HT6 HB6
      generalize w6.drewN n7 = w7 at *
      have hs7 := HB7.out.size
      have hl7 : w2.heap.size + 1 < w7.heap.size := (Tab.cells HT7.out).2.2.1
      have HG0 : Hid (getE (L.drop L.length) K s = none) := by show _ = _; simp [getE]
      have HW0 : Hid ((w7.alloc (entObj En.zero)).heap[w7.heap.size]? = some (entObj ((getE (L.drop L.length) K s).getD En.zero)) ∧ Below w7.heap.size w7 (w7.alloc (entObj En.zero))) := by
        rw [HG0.out]
        exact ⟨heap_alloc_new w7 _, (Below.refl _ _).alloc (Nat.le_refl _) _⟩
      unfold entObj En.zero at HW0
      simp only [] at HW0
      go_wp2
      go_loopw [13, 14] (fun o i wr => ∃ k : Nat, k ≤ L.length ∧ i = .int .i64 ((k : Int) - 1) ∧ o = .bool (getE (L.drop k) K s).isSome ∧ Hid (wr.heap[w7.heap.size]? = some (entObj ((getE (L.drop k) K s).getD En.zero)) ∧ Below w7.heap.size w7 wr)) (fun _ i _ => (intOf i + 1).toNat)
      case atStart => exact ⟨L.length, Nat.le_refl _, by go_num, by rw [HG0.out]; rfl, HW0⟩
      case round =>
        obtain ⟨k, hk, rfl, rfl, HW⟩ := hrel
        cases k with
        | zero =>
          have HG : Hid _ := getS K s wr (Tab.below HT7.out HW.out.2)
          rw [HGf.out] at HG
          have HWz := HW.out
          rw [List.drop_zero] at HWz ⊢
          obtain ⟨hwz, hbz⟩ := HWz
          have hsz := hbz.size
          have HBz : Hid (Below w.heap.size w wr) := HB7.out.trans (hbz.mono hs7)
          obtain ⟨q0, q1, q2, q3, _⟩ := ent_cells hwz
          have hlz := lt_of_block hwz
          have HK : Hid (∀ wq o, Below wr.heap.size wr wq → Below w.heap.size w (wq.alloc o) ∧ (wq.alloc o).heap[w7.heap.size]? = some (entObj ((getE L K s).getD En.zero))) := fun wq o h => ⟨(HBz.out.trans (h.mono HBz.out.size)).alloc (Nat.le_trans HBz.out.size h.size) o, (Below.heap_alloc _ _ _ (Nat.lt_of_lt_of_le hlz h.size)).trans ((h.block _ hlz).trans hwz)⟩
          have hgd := guardEn
          have hes := eql_self
          clear HW HT7 HB7 HE7 hwz hbz HGf
          unfold foundV env at HG
          generalize (getE L K s).getD En.zero = E at *
          generalize (getE L K s).isSome = F at *
          go_wp2_with fail
          refine (show Calls _ _ _ _ _ from HG.out).mono ?_
          rintro e w8 ⟨rfl, hb8⟩
          have HK8 : Hid _ := HK.out w8 (entObj E) hb8
          obtain ⟨u0, u1, u2, u3, _⟩ := ent_cells HK8.out.2
          have hlt8 : w7.heap.size < w8.heap.size := Nat.lt_of_lt_of_le hlz hb8.size
          unfold entObj at HK8 u0 u1 u2 u3
          clear HK HG hb8
          go_wp2
          go_ret
          exact ⟨rfl, HK8.out.1⟩
        | succ k => exact absurd hk (by omega)
    · have HS : Hid _ := same_any (some ⟨g6, o6 + (kA + 1) * 4, none⟩) ao5 (c6 - (kA + 1)) c5 L w6 he6D he5 (by omega)
      go_wp2_with fail
      refine (show Calls _ _ _ _ _ from HS.out).mono ?_
      rintro e w7 ⟨rfl, n7, rfl⟩
      have HT7 : Hid (Tab (w6.drewN n7) (fun k => w2.heap.size ≤ k) (w2.heap.size + 1) vs) := Tab.keep HT6.out fun _ _ _ => rfl
      have HB7 : Hid (Below w.heap.size w (w6.drewN n7)) := ⟨HB6.out.os, HB6.out.tape, HB6.out.output, HB6.out.size, HB6.out.block⟩
      have HE7 : Hid (ElemsAt enShape (w6.drewN n7) ao5 L) := he5
      have dk : (w6.drewN n7).cell? ⟨g6, o6 + kA * 4, none⟩ = some (.string KA) := d0
      clear d0 he6D
      clear HS he5 he6 HT6 HB6
      generalize w6.drewN n7 = w7 at *
      have hs7 := HB7.out.size
      have hl7 : w2.heap.size + 1 < w7.heap.size := (Tab.cells HT7.out).2.2.1
      have HG0 : Hid (getE (L.drop L.length) K s = none) := by show _ = _; simp [getE]
      have HW0 : Hid ((w7.alloc (entObj En.zero)).heap[w7.heap.size]? = some (entObj ((getE (L.drop L.length) K s).getD En.zero)) ∧ Below w7.heap.size w7 (w7.alloc (entObj En.zero))) := by
        rw [HG0.out]
        exact ⟨heap_alloc_new w7 _, (Below.refl _ _).alloc (Nat.le_refl _) _⟩
      unfold entObj En.zero at HW0
      simp only [] at HW0
      go_wp2
      go_loopw [13, 14] (fun o i wr => ∃ k : Nat, k ≤ L.length ∧ i = .int .i64 ((k : Int) - 1) ∧ o = .bool (getE (L.drop k) K s).isSome ∧ Hid (wr.heap[w7.heap.size]? = some (entObj ((getE (L.drop k) K s).getD En.zero)) ∧ Below w7.heap.size w7 wr)) (fun _ i _ => (intOf i + 1).toNat)
      case atStart => exact ⟨L.length, Nat.le_refl _, by go_num, by rw [HG0.out]; rfl, HW0⟩
      case round =>
        obtain ⟨k, hk, rfl, rfl, HW⟩ := hrel
        cases k with
        | zero =>
          have HG : Hid _ := getS K s wr (Tab.below HT7.out HW.out.2)
          rw [HGf.out] at HG
          have HWz := HW.out
          rw [List.drop_zero] at HWz ⊢
          obtain ⟨hwz, hbz⟩ := HWz
          have hsz := hbz.size
          have HBz : Hid (Below w.heap.size w wr) := HB7.out.trans (hbz.mono hs7)
          obtain ⟨q0, q1, q2, q3, _⟩ := ent_cells hwz
          have hlz := lt_of_block hwz
          have HK : Hid (∀ wq o, Below wr.heap.size wr wq → Below w.heap.size w (wq.alloc o) ∧ (wq.alloc o).heap[w7.heap.size]? = some (entObj ((getE L K s).getD En.zero))) := fun wq o h => ⟨(HBz.out.trans (h.mono HBz.out.size)).alloc (Nat.le_trans HBz.out.size h.size) o, (Below.heap_alloc _ _ _ (Nat.lt_of_lt_of_le hlz h.size)).trans ((h.block _ hlz).trans hwz)⟩
          have hgd := guardEn
          have hes := eql_self
          clear HW HT7 HB7 HE7 hwz hbz HGf
          unfold foundV env at HG
          generalize (getE L K s).getD En.zero = E at *
          generalize (getE L K s).isSome = F at *
          go_wp2_with fail
          refine (show Calls _ _ _ _ _ from HG.out).mono ?_
          rintro e w8 ⟨rfl, hb8⟩
          have HK8 : Hid _ := HK.out w8 (entObj E) hb8
          obtain ⟨u0, u1, u2, u3, _⟩ := ent_cells HK8.out.2
          have hlt8 : w7.heap.size < w8.heap.size := Nat.lt_of_lt_of_le hlz hb8.size
          unfold entObj at HK8 u0 u1 u2 u3
          clear HK HG hb8
          go_wp2
          go_ret
          exact ⟨rfl, HK8.out.1⟩
        | succ k =>
          have hkl : k < L.length := hk
          have HEr := HE7.out.later HW.out.2
          obtain ⟨pb, off, rfl, c0, c1, c2, c3⟩ := elem_cells HEr hkl
          have HD : Hid _ := getE_drop (K := K) (s := s) hkl
          have hbk := beq_toList (L.getD k En.zero).key K
          have e1 : (((k + 1 : Nat) : Int) - 1) = (k : Int) := by omega
          rw [e1]
          clear e1
          have hk0 : (0 : Int) ≤ (k : Int) := by omega
          have hk1 : (k : Int) < (L.length : Int) := by omega
          by_cases hh : hit K s (L.getD k En.zero) = true
          · have HG : Hid (getE (L.drop k) K s = some (L.getD k En.zero)) := by show _ = _; rw [HD.out, if_pos hh]
            have hh2 := hh
            unfold hit at hh2
            simp only [Bool.and_eq_true, decide_eq_true_eq] at hh2
            rw [decide_eq_true hh2.1] at hbk
            have hsq : (L.getD k En.zero).seq ≤ s := hh2.2
            obtain ⟨_, _, _, _, bf⟩ := ent_cells HW.out.1
            obtain ⟨b0, b1, b2, b3, _⟩ := ent_cells HW.out.1
            have f0 := bf 0
            have f1 := bf 1
            have f2 := bf 2
            have f3 := bf 3
            have HWn : Hid (((((wr.setCell ⟨w7.heap.size, 0, none⟩ (.string (L.getD k En.zero).key)).setCell ⟨w7.heap.size, 1, none⟩ (.int .i64 (L.getD k En.zero).seq)).setCell ⟨w7.heap.size, 2, none⟩ (.bool (L.getD k En.zero).dead)).setCell ⟨w7.heap.size, 3, none⟩ (.string (L.getD k En.zero).val)).heap[w7.heap.size]? = some (entObj ((getE (L.drop k) K s).getD En.zero)) ∧ Below w7.heap.size w7 ((((wr.setCell ⟨w7.heap.size, 0, none⟩ (.string (L.getD k En.zero).key)).setCell ⟨w7.heap.size, 1, none⟩ (.int .i64 (L.getD k En.zero).seq)).setCell ⟨w7.heap.size, 2, none⟩ (.bool (L.getD k En.zero).dead)).setCell ⟨w7.heap.size, 3, none⟩ (.string (L.getD k En.zero).val))) := by
              rw [HG.out]
              refine ⟨?_, (((HW.out.2.setCell (by simp) _).setCell (by simp) _).setCell (by simp) _).setCell (by simp) _⟩
              rw [Joins.block_setCell (Joins.block_setCell (Joins.block_setCell (Joins.block_setCell (show wr.heap[w7.heap.size]? = some (.cells _ _ _) from HW.out.1) _) _) _)]
              rfl
            have HGs : Hid ((getE (L.drop k) K s).isSome = true) := by rw [HG.out]; exact hid_rfl
            clear hh hh2 HG HD HW HEr bf
            generalize getE (L.drop (k + 1)) K s = G1 at *
            generalize L.getD k En.zero = y at *
            go_wp2
            go_roundw
            case rel => exact ⟨k, by omega, by go_num, by rw [HGs.out], HWn⟩
            case measure => simp [intOf]
          · have hf : hit K s (L.getD k En.zero) = false := by simpa using hh
            have HG : Hid (getE (L.drop k) K s = getE (L.drop (k + 1)) K s) := by show _ = _; rw [HD.out, hf]; rfl
            have HWn : Hid _ := HW.out
            rw [← HG.out] at HWn ⊢
            clear hh HG HD HW HEr
            generalize hgk : getE (L.drop k) K s = G1 at *
            have HGK : Hid (getE (L.drop k) K s = G1) := hgk
            clear hgk
            generalize L.getD k En.zero = y at *
            by_cases hkk : y.key = K
            · rw [decide_eq_true hkk] at hbk
              have hsq : decide (y.seq ≤ s) = false := by unfold hit at hf; simpa [hkk] using hf
              clear hf hkk
              go_wp2
              go_roundw
              case rel => exact ⟨k, by omega, by go_num, by rw [HGK.out], by rw [HGK.out]; exact HWn⟩
              case measure => simp [intOf]
            · rw [decide_eq_false hkk] at hbk
              clear hf hkk
              go_wp2
              go_roundw
              case rel => exact ⟨k, by omega, by go_num, by rw [HGK.out], by rw [HGK.out]; exact HWn⟩
              case measure => simp [intOf]
end Go.Proofs.Ytbbncfgiimkpnaa.Mm
