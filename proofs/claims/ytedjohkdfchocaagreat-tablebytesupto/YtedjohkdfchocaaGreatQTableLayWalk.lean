/-
  The texts TableLayWalk.
-/
import Derived.Test.YtedjohkdfchocaaGreatQTableLay
import Derived.Test.YtedjohkdfchocaaGreatQTableCutWalk

/-
  Package table: the walk of 'lay'.
-/
namespace Go.Proofs.YtedjohkdfchocaaGreat.Tb
open Go.RowKit Cm Mm Bk
open Pk (WrAt Step enc enc_len text)
open Fr (framesB str sealed)
set_option linter.unusedVariables false

def LayAns (es : List En) (e : Ending) : Prop :=
  ((∀ x ∈ pays es, x.size ≤ 65536) ∧ e = .returned (.tuple #[.string (str (framesB (pays es))), .string (str (index es (nch es))), .int .i64 0])) ∨ ((¬ ∀ x ∈ pays es, x.size ≤ 65536) ∧ e = .returned (.tuple #[.string ⟨#[]⟩, .string ⟨#[]⟩, .int .i64 2]))
theorem pt_cells {w : World} {ao : Option Addr} {ps : List Part} (h : ElemsAt ptShape w ao ps) {k : Nat} (hk : k < ps.length) : ∃ pb off, ao = some ⟨pb, off, none⟩ ∧ w.cell? ⟨pb, off + k * 5, none⟩ = some (.string ps[k].pay) ∧ w.cell? ⟨pb, off + k * 5 + 1, none⟩ = some (.string ps[k].last.key) ∧ w.cell? ⟨pb, off + k * 5 + 2, none⟩ = some (.int .i64 ps[k].last.seq) ∧
    w.cell? ⟨pb, off + k * 5 + 3, none⟩ = some (.bool ps[k].last.dead) ∧ w.cell? ⟨pb, off + k * 5 + 4, none⟩ = some (.string ps[k].last.val) := by
  rcases h with h | ⟨b, off, e, _, hc⟩
  · subst h; cases hk
  · exact ⟨b, off, e, hc k hk 0 _ rfl, hc k hk 1 _ rfl, hc k hk 2 _ rfl, hc k hk 3 _ rfl, hc k hk 4 _ rfl⟩
theorem part_box {w : World} {g : Nat} {p : Part} (h : w.heap[g]? = some (ptObj p)) : w.cell? ⟨g, 0, none⟩ = some (.string p.pay) ∧ w.cell? ⟨g, 1, none⟩ = some (.string p.last.key) ∧ w.cell? ⟨g, 2, none⟩ = some (.int .i64 p.last.seq) ∧ w.cell? ⟨g, 3, none⟩ = some (.bool p.last.dead) ∧ w.cell? ⟨g, 4, none⟩ = some (.string p.last.val) := by
  unfold ptObj at h
  refine ⟨?_, ?_, ?_, ?_, ?_⟩ <;> rw [Joins.cell_of_block h] <;> rfl
set_option maxRecDepth 100000 in
set_option maxHeartbeats 1000000 in
theorem lay_any (ao : Option Addr) (ca : Nat) (es : List En) (w : World) (hx : ElemsAt ptShape w ao (parts es)) (hs : Small es) :
    Calls Tryz.prog 15 #[.slice ao (nch es) ca] w fun e w' => LayAns es e ∧ Below w.heap.size w w' := by
  have HX : Hid (∀ X, Below w.heap.size w X → ElemsAt ptShape X ao (parts es)) := fun X hb => hx.later hb
  have hn : nch es ≤ 1000000000 := by have := hs.few; unfold nch; omega
  have HSM : Hid (Small es) := hs
  have HPL : Hid (∀ k, k ≤ nch es → place es k ≤ 20000000000000 ∧ (index es k).length ≤ 20000000000000) := fun k hk => by
    have h1 := place_len es k hk
    have h2 := index_len es k hk
    have h3 := bytes_take es (8 * k)
    have h4 := hs.all
    have h5 : k ≤ 1000000000 := by omega
    omega
  clear hx hs
  have HL0 : Hid _ := ls_new w
  unfold buObj at HL0
  go_enter Tryz.func15, Tryz.ntmps15
  go_wp2_with fail
  refine (Pk.new_any _ 0 (Nat.zero_le _)).mono ?_
  rintro e w1 ⟨rfl, rfl⟩
  obtain ⟨W2, hW2⟩ : ∃ W2, W2 = (w.alloc (.cells #[.pointer none, .slice none 0 0] 78)).alloc (.cells #[.slice none 0 0] 125) := ⟨_, rfl⟩
  rw [← hW2] at HL0
  have HZ2 : Hid (W2.heap.size = w.heap.size + 2) := by show _ = _; rw [hW2]; simp
  have hP := put_num W2 (nch es) HL0.out.wr (by omega) (by simp) (by have := HZ2.out; omega)
  rw [HZ2.out] at hP
  have HP : Hid _ := hP
  clear hP
  go_wp2_with fail
  rw [← hW2]
  refine (show Calls _ _ _ _ _ from HP.out).mono ?_
  rintro e w3 ⟨rfl, r3, hw3, hs3⟩
  have HL3 : Hid (LS w [] (index es 0) none r3 w3) := by
    have := HL0.out.wput hs3 hw3
    rwa [List.nil_append, ← index_zero] at this
  clear hw3 hs3 HP HL0 HZ2 hW2
  go_wp2
  go_loopw [20] (fun i wr => ∃ (k : Nat) (r1 r2 : Option Nat), k ≤ nch es ∧ i = .int .i64 k ∧ Hid (∀ j, j < k → (blk es j).size ≤ 65536) ∧ Hid (LS w (framesB ((List.range k).map (blk es))) (index es k) r1 r2 wr)) (fun i _ => nch es - (intOf i).toNat)
  case atStart => exact ⟨0, none, r3, by omega, rfl, (fun j hj => by omega), by simpa [Hid, framesB] using HL3.out⟩
  case round =>
    obtain ⟨k, r1, r2, hk, rfl, HJ, HL⟩ := hrel
    by_cases hlt : k < nch es
    · have hkp : k < (parts es).length := by simp [parts]; exact hlt
      obtain ⟨pb, off, rfl, c0, c1, c2, c3, c4⟩ := pt_cells (HX.out wr HL.out.bel) hkp
      have hpk : (parts es)[k] = part es k := by simp [parts]
      rw [hpk] at c0 c1 c2 c3 c4
      have HQ : Hid (∀ X, Below wr.heap.size wr X → X.heap[wr.heap.size]? = some (ptObj (part es k)) → LS w (framesB ((List.range k).map (blk es))) (index es k) r1 r2 X ∧ X.cell? ⟨wr.heap.size, 0, none⟩ = some (.string (blk es k)) ∧ X.cell? ⟨wr.heap.size, 1, none⟩ = some (.string (lastE es k).key)) := fun X hX hb => ⟨HL.out.later hX, (part_box hb).1, (part_box hb).2.1⟩
      have HW : Hid (∀ X, X = wr.alloc (ptObj (part es k)) → Below wr.heap.size wr X ∧ X.heap[wr.heap.size]? = some (ptObj (part es k)) ∧ X.heap.size = wr.heap.size + 1) := fun X hX => by subst hX; exact ⟨(Below.refl _ _).alloc (Nat.le_refl _) _, heap_alloc_new _ _, by simp⟩
      have HKY : Hid ((lastE es k).key = lastK es k) := rfl
      have HSZ : Hid ((blk es k).size ≤ 100000000000000 ∧ (lastK es k).size ≤ 1000000000000) := by
        have h1 := (HSM.out.chunk k).all
        have h2 := (HSM.out.chunk k).each ((chunk es k).length - 1)
        exact ⟨by unfold blk; rw [Fr.str_size]; exact h1, h2.1⟩
      have hk0 : (0 : Int) ≤ (k : Int) := by omega
      have hk1 : (k : Int) < (nch es : Int) := by omega
      have HPK := HPL.out k (by omega)
      have HPK1 := HPL.out (k + 1) (by omega)
      have HPK' : Hid _ := And.intro HPK HPK1
      have HNL : Hid _ := index_succ es k
      have HBL : Hid _ := range_blk es k
      have HJN : Hid ((blk es k).size ≤ 65536 → ∀ j, j < k + 1 → (blk es j).size ≤ 65536) := fun h j hj => by
        rcases Nat.lt_or_ge j k with h1 | h1
        · exact HJ.out j h1
        · obtain rfl : j = k := by omega
          exact h
      have HNO : Hid (¬ (blk es k).size ≤ 65536 → ¬ ∀ x ∈ pays es, x.size ≤ 65536) := fun h q => h (q _ (List.mem_map.2 ⟨k, by simpa using hlt, rfl⟩))
      clear HPK HPK1 HX hpk hkp HSM
      unfold ptObj part at HQ HW
      unfold part at c0 c1 c2 c3 c4
      obtain ⟨X1, hX1⟩ : ∃ X1, X1 = wr.alloc (.cells #[.string (blk es k), .string (lastE es k).key, .int .i64 (lastE es k).seq, .bool (lastE es k).dead, .string (lastE es k).val] 74) := ⟨_, rfl⟩
      obtain ⟨q1, q2, q3⟩ := HW.out X1 hX1
      obtain ⟨q4, q5, q6⟩ := HQ.out X1 q1 q2
      have HS1 := Fr.seal_one (blk es k) X1 (by have := HSZ.out.1; omega)
      rw [q3] at HS1
      have HX1 : Hid (Below wr.heap.size wr X1 ∧ X1.heap[wr.heap.size]? = some (.cells #[.string (blk es k), .string (lastE es k).key, .int .i64 (lastE es k).seq, .bool (lastE es k).dead, .string (lastE es k).val] 74 (0, 0)) ∧ X1.heap.size = wr.heap.size + 1) := ⟨q1, q2, q3⟩
      have HB1 : Hid (Below w.heap.size w X1) := q4.bel
      rw [hX1] at q5 q6
      simp only at c0 c1 c2 c3 c4
      generalize lastE es k = y at *
      clear q1 q2 q3 q4 HW
      by_cases hsm : (blk es k).size ≤ 65536
      · have HSL : Hid (sealed [blk es k] = .tuple #[.string (str (framesB [blk es k])), .int .i64 0]) := Fr.sealed_ok (by simpa using hsm)
        rw [HSL.out] at HS1
        have HJ1 : Hid _ := HJN.out hsm
        clear HJN HNO hsm HSL HJ
        have HS1' : Hid _ := HS1
        clear HS1
        go_wp2_with fail
        rw [← hX1]
        refine (show Calls _ _ _ _ _ from HS1'.out).mono ?_
        rintro e X2 ⟨rfl, hb2⟩
        have hb2' : Below wr.heap.size wr X2 := HX1.out.1.trans (hb2.mono (by have := HX1.out.2.2; omega))
        obtain ⟨hl2, _, d1⟩ := HQ.out X2 hb2' ((hb2.block _ (by have := HX1.out.2.2; omega)).trans HX1.out.2.1)
        have HL2 : Hid _ := hl2
        have HT : Hid _ := put_text X2 y.key hl2.wr (by have := HPK'.out; have := HSZ.out.2; have := HKY.out; rw [this]; omega) hl2.bel.size
        clear hl2 hb2 hb2' HQ HS1' HX1 HB1 hX1 q5 q6 c0 c1 c2 c3 c4 HL
        go_wp2_with fail
        refine (show Calls _ _ _ _ _ from HT.out).mono ?_
        rintro e X3 ⟨rfl, r4, hw4, hs4⟩
        have hl3 := HL2.out.wput hs4 hw4
        have HL3' : Hid _ := hl3
        have HLen : Hid _ := len_any w.heap.size w.heap.size r1 _ X3 hl3.bu
        have HN : Hid _ := put_num X3 (place es k) hl3.wr (by have := HPK'.out; omega) (by
          have h1 := HPK'.out
          have h2 := (text_len (bs y.key)).1
          have h3 := HSZ.out.2
          have h4 := HKY.out
          have h5 : y.key.size = (lastK es k).size := by rw [h4]
          rw [bs_len] at h2
          rw [List.length_append]
          omega) hl3.bel.size
        have hpl : (framesB ((List.range k).map (blk es))).length = place es k := rfl
        rw [hpl] at HLen
        have hpb : place es k ≤ 20000000000000 := HPK'.out.1.1
        clear hl3 hw4 hs4 HT HL2 hpl d1
        go_wp2_with (go_at_call 40; refine (show Calls _ _ _ _ _ from HLen.out).mono ?_; rintro e X3' ⟨rfl, rfl⟩)
        refine (show Calls _ _ _ _ _ from HN.out).mono ?_
        rintro e X4 ⟨rfl, r5, hw5, hs5⟩
        have hl4 := HL3'.out.wput hs5 hw5
        have HL4 : Hid _ := hl4
        have HWr : Hid _ := write_any w.heap.size w.heap.size r1 _ (str (framesB [blk es k])) X4 hl4.bu (by
          have h1 := HPK'.out
          have h2 : place es (k + 1) = place es k + (framesB [blk es k]).length := by
            unfold place
            rw [HBL.out, framesB_snoc1, List.length_append]
          have h3 : (framesB ((List.range k).map (blk es))).length = place es k := rfl
          rw [h3, Fr.str_size]
          omega) hl4.bel.size
        clear hl4 hw5 hs5 HN HL3' HLen
        go_wp2_with fail
        refine (show Calls _ _ _ _ _ from HWr.out).mono ?_
        rintro e X5 ⟨rfl, r6, hb6, hs6⟩
        have HL5 : Hid (LS w (framesB ((List.range (k + 1)).map (blk es))) (index es (k + 1)) r6 r5 X5) := by
          have h := HL4.out.bput hs6 hb6
          show LS w _ _ _ _ _
          rw [HBL.out, framesB_snoc1, HNL.out, ← HKY.out]
          rw [Fr.str_data] at h
          exact h
        clear hb6 hs6 HWr HL4
        go_wp2
        go_roundw
        case rel => exact ⟨k + 1, r6, r5, by omega, by go_num, HJ1, HL5⟩
        case measure => simp [intOf]; omega
      · have HSL : Hid (sealed [blk es k] = .tuple #[.string ⟨#[]⟩, .int .i64 2]) := Fr.sealed_long (by simpa using hsm)
        rw [HSL.out] at HS1
        have HN1 : Hid _ := HNO.out hsm
        clear HJN HNO hsm HSL HJ
        have HS1' : Hid _ := HS1
        clear HS1
        go_wp2_with fail
        rw [← hX1]
        refine (show Calls _ _ _ _ _ from HS1'.out).mono ?_
        rintro e X2 ⟨rfl, hb2⟩
        have HB2 : Hid (Below w.heap.size w X2) := HB1.out.trans (hb2.mono (by have h1 := HB1.out.size; have h2 := HX1.out.2.2; omega))
        clear hb2 HQ HS1' HX1 HB1 hX1 q5 q6 c0 c1 c2 c3 c4 HL
        go_wp2
        refine bodyPost_ret (v := .tuple #[.string ⟨#[]⟩, .string ⟨#[]⟩, .int .i64 2]) (by simp [results, Tryz.results15, go_sem]) rfl ?_
        exact ⟨.inr ⟨HN1.out, rfl⟩, HB2.out⟩
    · obtain rfl : k = nch es := by omega
      have HALL : Hid (∀ x ∈ pays es, x.size ≤ 65536) := fun x hx => by
        obtain ⟨j, hj, rfl⟩ := List.mem_map.1 hx
        exact HJ.out j (by simpa using hj)
      have hpb := (HPL.out (nch es) (Nat.le_refl _)).1
      have HST : Hid _ := string_any w.heap.size w.heap.size r1 _ wr HL.out.bu (by have h3 : (framesB ((List.range (nch es)).map (blk es))).length = place es (nch es) := rfl; rw [h3]; omega)
      clear HJ HX HSM HPL HL3 hpb
      go_wp2_with fail
      refine (show Calls _ _ _ _ _ from HST.out).mono ?_
      rintro e X2 ⟨rfl, hr2⟩
      obtain ⟨hw2, hb2⟩ := HL.out.drop hr2
      have HBY : Hid _ := Pk.wBytes_any w.heap.size (w.heap.size + 1) r2 _ X2 hw2
      have HB2 : Hid _ := hb2
      clear hr2 hw2 hb2 HST HL
      go_wp2_with fail
      refine (show Calls _ _ _ _ _ from HBY.out).mono ?_
      rintro e X3 ⟨rfl, rfl⟩
      clear HBY
      go_wp2
      refine bodyPost_ret (v := .tuple #[.string (str (framesB (pays es))), .string (str (index es (nch es))), .int .i64 0]) (by simp [results, Tryz.results15, go_sem]; exact ⟨rfl, rfl⟩) rfl ?_
      exact ⟨.inl ⟨HALL.out, rfl⟩, HB2.out⟩
end Go.Proofs.YtedjohkdfchocaaGreat.Tb
