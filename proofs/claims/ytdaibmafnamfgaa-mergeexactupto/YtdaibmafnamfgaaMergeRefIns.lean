/-
  The document's answer for layer 10: a version put into its place, a merge.
-/
import Derived.Test.YtdaibmafnamfgaaMergeLies
namespace Go.Proofs.Ytdaibmafnamfgaa.Mg
open Go.RowKit Go.Shelf Cm Mm
set_option linter.unusedVariables false

theorem ins_at {l : List En} {x : En} (hs : Sorted l) {k : Nat} (hk : k ≤ l.length) (hb : ∀ j, k ≤ j → j < l.length → less x (l.getD j En.zero) = true) (hl : 0 < k → less x (l.getD (k - 1) En.zero) = false) :
    ins l x = if 0 < k ∧ hit x.key x.seq (l.getD (k - 1) En.zero) = true then l else l.take k ++ x :: l.drop k := by
  split
  · rename_i h
    unfold ins
    rw [if_pos]
    rw [List.any_eq_true]
    exact ⟨_, by rw [getD_eq (by omega)]; exact List.getElem_mem _, h.2⟩
  · rename_i h
    have hf : ∀ j, j < k → less (l.getD j En.zero) x = true := fun j hj => by
      have h0 := hl (by omega)
      have h1 : less (l.getD (k - 1) En.zero) x = true := by
        cases h2 : less (l.getD (k - 1) En.zero) x
        · obtain ⟨q1, q2⟩ := tri h2 h0
          exact absurd ⟨by omega, hit_iff.2 ⟨q1, q2⟩⟩ h
        · rfl
      by_cases hjk : j = k - 1
      · rw [hjk]; exact h1
      · have h2 : less (l.getD j En.zero) (l.getD (k - 1) En.zero) = true := by
          rw [getD_eq (by omega), getD_eq (by omega)]
          exact (List.pairwise_iff_getElem.1 hs) _ _ _ _ (by omega)
        exact less_trans h2 h1
    have hn : ¬ l.any (hit x.key x.seq) = true := by
      intro ha
      obtain ⟨e, he, h2⟩ := List.any_eq_true.1 ha
      obtain ⟨j, hj, rfl⟩ := List.getElem_of_mem he
      rw [← getD_eq hj] at h2
      by_cases hjk : j < k
      · rw [less_not_hit' (hf j hjk)] at h2; cases h2
      · rw [less_not_hit (hb j (by omega) hj)] at h2; cases h2
    unfold ins
    rw [if_neg hn]
    have hw := while_stop (p := fun e => e.ahead x.key x.seq) (xs := l) hk (fun e he => by
      obtain ⟨j, hj, rfl⟩ := List.getElem_of_mem he
      rw [List.length_take] at hj
      rw [List.getElem_take, ← getD_eq (by omega)]
      exact hf j (by omega)) (fun hkl => by
        have := less_asymm (hb k (Nat.le_refl _) hkl)
        exact this)
    unfold pre post
    rw [hw.1, hw.2]
/-- A row is answered, its blocks from B on. -/
def IAns (w : World) (B : Nat) (L : List En) (e : Ending) (w' : World) : Prop := ∃ v, e = .returned v ∧ OwnE w' B v L ∧ Below w.heap.size w w'
theorem OwnE.later {w w' : World} {B : Nat} {v : Value} {L : List En} (h : OwnE w B v L) (hb : Below w.heap.size w w') : OwnE w' B v L :=
  rows_keep h fun j hj => hb.block j (World.ownsRow.lt h j hj).2

theorem ins_nil (x : En) : ins [] x = [x] := rfl
set_option maxRecDepth 100000 in
set_option maxHeartbeats 1000000 in
theorem insert_nil (x : En) (B : Nat) (w : World) (hB : B ≤ w.heap.size) : Calls Try.prog 30 #[.slice none 0 0, env x] w (IAns w B [x]) := by
  obtain ⟨i0, hi, hz0, hz1, hz2⟩ := info_parts infoEn
  have HW1 : Hid (Below w.heap.size w (w.alloc (entObj x))) := (Below.refl _ _).alloc (Nat.le_refl _) _
  have HBX : Hid (∀ X, Below (w.alloc (entObj x)).heap.size (w.alloc (entObj x)) X → X.heap[w.heap.size]? = some (entObj x)) := fun X hX => (hX.block _ (by simp)).trans (heap_alloc_new w _)
  have HWX : Hid (∀ X, Below (w.alloc (entObj x)).heap.size (w.alloc (entObj x)) X → Below w.heap.size w X) := fun X hX => HW1.out.trans (hX.mono HW1.out.size)
  generalize hw1 : w.alloc (entObj x) = w1 at *
  have HW1q : Hid _ := hw1
  clear hw1
  unfold entObj at HW1q
  unfold env
  go_enter Try.func30, Try.ntmps30
  go_wp2_with fail
  rw [HW1q.out]
  go_wp2
  refine wp_loop_rounds 1 ?_
  rw [rounds_succ]
  go_wp2_with fail
  go_quiet (fail)
  have HB1 : Hid (Below w1.heap.size w1 (w1.drewN nq)) := below_drewN (Below.refl _ _)
  generalize w1.drewN nq = X1 at *
  go_wp2_with fail
  go_quiet (fail)
  have HB2 : Hid (Below w1.heap.size w1 (X1.drewN nq)) := below_drewN HB1.out
  clear HB1
  generalize X1.drewN nq = wr at *
  go_wp2_with (at_builtin; refine wpList_append_rows (F := enShape) _ rfl _ _ 22 rfl wr.heap.size 28 i0 _ 48 Try.underlying22 hi hz0 hz1 hz2 rfl (.slice none 0 0) 0 [] rfl (World.ownsRow_nil _ _ _ _) none 0 0 [] rfl (fun _ => rfl) rfl (.inl rfl) ?a1 ?a2 (Nat.le_refl _) ?_)
  case a1 => unfold maxLen; omega
  case a2 => omega
  intro v1 w2 hown1 hgrow1 hat1
  have HB3 : Hid (Below wr.heap.size wr w2) := (Below.refl _ wr).grown hgrow1 (Nat.le_refl _) (fun k hk => by simp [Value.ownBlock] at hk)
  have HO1 : Hid (w2.ownsRow wr.heap.size 28 4 v1 0 (enShape.vals [])) := hown1
  have HB12 : Hid (Below w1.heap.size w1 w2) := HB2.out.trans (HB3.out.mono HB2.out.size)
  obtain ⟨b0, b1, b2, b3, _⟩ := ent_cells (HBX.out w2 HB12.out)
  have helm : ElemsAt enShape (w2.alloc (entObj x)) (some ⟨w2.heap.size, 0, none⟩) [x] := elems1 x
  unfold entObj at helm
  have hs2 := HB3.out.size
  clear hown1 hgrow1 hat1
  go_wp2_with (at_builtin; refine wpList_append_rows (F := enShape) _ rfl _ _ 22 rfl wr.heap.size 28 i0 _ 48 Try.underlying22 hi hz0 hz1 hz2 rfl v1 0 [] rfl (World.ownsRow.alloc HO1.out _) (some ⟨w2.heap.size, 0, none⟩) 1 1 [x] rfl (by simp) rfl helm ?b1 ?b2 ?b3 ?_)
  case b1 => unfold maxLen; omega
  case b2 => omega
  case b3 => simp; omega
  intro v2 w3 hown2 hgrow2 hat2
  have HB4 : Hid (Below wr.heap.size wr w3) := (HB3.out.alloc hs2 _).grown hgrow2 (by simp; omega) (fun k hk => (World.ownsRow.lt HO1.out k hk).1)
  have HO2 : Hid (w3.ownsRow wr.heap.size 28 4 v2 1 (enShape.vals [x])) := by first | exact hown2 | simpa using hown2
  clear hown2 hgrow2 hat2 HO1 helm b0 b1 b2 b3
  go_wp2_with (at_builtin; refine wpList_append_rows (F := enShape) _ rfl _ _ 22 rfl wr.heap.size 28 i0 _ 48 Try.underlying22 hi hz0 hz1 hz2 rfl v2 1 [x] rfl HO2.out none 0 0 [] rfl (fun _ => rfl) rfl (.inl rfl) ?d1 ?d2 ?d3 ?_)
  case d1 => unfold maxLen; omega
  case d2 => omega
  case d3 => exact HB4.out.size
  intro v3 w4 hown3 hgrow3 hat3
  have HB5 : Hid (Below w.heap.size w w4) := HWX.out _ (HB2.out.trans ((HB4.out.grown hgrow3 HB4.out.size (fun k hk => (World.ownsRow.lt HO2.out k hk).1)).mono HB2.out.size))
  have HOF : Hid (OwnE w4 B v3 [x]) := by
    have h1 := own_base hown3 (show B ≤ wr.heap.size from Nat.le_trans hB (HWX.out _ HB2.out).size)
    first | exact h1 | simpa using h1
  clear hown3 hgrow3 hat3 HO2
  go_wp2
  go_ret
  exact ⟨_, rfl, HOF.out, HB5.out⟩
set_option maxRecDepth 100000 in
set_option maxHeartbeats 2000000 in
theorem insert_row (g c : Nat) (l : List En) (x : En) (B : Nat) (w : World) (hO : OwnE w B (.slice (some ⟨g, 0, none⟩) l.length c) l) (hs : Sorted l) (hB : B ≤ w.heap.size) (hl : l.length ≤ 100000000000) :
    Calls Try.prog 30 #[.slice (some ⟨g, 0, none⟩) l.length c, env x] w (IAns w B (ins l x)) := by
  obtain ⟨i0, hi, hz0, hz1, hz2⟩ := info_parts infoEn
  obtain ⟨ao, c', e1, hn, hx, hc, hc63⟩ := own_lens hO
  cases e1
  obtain ⟨pb, off, hpo⟩ : ∃ pb off, (⟨g, 0, none⟩ : Addr) = ⟨pb, off, none⟩ := ⟨g, 0, rfl⟩
  rw [hpo] at hO hx hn ⊢
  clear hpo
  obtain ⟨m, hm⟩ : ∃ m, m = l.length := ⟨_, rfl⟩
  have HM : Hid _ := hm
  have HX : Hid (∀ X, Below w.heap.size w X → ElemsAt enShape X (some ⟨pb, off, none⟩) l) := fun X hX => hx.later hX
  have HOW : Hid (∀ X, Below w.heap.size w X → OwnE X B (.slice (some ⟨pb, off, none⟩) l.length c) l) := fun X hX => hO.later hX
  rw [← hm] at hc hl HOW ⊢
  have HI : Hid (∀ k, k ≤ m → (∀ j, k ≤ j → j < m → less x (l.getD j En.zero) = true) → (0 < k → less x (l.getD (k - 1) En.zero) = false) → ins l x = if 0 < k ∧ hit x.key x.seq (l.getD (k - 1) En.zero) = true then l else l.take k ++ x :: l.drop k) := fun k h1 h2 h3 => ins_at hs (by omega) (by rw [← hm]; exact h2) h3
  have HW1 : Hid (Below w.heap.size w (w.alloc (entObj x))) := (Below.refl _ _).alloc (Nat.le_refl _) _
  have HBX : Hid (∀ X, Below (w.alloc (entObj x)).heap.size (w.alloc (entObj x)) X → X.heap[w.heap.size]? = some (entObj x)) := fun X hX => (hX.block _ (by simp)).trans (heap_alloc_new w _)
  have HWX : Hid (∀ X, Below (w.alloc (entObj x)).heap.size (w.alloc (entObj x)) X → Below w.heap.size w X) := fun X hX => HW1.out.trans (hX.mono HW1.out.size)
  clear hO hs hx hn hm
  generalize hw1 : w.alloc (entObj x) = w1 at *
  have HW1q : Hid _ := hw1
  clear hw1
  unfold entObj at HW1q
  unfold env
  go_enter Try.func30, Try.ntmps30
  go_wp2_with fail
  rw [HW1q.out]
  go_wp2
  go_loopw [5] (fun vk wr => ∃ k : Nat, vk = .int .i64 k ∧ k ≤ m ∧ Hid (∀ j, k ≤ j → j < m → less x (l.getD j En.zero) = true) ∧ Hid (Below w1.heap.size w1 wr)) (fun vk _ => (intOf vk).toNat)
  case atStart => exact ⟨m, rfl, Nat.le_refl _, fun j h1 h2 => by omega, Below.refl _ _⟩
  case round =>
    obtain ⟨k, rfl, hk, HJ, HB⟩ := hrel
    by_cases hk0 : 0 < k
    · obtain ⟨k', hk'⟩ : ∃ k', k' + 1 = k := ⟨k - 1, by omega⟩
      have hkl : k' < l.length := by have := HM.out; omega
      have he := fun X (hX : Below w1.heap.size w1 X) => (show (X.cell? ⟨w.heap.size, 0, none⟩ = some (.string x.key) ∧ X.cell? ⟨w.heap.size, 1, none⟩ = some (.int .i64 x.seq) ∧ X.cell? ⟨w.heap.size, 2, none⟩ = some (.bool x.dead) ∧ X.cell? ⟨w.heap.size, 3, none⟩ = some (.string x.val)) ∧ ∃ pb2 off2, some (⟨pb, off, none⟩ : Addr) = some ⟨pb2, off2, none⟩ ∧ X.cell? ⟨pb2, off2 + k' * 4, none⟩ = some (.string (l.getD k' En.zero).key) ∧ X.cell? ⟨pb2, off2 + k' * 4 + 1, none⟩ = some (.int .i64 (l.getD k' En.zero).seq) ∧ X.cell? ⟨pb2, off2 + k' * 4 + 2, none⟩ = some (.bool (l.getD k' En.zero).dead) ∧ X.cell? ⟨pb2, off2 + k' * 4 + 3, none⟩ = some (.string (l.getD k' En.zero).val) from by
        obtain ⟨b0, b1, b2, b3, _⟩ := ent_cells (HBX.out X hX)
        exact ⟨⟨b0, b1, b2, b3⟩, elem_cells (HX.out X (HWX.out X hX)) (k := k') hkl⟩)
      obtain ⟨⟨b0, b1, b2, b3⟩, _, _, e1, c0, c1, c2, c3⟩ := he wr HB.out
      cases e1
      have HK : Hid (∀ X, Below w1.heap.size w1 X → (X.cell? ⟨w.heap.size, 0, none⟩ = some (.string x.key) ∧ X.cell? ⟨w.heap.size, 1, none⟩ = some (.int .i64 x.seq) ∧ X.cell? ⟨w.heap.size, 2, none⟩ = some (.bool x.dead) ∧ X.cell? ⟨w.heap.size, 3, none⟩ = some (.string x.val) ∧ X.cell? ⟨pb, off + k' * 4, none⟩ = some (.string (l.getD k' En.zero).key) ∧ X.cell? ⟨pb, off + k' * 4 + 1, none⟩ = some (.int .i64 (l.getD k' En.zero).seq) ∧ X.cell? ⟨pb, off + k' * 4 + 2, none⟩ = some (.bool (l.getD k' En.zero).dead) ∧ X.cell? ⟨pb, off + k' * 4 + 3, none⟩ = some (.string (l.getD k' En.zero).val))) := fun X hX => by
        obtain ⟨⟨b0, b1, b2, b3⟩, _, _, e1, c0, c1, c2, c3⟩ := he X hX
        cases e1
        exact ⟨b0, b1, b2, b3, c0, c1, c2, c3⟩
      have HLs : Hid (∀ wq, _) := fun wq => less_any x (l.getD k' En.zero) wq
      unfold env at HLs
      have HBd : Hid (∀ wq, Below wr.drew.heap.size wr.drew wq → Below w1.heap.size w1 wq) := fun wq h => HB.out.trans (((Below.refl _ _).drew.trans h).mono HB.out.size)
      have hkb : (0 : Int) < (k : Int) := by omega
      have hkb2 : decide (0 < k) = true := decide_eq_true hk0
      have hkb3 : decide ((0 : Int) < (k : Int)) = true := decide_eq_true hkb
      have wk : IntKind.i64.wrap ((k : Int) - 1) = (k' : Int) := wrap_nat (by omega) (by omega)
      have hk'1 : (k' : Int) < (m : Int) := by omega
      have hk'0 : (0 : Int) ≤ (k' : Int) := by omega
      have ek : k - 1 = k' := by omega
      have HK' : Hid _ := hk'
      have HIN : Hid (less x (l.getD k' En.zero) = false → ins l x = if hit x.key x.seq (l.getD k' En.zero) = true then l else l.take k ++ x :: l.drop k) := fun h => by
        rw [HI.out k hk HJ.out (fun _ => by rw [ek]; exact h), ek]
        by_cases hh : hit x.key x.seq (l.getD k' En.zero) = true
        · rw [if_pos ⟨hk0, hh⟩, if_pos hh]
        · rw [if_neg (fun h => hh h.2), if_neg hh]
      have HJ2 : Hid (less x (l.getD k' En.zero) = true → ∀ j, k' ≤ j → j < m → less x (l.getD j En.zero) = true) := fun h j h1 h2 => by
        by_cases e : j = k'
        · rw [e]; exact h
        · exact HJ.out j (by omega) h2
      clear he hk' ek HI hk0 HJ hkl
      generalize l.getD k' En.zero = y at *
      cases hxy : less x y
      · have HIN2 : Hid _ := HIN.out hxy
        rw [hxy] at HLs
        clear hxy HIN HJ2
        go_wp2_with fail
        go_region_held3 (fun w' => w'.cell? ⟨w.heap.size, 0, none⟩ = some (.string x.key) ∧ w'.cell? ⟨w.heap.size, 1, none⟩ = some (.int .i64 x.seq) ∧ w'.cell? ⟨w.heap.size, 2, none⟩ = some (.bool x.dead) ∧ w'.cell? ⟨w.heap.size, 3, none⟩ = some (.string x.val) ∧ w'.cell? ⟨pb, off + k' * 4, none⟩ = some (.string y.key) ∧ w'.cell? ⟨pb, off + k' * 4 + 1, none⟩ = some (.int .i64 y.seq) ∧ w'.cell? ⟨pb, off + k' * 4 + 2, none⟩ = some (.bool y.dead) ∧ w'.cell? ⟨pb, off + k' * 4 + 3, none⟩ = some (.string y.val)) (first | with_reducible exact ⟨b0, b1, b2, b3, c0, c1, c2, c3⟩ | exact ⟨b0, b1, b2, b3, c0, c1, c2, c3⟩ | exact HK.out _ hbq)
          ((go_at_call 39; refine (show Calls _ _ _ _ _ from HLs.out _).mono ?_; rintro e w2 ⟨rfl, hb2⟩; have hbq := HBd.out w2 hb2))
        have HBq : Hid _ := hbq
        clear hb2 hbq HBd HLs c0 c1 c2 c3 b0 b1 b2 b3 HB
        generalize w2 = wr at *
        obtain ⟨b0, b1, b2, b3, c0, c1, c2, c3⟩ := HK.out wr HBq.out
        have HB : Hid (Below w1.heap.size w1 wr) := HBq.out
        have hbk := beq_toList y.key x.key
        by_cases hke : y.key = x.key
        · rw [decide_eq_true hke] at hbk
          by_cases hse : y.seq = x.seq
          · have hsb : (y.seq == x.seq) = true := by simpa using hse
            have HF : Hid (ins l x = l) := by rw [HIN2.out, if_pos (hit_iff.2 ⟨hke, hse⟩)]; exact hid_rfl
            have HOF : Hid (OwnE wr B (.slice (some ⟨pb, off, none⟩) m c) (ins l x)) := by rw [HF.out]; exact HOW.out wr (HWX.out wr HB.out)
            have HBF : Hid (Below w.heap.size w wr) := HWX.out wr HB.out
            clear hke hse HIN2 HOW
            go_wp2_with fail
            go_quiet (fail)
            go_wp2
            go_ret
            exact ⟨_, rfl, rows_keep HOF.out (fun _ _ => rfl), below_drewN HBF.out⟩
          · have hsb : (y.seq == x.seq) = false := by simpa using hse
            have HPUT : Hid (ins l x = l.take k ++ x :: l.drop k) := by rw [HIN2.out, if_neg (fun h => hse (hit_iff.1 h).2)]; exact hid_rfl
            clear hke hse HIN2 HOW
            go_wp2_with fail
            go_quiet (fail)
            clear b0 b1 b2 b3 c0 c1 c2 c3
            have HBz : Hid (Below w1.heap.size w1 (wr.drewN nq)) := below_drewN HB.out
            clear HB
            generalize wr.drewN nq = wr at *
            have HB : Hid (Below w1.heap.size w1 wr) := HBz.out
            clear HBz
            have hkc : k ≤ c := by omega
            by_cases hck : c = k
            · obtain rfl : k = c := hck.symm
              obtain rfl : k = m := by omega
              have hts := HX.out _ (HWX.out _ HB.out)
              have htk := elems_take hts k
              have htl : (l.take k).length = k := by rw [List.length_take]; have := HM.out; omega
              have HPUT2 : Hid (ins l x = l.take k ++ [x] ++ l.drop k) := by rw [HPUT.out]; show _ = _; simp
              clear HPUT hts
              go_wp2_with (at_builtin; refine wpList_append_rows (F := enShape) _ rfl _ _ 22 rfl wr.heap.size 28 i0 _ 48 Try.underlying22 hi hz0 hz1 hz2 rfl (.slice none 0 0) 0 [] rfl (World.ownsRow_nil _ _ _ _) (some ⟨pb, off, none⟩) k k (l.take k) rfl (fun e => by cases e) htl htk ?a1 ?a2 (Nat.le_refl _) ?_)
              case a1 => unfold maxLen; omega
              case a2 => omega
              intro v1 w2 hown1 hgrow1 hat1
              have HB2 : Hid (Below wr.heap.size wr w2) := (Below.refl _ wr).grown hgrow1 (Nat.le_refl _) (fun k hk => by simp [Value.ownBlock] at hk)
              have HO1 : Hid (w2.ownsRow wr.heap.size 28 4 v1 k (enShape.vals (l.take k))) := by first | exact hown1 | simpa using hown1
              have HB12 : Hid (Below w1.heap.size w1 w2) := HB.out.trans (HB2.out.mono HB.out.size)
              obtain ⟨b0, b1, b2, b3, _⟩ := ent_cells (HBX.out w2 HB12.out)
              have helm : ElemsAt enShape (w2.alloc (entObj x)) (some ⟨w2.heap.size, 0, none⟩) [x] := elems1 x
              unfold entObj at helm
              have hs2 := HB2.out.size
              clear hown1 hgrow1 hat1 htl htk
              go_wp2_with (at_builtin; refine wpList_append_rows (F := enShape) _ rfl _ _ 22 rfl wr.heap.size 28 i0 _ 48 Try.underlying22 hi hz0 hz1 hz2 rfl v1 k (l.take k) rfl (World.ownsRow.alloc HO1.out _) (some ⟨w2.heap.size, 0, none⟩) 1 1 [x] rfl (by simp) rfl helm ?b1 ?b2 ?b3 ?_)
              case b1 => unfold maxLen; omega
              case b2 => omega
              case b3 => simp; omega
              intro v2 w3 hown2 hgrow2 hat2
              have HB3 : Hid (Below wr.heap.size wr w3) := (HB2.out.alloc hs2 _).grown hgrow2 (by simp; omega) (fun k hk => (World.ownsRow.lt HO1.out k hk).1)
              have HO2 : Hid (w3.ownsRow wr.heap.size 28 4 v2 (k + 1) (enShape.vals (l.take k ++ [x]))) := by first | exact hown2 | simpa using hown2
              have HB13 : Hid (Below w1.heap.size w1 w3) := HB.out.trans (HB3.out.mono HB.out.size)
              have hd0 : l.drop k = [] := List.drop_eq_nil_of_le (by have := HM.out; omega)
              have hdr : ElemsAt enShape w3 (some ⟨pb, off, none⟩) (l.drop k) := .inl hd0
              have hdl : (l.drop k).length = 0 := by rw [hd0]; rfl
              clear hown2 hgrow2 hat2 HO1 helm b0 b1 b2 b3
              go_wp2_with (at_builtin; refine wpList_append_rows (F := enShape) _ rfl _ _ 22 rfl wr.heap.size 28 i0 _ 48 Try.underlying22 hi hz0 hz1 hz2 rfl v2 (k + 1) (l.take k ++ [x]) rfl HO2.out (some ⟨pb, off, none⟩) 0 0 (l.drop k) rfl (fun e => by cases e) hdl hdr ?d1 ?d2 ?d3 ?_)
              case d1 => unfold maxLen; omega
              case d2 => omega
              case d3 => exact HB3.out.size
              intro v3 w4 hown3 hgrow3 hat3
              have HB4 : Hid (Below w.heap.size w w4) := HWX.out _ (HB.out.trans ((HB3.out.grown hgrow3 HB3.out.size (fun k hk => (World.ownsRow.lt HO2.out k hk).1)).mono HB.out.size))
              have HOF : Hid (OwnE w4 B v3 (ins l x)) := by
                rw [HPUT2.out]
                have hlen : (l.take k ++ [x] ++ l.drop k).length = k + 1 + 0 := by rw [List.length_append, List.length_append, hdl, List.length_take]; have := HM.out; simp; omega
                have h1 := own_base hown3 (show B ≤ wr.heap.size from Nat.le_trans hB (HWX.out _ HB.out).size)
                show w4.ownsRow B 28 4 v3 _ _
                rw [hlen]
                rw [hd0, List.append_nil]; exact h1
              clear hown3 hgrow3 hat3 HO2 hdr hdl HPUT2
              go_wp2
              go_ret
              exact ⟨_, rfl, HOF.out, HB4.out⟩
            · have hck2 : ¬ k = c := fun e => hck e.symm
              have hts := HX.out _ (HWX.out _ HB.out)
              have htk := elems_take hts k
              have htl : (l.take k).length = k := by rw [List.length_take]; have := HM.out; omega
              have HPUT2 : Hid (ins l x = l.take k ++ [x] ++ l.drop k) := by rw [HPUT.out]; show _ = _; simp
              clear HPUT hts
              go_wp2_with (at_builtin; refine wpList_append_rows (F := enShape) _ rfl _ _ 22 rfl wr.heap.size 28 i0 _ 48 Try.underlying22 hi hz0 hz1 hz2 rfl (.slice none 0 0) 0 [] rfl (World.ownsRow_nil _ _ _ _) (some ⟨pb, off, none⟩) k c (l.take k) rfl (fun e => by cases e) htl htk ?a1 ?a2 (Nat.le_refl _) ?_)
              case a1 => unfold maxLen; omega
              case a2 => omega
              intro v1 w2 hown1 hgrow1 hat1
              have HB2 : Hid (Below wr.heap.size wr w2) := (Below.refl _ wr).grown hgrow1 (Nat.le_refl _) (fun k hk => by simp [Value.ownBlock] at hk)
              have HO1 : Hid (w2.ownsRow wr.heap.size 28 4 v1 k (enShape.vals (l.take k))) := by first | exact hown1 | simpa using hown1
              have HB12 : Hid (Below w1.heap.size w1 w2) := HB.out.trans (HB2.out.mono HB.out.size)
              obtain ⟨b0, b1, b2, b3, _⟩ := ent_cells (HBX.out w2 HB12.out)
              have helm : ElemsAt enShape (w2.alloc (entObj x)) (some ⟨w2.heap.size, 0, none⟩) [x] := elems1 x
              unfold entObj at helm
              have hs2 := HB2.out.size
              clear hown1 hgrow1 hat1 htl htk
              go_wp2_with (at_builtin; refine wpList_append_rows (F := enShape) _ rfl _ _ 22 rfl wr.heap.size 28 i0 _ 48 Try.underlying22 hi hz0 hz1 hz2 rfl v1 k (l.take k) rfl (World.ownsRow.alloc HO1.out _) (some ⟨w2.heap.size, 0, none⟩) 1 1 [x] rfl (by simp) rfl helm ?b1 ?b2 ?b3 ?_)
              case b1 => unfold maxLen; omega
              case b2 => omega
              case b3 => simp; omega
              intro v2 w3 hown2 hgrow2 hat2
              have HB3 : Hid (Below wr.heap.size wr w3) := (HB2.out.alloc hs2 _).grown hgrow2 (by simp; omega) (fun k hk => (World.ownsRow.lt HO1.out k hk).1)
              have HO2 : Hid (w3.ownsRow wr.heap.size 28 4 v2 (k + 1) (enShape.vals (l.take k ++ [x]))) := by first | exact hown2 | simpa using hown2
              have HB13 : Hid (Below w1.heap.size w1 w3) := HB.out.trans (HB3.out.mono HB.out.size)
              have hdr := elems_drop (HX.out w3 (HWX.out w3 HB13.out)) k
              have hdl : (l.drop k).length = m - k := by rw [List.length_drop, ← HM.out]
              clear hown2 hgrow2 hat2 HO1 helm b0 b1 b2 b3
              go_wp2_with (at_builtin; refine wpList_append_rows (F := enShape) _ rfl _ _ 22 rfl wr.heap.size 28 i0 _ 48 Try.underlying22 hi hz0 hz1 hz2 rfl v2 (k + 1) (l.take k ++ [x]) rfl HO2.out (some ⟨pb, off + k * 4, none⟩) (m - k) (c - k) (l.drop k) rfl (fun e => by cases e) hdl hdr ?d1 ?d2 ?d3 ?_)
              case d1 => unfold maxLen; omega
              case d2 => omega
              case d3 => exact HB3.out.size
              intro v3 w4 hown3 hgrow3 hat3
              have HB4 : Hid (Below w.heap.size w w4) := HWX.out _ (HB.out.trans ((HB3.out.grown hgrow3 HB3.out.size (fun k hk => (World.ownsRow.lt HO2.out k hk).1)).mono HB.out.size))
              have HOF : Hid (OwnE w4 B v3 (ins l x)) := by
                rw [HPUT2.out]
                have hlen : (l.take k ++ [x] ++ l.drop k).length = k + 1 + (m - k) := by rw [List.length_append, List.length_append, hdl, List.length_take]; have := HM.out; simp; omega
                have h1 := own_base hown3 (show B ≤ wr.heap.size from Nat.le_trans hB (HWX.out _ HB.out).size)
                show w4.ownsRow B 28 4 v3 _ _
                rw [hlen]
                first | exact h1 | (rw [show l.take k ++ [x] ++ l.drop k = l.take k ++ x :: l.drop k by simp]; exact h1)
              clear hown3 hgrow3 hat3 HO2 hdr hdl HPUT2
              go_wp2
              go_ret
              exact ⟨_, rfl, HOF.out, HB4.out⟩
        · rw [decide_eq_false hke] at hbk
          have HPUT : Hid (ins l x = l.take k ++ x :: l.drop k) := by rw [HIN2.out, if_neg (fun h => hke (hit_iff.1 h).1)]; exact hid_rfl
          clear hke HIN2 HOW
          go_wp2_with fail
          go_quiet (fail)
          clear b0 b1 b2 b3 c0 c1 c2 c3
          have HBz : Hid (Below w1.heap.size w1 (wr.drewN nq)) := below_drewN HB.out
          clear HB
          generalize wr.drewN nq = wr at *
          have HB : Hid (Below w1.heap.size w1 wr) := HBz.out
          clear HBz
          have hkc : k ≤ c := by omega
          by_cases hck : c = k
          · obtain rfl : k = c := hck.symm
            obtain rfl : k = m := by omega
            have hts := HX.out _ (HWX.out _ HB.out)
            have htk := elems_take hts k
            have htl : (l.take k).length = k := by rw [List.length_take]; have := HM.out; omega
            have HPUT2 : Hid (ins l x = l.take k ++ [x] ++ l.drop k) := by rw [HPUT.out]; show _ = _; simp
            clear HPUT hts
            go_wp2_with (at_builtin; refine wpList_append_rows (F := enShape) _ rfl _ _ 22 rfl wr.heap.size 28 i0 _ 48 Try.underlying22 hi hz0 hz1 hz2 rfl (.slice none 0 0) 0 [] rfl (World.ownsRow_nil _ _ _ _) (some ⟨pb, off, none⟩) k k (l.take k) rfl (fun e => by cases e) htl htk ?a1 ?a2 (Nat.le_refl _) ?_)
            case a1 => unfold maxLen; omega
            case a2 => omega
            intro v1 w2 hown1 hgrow1 hat1
            have HB2 : Hid (Below wr.heap.size wr w2) := (Below.refl _ wr).grown hgrow1 (Nat.le_refl _) (fun k hk => by simp [Value.ownBlock] at hk)
            have HO1 : Hid (w2.ownsRow wr.heap.size 28 4 v1 k (enShape.vals (l.take k))) := by first | exact hown1 | simpa using hown1
            have HB12 : Hid (Below w1.heap.size w1 w2) := HB.out.trans (HB2.out.mono HB.out.size)
            obtain ⟨b0, b1, b2, b3, _⟩ := ent_cells (HBX.out w2 HB12.out)
            have helm : ElemsAt enShape (w2.alloc (entObj x)) (some ⟨w2.heap.size, 0, none⟩) [x] := elems1 x
            unfold entObj at helm
            have hs2 := HB2.out.size
            clear hown1 hgrow1 hat1 htl htk
            go_wp2_with (at_builtin; refine wpList_append_rows (F := enShape) _ rfl _ _ 22 rfl wr.heap.size 28 i0 _ 48 Try.underlying22 hi hz0 hz1 hz2 rfl v1 k (l.take k) rfl (World.ownsRow.alloc HO1.out _) (some ⟨w2.heap.size, 0, none⟩) 1 1 [x] rfl (by simp) rfl helm ?b1 ?b2 ?b3 ?_)
            case b1 => unfold maxLen; omega
            case b2 => omega
            case b3 => simp; omega
            intro v2 w3 hown2 hgrow2 hat2
            have HB3 : Hid (Below wr.heap.size wr w3) := (HB2.out.alloc hs2 _).grown hgrow2 (by simp; omega) (fun k hk => (World.ownsRow.lt HO1.out k hk).1)
            have HO2 : Hid (w3.ownsRow wr.heap.size 28 4 v2 (k + 1) (enShape.vals (l.take k ++ [x]))) := by first | exact hown2 | simpa using hown2
            have HB13 : Hid (Below w1.heap.size w1 w3) := HB.out.trans (HB3.out.mono HB.out.size)
            have hd0 : l.drop k = [] := List.drop_eq_nil_of_le (by have := HM.out; omega)
            have hdr : ElemsAt enShape w3 (some ⟨pb, off, none⟩) (l.drop k) := .inl hd0
            have hdl : (l.drop k).length = 0 := by rw [hd0]; rfl
            clear hown2 hgrow2 hat2 HO1 helm b0 b1 b2 b3
            go_wp2_with (at_builtin; refine wpList_append_rows (F := enShape) _ rfl _ _ 22 rfl wr.heap.size 28 i0 _ 48 Try.underlying22 hi hz0 hz1 hz2 rfl v2 (k + 1) (l.take k ++ [x]) rfl HO2.out (some ⟨pb, off, none⟩) 0 0 (l.drop k) rfl (fun e => by cases e) hdl hdr ?d1 ?d2 ?d3 ?_)
            case d1 => unfold maxLen; omega
            case d2 => omega
            case d3 => exact HB3.out.size
            intro v3 w4 hown3 hgrow3 hat3
            have HB4 : Hid (Below w.heap.size w w4) := HWX.out _ (HB.out.trans ((HB3.out.grown hgrow3 HB3.out.size (fun k hk => (World.ownsRow.lt HO2.out k hk).1)).mono HB.out.size))
            have HOF : Hid (OwnE w4 B v3 (ins l x)) := by
              rw [HPUT2.out]
              have hlen : (l.take k ++ [x] ++ l.drop k).length = k + 1 + 0 := by rw [List.length_append, List.length_append, hdl, List.length_take]; have := HM.out; simp; omega
              have h1 := own_base hown3 (show B ≤ wr.heap.size from Nat.le_trans hB (HWX.out _ HB.out).size)
              show w4.ownsRow B 28 4 v3 _ _
              rw [hlen]
              rw [hd0, List.append_nil]; exact h1
            clear hown3 hgrow3 hat3 HO2 hdr hdl HPUT2
            go_wp2
            go_ret
            exact ⟨_, rfl, HOF.out, HB4.out⟩
          · have hck2 : ¬ k = c := fun e => hck e.symm
            have hts := HX.out _ (HWX.out _ HB.out)
            have htk := elems_take hts k
            have htl : (l.take k).length = k := by rw [List.length_take]; have := HM.out; omega
            have HPUT2 : Hid (ins l x = l.take k ++ [x] ++ l.drop k) := by rw [HPUT.out]; show _ = _; simp
            clear HPUT hts
            go_wp2_with (at_builtin; refine wpList_append_rows (F := enShape) _ rfl _ _ 22 rfl wr.heap.size 28 i0 _ 48 Try.underlying22 hi hz0 hz1 hz2 rfl (.slice none 0 0) 0 [] rfl (World.ownsRow_nil _ _ _ _) (some ⟨pb, off, none⟩) k c (l.take k) rfl (fun e => by cases e) htl htk ?a1 ?a2 (Nat.le_refl _) ?_)
            case a1 => unfold maxLen; omega
            case a2 => omega
            intro v1 w2 hown1 hgrow1 hat1
            have HB2 : Hid (Below wr.heap.size wr w2) := (Below.refl _ wr).grown hgrow1 (Nat.le_refl _) (fun k hk => by simp [Value.ownBlock] at hk)
            have HO1 : Hid (w2.ownsRow wr.heap.size 28 4 v1 k (enShape.vals (l.take k))) := by first | exact hown1 | simpa using hown1
            have HB12 : Hid (Below w1.heap.size w1 w2) := HB.out.trans (HB2.out.mono HB.out.size)
            obtain ⟨b0, b1, b2, b3, _⟩ := ent_cells (HBX.out w2 HB12.out)
            have helm : ElemsAt enShape (w2.alloc (entObj x)) (some ⟨w2.heap.size, 0, none⟩) [x] := elems1 x
            unfold entObj at helm
            have hs2 := HB2.out.size
            clear hown1 hgrow1 hat1 htl htk
            go_wp2_with (at_builtin; refine wpList_append_rows (F := enShape) _ rfl _ _ 22 rfl wr.heap.size 28 i0 _ 48 Try.underlying22 hi hz0 hz1 hz2 rfl v1 k (l.take k) rfl (World.ownsRow.alloc HO1.out _) (some ⟨w2.heap.size, 0, none⟩) 1 1 [x] rfl (by simp) rfl helm ?b1 ?b2 ?b3 ?_)
            case b1 => unfold maxLen; omega
            case b2 => omega
            case b3 => simp; omega
            intro v2 w3 hown2 hgrow2 hat2
            have HB3 : Hid (Below wr.heap.size wr w3) := (HB2.out.alloc hs2 _).grown hgrow2 (by simp; omega) (fun k hk => (World.ownsRow.lt HO1.out k hk).1)
            have HO2 : Hid (w3.ownsRow wr.heap.size 28 4 v2 (k + 1) (enShape.vals (l.take k ++ [x]))) := by first | exact hown2 | simpa using hown2
            have HB13 : Hid (Below w1.heap.size w1 w3) := HB.out.trans (HB3.out.mono HB.out.size)
            have hdr := elems_drop (HX.out w3 (HWX.out w3 HB13.out)) k
            have hdl : (l.drop k).length = m - k := by rw [List.length_drop, ← HM.out]
            clear hown2 hgrow2 hat2 HO1 helm b0 b1 b2 b3
            go_wp2_with (at_builtin; refine wpList_append_rows (F := enShape) _ rfl _ _ 22 rfl wr.heap.size 28 i0 _ 48 Try.underlying22 hi hz0 hz1 hz2 rfl v2 (k + 1) (l.take k ++ [x]) rfl HO2.out (some ⟨pb, off + k * 4, none⟩) (m - k) (c - k) (l.drop k) rfl (fun e => by cases e) hdl hdr ?d1 ?d2 ?d3 ?_)
            case d1 => unfold maxLen; omega
            case d2 => omega
            case d3 => exact HB3.out.size
            intro v3 w4 hown3 hgrow3 hat3
            have HB4 : Hid (Below w.heap.size w w4) := HWX.out _ (HB.out.trans ((HB3.out.grown hgrow3 HB3.out.size (fun k hk => (World.ownsRow.lt HO2.out k hk).1)).mono HB.out.size))
            have HOF : Hid (OwnE w4 B v3 (ins l x)) := by
              rw [HPUT2.out]
              have hlen : (l.take k ++ [x] ++ l.drop k).length = k + 1 + (m - k) := by rw [List.length_append, List.length_append, hdl, List.length_take]; have := HM.out; simp; omega
              have h1 := own_base hown3 (show B ≤ wr.heap.size from Nat.le_trans hB (HWX.out _ HB.out).size)
              show w4.ownsRow B 28 4 v3 _ _
              rw [hlen]
              first | exact h1 | (rw [show l.take k ++ [x] ++ l.drop k = l.take k ++ x :: l.drop k by simp]; exact h1)
            clear hown3 hgrow3 hat3 HO2 hdr hdl HPUT2
            go_wp2
            go_ret
            exact ⟨_, rfl, HOF.out, HB4.out⟩
      · have HJ3 : Hid _ := HJ2.out hxy
        rw [hxy] at HLs
        clear hxy HIN HJ2
        go_wp2_with fail
        go_region_held3 (fun w' => w'.cell? ⟨w.heap.size, 0, none⟩ = some (.string x.key) ∧ w'.cell? ⟨w.heap.size, 1, none⟩ = some (.int .i64 x.seq) ∧ w'.cell? ⟨w.heap.size, 2, none⟩ = some (.bool x.dead) ∧ w'.cell? ⟨w.heap.size, 3, none⟩ = some (.string x.val) ∧ w'.cell? ⟨pb, off + k' * 4, none⟩ = some (.string y.key) ∧ w'.cell? ⟨pb, off + k' * 4 + 1, none⟩ = some (.int .i64 y.seq) ∧ w'.cell? ⟨pb, off + k' * 4 + 2, none⟩ = some (.bool y.dead) ∧ w'.cell? ⟨pb, off + k' * 4 + 3, none⟩ = some (.string y.val)) (first | with_reducible exact ⟨b0, b1, b2, b3, c0, c1, c2, c3⟩ | exact ⟨b0, b1, b2, b3, c0, c1, c2, c3⟩ | exact HK.out _ hbq)
          ((go_at_call 39; refine (show Calls _ _ _ _ _ from HLs.out _).mono ?_; rintro e w2 ⟨rfl, hb2⟩; have hbq := HBd.out w2 hb2))
        have HBq : Hid _ := hbq
        clear hb2 hbq HBd HLs c0 c1 c2 c3 b0 b1 b2 b3 HB HK
        go_wp2
        go_roundw
        case rel => have := HK'.out; exact ⟨k', by first | rfl | (rw [wk]) | go_num, by omega, HJ3, HBq⟩
        case measure => have := HK'.out; simp [intOf]; omega
    · have HK0 : Hid (k = 0) := by show _ = _; omega
      have HPUT : Hid (ins l x = l.take k ++ x :: l.drop k) := by
        rw [HI.out k hk HJ.out (fun h => absurd h hk0), if_neg (fun h => hk0 h.1)]; exact hid_rfl
      have hkb : ¬ (0 : Int) < (k : Int) := by omega
      have hkb2 : decide ((0 : Int) < (k : Int)) = false := decide_eq_false hkb
      have hkb3 : decide (0 < k) = false := decide_eq_false hk0
      clear hk0 HI HJ HOW
      go_wp2_with fail
      go_quiet (fail)
      have HBz : Hid (Below w1.heap.size w1 (wr.drewN nq)) := below_drewN HB.out
      clear HB
      generalize wr.drewN nq = wr at *
      have HB : Hid (Below w1.heap.size w1 wr) := HBz.out
      clear HBz
      go_wp2_with fail
      go_quiet (fail)
      have HBz : Hid (Below w1.heap.size w1 (wr.drewN nq)) := below_drewN HB.out
      clear HB
      generalize wr.drewN nq = wr at *
      have HB : Hid (Below w1.heap.size w1 wr) := HBz.out
      clear HBz
      have hkc : k ≤ c := by omega
      by_cases hck : c = k
      · obtain rfl : k = c := hck.symm
        obtain rfl : k = m := by omega
        have hts := HX.out _ (HWX.out _ HB.out)
        have htk := elems_take hts k
        have htl : (l.take k).length = k := by rw [List.length_take]; have := HM.out; omega
        have HPUT2 : Hid (ins l x = l.take k ++ [x] ++ l.drop k) := by rw [HPUT.out]; show _ = _; simp
        clear HPUT hts
        go_wp2_with (at_builtin; refine wpList_append_rows (F := enShape) _ rfl _ _ 22 rfl wr.heap.size 28 i0 _ 48 Try.underlying22 hi hz0 hz1 hz2 rfl (.slice none 0 0) 0 [] rfl (World.ownsRow_nil _ _ _ _) (some ⟨pb, off, none⟩) k k (l.take k) rfl (fun e => by cases e) htl htk ?a1 ?a2 (Nat.le_refl _) ?_)
        case a1 => unfold maxLen; omega
        case a2 => omega
        intro v1 w2 hown1 hgrow1 hat1
        have HB2 : Hid (Below wr.heap.size wr w2) := (Below.refl _ wr).grown hgrow1 (Nat.le_refl _) (fun k hk => by simp [Value.ownBlock] at hk)
        have HO1 : Hid (w2.ownsRow wr.heap.size 28 4 v1 k (enShape.vals (l.take k))) := by first | exact hown1 | simpa using hown1
        have HB12 : Hid (Below w1.heap.size w1 w2) := HB.out.trans (HB2.out.mono HB.out.size)
        obtain ⟨b0, b1, b2, b3, _⟩ := ent_cells (HBX.out w2 HB12.out)
        have helm : ElemsAt enShape (w2.alloc (entObj x)) (some ⟨w2.heap.size, 0, none⟩) [x] := elems1 x
        unfold entObj at helm
        have hs2 := HB2.out.size
        clear hown1 hgrow1 hat1 htl htk
        go_wp2_with (at_builtin; refine wpList_append_rows (F := enShape) _ rfl _ _ 22 rfl wr.heap.size 28 i0 _ 48 Try.underlying22 hi hz0 hz1 hz2 rfl v1 k (l.take k) rfl (World.ownsRow.alloc HO1.out _) (some ⟨w2.heap.size, 0, none⟩) 1 1 [x] rfl (by simp) rfl helm ?b1 ?b2 ?b3 ?_)
        case b1 => unfold maxLen; omega
        case b2 => omega
        case b3 => simp; omega
        intro v2 w3 hown2 hgrow2 hat2
        have HB3 : Hid (Below wr.heap.size wr w3) := (HB2.out.alloc hs2 _).grown hgrow2 (by simp; omega) (fun k hk => (World.ownsRow.lt HO1.out k hk).1)
        have HO2 : Hid (w3.ownsRow wr.heap.size 28 4 v2 (k + 1) (enShape.vals (l.take k ++ [x]))) := by first | exact hown2 | simpa using hown2
        have HB13 : Hid (Below w1.heap.size w1 w3) := HB.out.trans (HB3.out.mono HB.out.size)
        have hd0 : l.drop k = [] := List.drop_eq_nil_of_le (by have := HM.out; omega)
        have hdr : ElemsAt enShape w3 (some ⟨pb, off, none⟩) (l.drop k) := .inl hd0
        have hdl : (l.drop k).length = 0 := by rw [hd0]; rfl
        clear hown2 hgrow2 hat2 HO1 helm b0 b1 b2 b3
        go_wp2_with (at_builtin; refine wpList_append_rows (F := enShape) _ rfl _ _ 22 rfl wr.heap.size 28 i0 _ 48 Try.underlying22 hi hz0 hz1 hz2 rfl v2 (k + 1) (l.take k ++ [x]) rfl HO2.out (some ⟨pb, off, none⟩) 0 0 (l.drop k) rfl (fun e => by cases e) hdl hdr ?d1 ?d2 ?d3 ?_)
        case d1 => unfold maxLen; omega
        case d2 => omega
        case d3 => exact HB3.out.size
        intro v3 w4 hown3 hgrow3 hat3
        have HB4 : Hid (Below w.heap.size w w4) := HWX.out _ (HB.out.trans ((HB3.out.grown hgrow3 HB3.out.size (fun k hk => (World.ownsRow.lt HO2.out k hk).1)).mono HB.out.size))
        have HOF : Hid (OwnE w4 B v3 (ins l x)) := by
          rw [HPUT2.out]
          have hlen : (l.take k ++ [x] ++ l.drop k).length = k + 1 + 0 := by rw [List.length_append, List.length_append, hdl, List.length_take]; have := HM.out; simp; omega
          have h1 := own_base hown3 (show B ≤ wr.heap.size from Nat.le_trans hB (HWX.out _ HB.out).size)
          show w4.ownsRow B 28 4 v3 _ _
          rw [hlen]
          rw [hd0, List.append_nil]; exact h1
        clear hown3 hgrow3 hat3 HO2 hdr hdl HPUT2
        go_wp2
        go_ret
        exact ⟨_, rfl, HOF.out, HB4.out⟩
      · have hck2 : ¬ k = c := fun e => hck e.symm
        have hts := HX.out _ (HWX.out _ HB.out)
        have htk := elems_take hts k
        have htl : (l.take k).length = k := by rw [List.length_take]; have := HM.out; omega
        have HPUT2 : Hid (ins l x = l.take k ++ [x] ++ l.drop k) := by rw [HPUT.out]; show _ = _; simp
        clear HPUT hts
        go_wp2_with (at_builtin; refine wpList_append_rows (F := enShape) _ rfl _ _ 22 rfl wr.heap.size 28 i0 _ 48 Try.underlying22 hi hz0 hz1 hz2 rfl (.slice none 0 0) 0 [] rfl (World.ownsRow_nil _ _ _ _) (some ⟨pb, off, none⟩) k c (l.take k) rfl (fun e => by cases e) htl htk ?a1 ?a2 (Nat.le_refl _) ?_)
        case a1 => unfold maxLen; omega
        case a2 => omega
        intro v1 w2 hown1 hgrow1 hat1
        have HB2 : Hid (Below wr.heap.size wr w2) := (Below.refl _ wr).grown hgrow1 (Nat.le_refl _) (fun k hk => by simp [Value.ownBlock] at hk)
        have HO1 : Hid (w2.ownsRow wr.heap.size 28 4 v1 k (enShape.vals (l.take k))) := by first | exact hown1 | simpa using hown1
        have HB12 : Hid (Below w1.heap.size w1 w2) := HB.out.trans (HB2.out.mono HB.out.size)
        obtain ⟨b0, b1, b2, b3, _⟩ := ent_cells (HBX.out w2 HB12.out)
        have helm : ElemsAt enShape (w2.alloc (entObj x)) (some ⟨w2.heap.size, 0, none⟩) [x] := elems1 x
        unfold entObj at helm
        have hs2 := HB2.out.size
        clear hown1 hgrow1 hat1 htl htk
        go_wp2_with (at_builtin; refine wpList_append_rows (F := enShape) _ rfl _ _ 22 rfl wr.heap.size 28 i0 _ 48 Try.underlying22 hi hz0 hz1 hz2 rfl v1 k (l.take k) rfl (World.ownsRow.alloc HO1.out _) (some ⟨w2.heap.size, 0, none⟩) 1 1 [x] rfl (by simp) rfl helm ?b1 ?b2 ?b3 ?_)
        case b1 => unfold maxLen; omega
        case b2 => omega
        case b3 => simp; omega
        intro v2 w3 hown2 hgrow2 hat2
        have HB3 : Hid (Below wr.heap.size wr w3) := (HB2.out.alloc hs2 _).grown hgrow2 (by simp; omega) (fun k hk => (World.ownsRow.lt HO1.out k hk).1)
        have HO2 : Hid (w3.ownsRow wr.heap.size 28 4 v2 (k + 1) (enShape.vals (l.take k ++ [x]))) := by first | exact hown2 | simpa using hown2
        have HB13 : Hid (Below w1.heap.size w1 w3) := HB.out.trans (HB3.out.mono HB.out.size)
        have hdr := elems_drop (HX.out w3 (HWX.out w3 HB13.out)) k
        have hdl : (l.drop k).length = m - k := by rw [List.length_drop, ← HM.out]
        clear hown2 hgrow2 hat2 HO1 helm b0 b1 b2 b3
        go_wp2_with (at_builtin; refine wpList_append_rows (F := enShape) _ rfl _ _ 22 rfl wr.heap.size 28 i0 _ 48 Try.underlying22 hi hz0 hz1 hz2 rfl v2 (k + 1) (l.take k ++ [x]) rfl HO2.out (some ⟨pb, off + k * 4, none⟩) (m - k) (c - k) (l.drop k) rfl (fun e => by cases e) hdl hdr ?d1 ?d2 ?d3 ?_)
        case d1 => unfold maxLen; omega
        case d2 => omega
        case d3 => exact HB3.out.size
        intro v3 w4 hown3 hgrow3 hat3
        have HB4 : Hid (Below w.heap.size w w4) := HWX.out _ (HB.out.trans ((HB3.out.grown hgrow3 HB3.out.size (fun k hk => (World.ownsRow.lt HO2.out k hk).1)).mono HB.out.size))
        have HOF : Hid (OwnE w4 B v3 (ins l x)) := by
          rw [HPUT2.out]
          have hlen : (l.take k ++ [x] ++ l.drop k).length = k + 1 + (m - k) := by rw [List.length_append, List.length_append, hdl, List.length_take]; have := HM.out; simp; omega
          have h1 := own_base hown3 (show B ≤ wr.heap.size from Nat.le_trans hB (HWX.out _ HB.out).size)
          show w4.ownsRow B 28 4 v3 _ _
          rw [hlen]
          first | exact h1 | (rw [show l.take k ++ [x] ++ l.drop k = l.take k ++ x :: l.drop k by simp]; exact h1)
        clear hown3 hgrow3 hat3 HO2 hdr hdl HPUT2
        go_wp2
        go_ret
        exact ⟨_, rfl, HOF.out, HB4.out⟩
end Go.Proofs.Ytdaibmafnamfgaa.Mg
