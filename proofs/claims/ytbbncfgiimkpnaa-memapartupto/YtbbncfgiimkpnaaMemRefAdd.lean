/-
  The document's answer for layer 6: a version added to a list.
-/
import Derived.Test.YtbbncfgiimkpnaaMemRef2
namespace Go.Proofs.Ytbbncfgiimkpnaa.Mm
open Go.RowKit Cm
set_option linter.unusedVariables false

theorem infoEn4 : (Try.prog.info? 31).map (fun i => (i.zero, i.size, i.bytes)) = some (some (.agg #[.string ⟨#[]⟩, .int .i64 0, .bool false, .string ⟨#[]⟩]), enShape.sz, 48) := by kernel_rfl
/-- The version's box, the list: what the loop leans on. -/
structure AddAt (w : World) (ao : Option Addr) (xs : List En) (y : En) (X : World) : Prop where
  box : X.heap[w.heap.size]? = some (entObj y)
  els : ElemsAt enShape X ao xs
  bel : Below w.heap.size w X
theorem AddAt.below {w X Y : World} {ao : Option Addr} {xs : List En} {y : En} (h : AddAt w ao xs y X) (hb : Below X.heap.size X Y) : AddAt w ao xs y Y :=
  ⟨(hb.block _ (lt_of_block h.box)).trans h.box, h.els.later hb, h.bel.trans (hb.mono h.bel.size)⟩
theorem addOne_at {xs : List En} {x : En} {k : Nat} (hk : k ≤ xs.length) (h : ∀ e ∈ xs.take k, e.ahead x.key x.seq = true) (hs : k < xs.length → (xs.getD k En.zero).ahead x.key x.seq = false) : addOne xs x = xs.take k ++ (clean x :: without x.key x.seq (xs.drop k)) := by
  obtain ⟨h1, h2⟩ := while_stop (p := fun e => e.ahead x.key x.seq) hk h hs
  unfold addOne pre post
  rw [h1, h2]
theorem without_drop {xs : List En} {x : En} {k : Nat} (hk : k < xs.length) : without x.key x.seq (xs.drop k) = if (xs.getD k En.zero).key = x.key ∧ (xs.getD k En.zero).seq = x.seq then xs.drop (k + 1) else xs.drop k := by
  rw [getD_lt _ _ _ hk, List.drop_eq_getElem_cons hk, without_cons]

/-- The end of 'Add': three rows, one behind the other. -/
def AddAns (w : World) (r : Ending) (ys : List En) (w' : World) : Prop := ∃ v, r = .returned v ∧ w'.ownsRow w.heap.size 31 4 v ys.length (enShape.vals ys) ∧ Below w.heap.size w w'

theorem src_ne {w : World} {a : Addr} {xs : List En} (h : ElemsAt enShape w (some a) xs) (k : Nat) : ElemsAt enShape w (some (a.add (k * 4))) (xs.drop k) := by
  rcases h with rfl | ⟨b, off, he, hlt, hc⟩
  · exact .inl (by simp)
  · cases he
    rw [Go.WideShapes.add_plain]
    exact elems_drop (.inr ⟨b, off, rfl, hlt, hc⟩) k
theorem add_end {w X Y : World} {ao : Option Addr} {xs ps qs : List En} {y : En} {v v' : Value} {n m : Nat} {vs : List Value} {B : Nat} (hB : w.heap.size ≤ B) (h : AddAt w ao xs y X) (hr : X.ownsRow B 31 4 v n vs) (ho : Y.ownsRow B 31 4 v' (n + m) (enShape.vals (ps ++ [y] ++ qs))) (hm : qs.length = m) (hn : (ps ++ [y]).length = n) (hg : X.grownBy Y v.ownBlock) :
    ∃ v2, Ending.returned v' = .returned v2 ∧ Y.ownsRow w.heap.size 31 4 v2 (ps ++ y :: qs).length (enShape.vals (ps ++ y :: qs)) ∧ Below w.heap.size w Y := by
  have e2 : ps ++ y :: qs = ps ++ [y] ++ qs := by simp
  refine ⟨v', rfl, ?_, h.bel.grown hg h.bel.size (fun j hj => Nat.le_trans hB (hr.lt j hj).1)⟩
  rw [e2, List.length_append, hn, hm]
  exact Joins.ownsRow_le ho hB
set_option maxRecDepth 100000 in
set_option maxHeartbeats 2000000 in
theorem addR_live (a : Addr) (ca : Nat) (xs : List En) (K : ByteArray) (Q : Int) (V : ByteArray) (w : World) (hx : ElemsAt enShape w (some a) xs) (hl : xs.length ≤ 100000000000) (hca : xs.length ≤ ca) :
    Calls Try.prog 11 #[.slice (some a) xs.length ca, env ⟨K, Q, false, V⟩] w fun r w' => AddAns w r (addOne xs ⟨K, Q, false, V⟩) w' := by
  obtain ⟨i0, hi, hz0, hz1, hz2⟩ := info_parts infoEn4
  have hnil : (some a) = none → ca = 0 := by simp
  have HA : Hid (AddAt w (some a) xs ⟨K, Q, false, V⟩ (w.alloc (entObj ⟨K, Q, false, V⟩))) := ⟨heap_alloc_new w _, hx.later ((Below.refl _ _).alloc (Nat.le_refl _) _), (Below.refl _ _).alloc (Nat.le_refl _) _⟩
  have HL : Hid (∀ k wq, Calls Try.prog 23 #[env (xs.getD k En.zero), env ⟨K, Q, false, V⟩] wq fun e w' => e = .returned (.bool ((xs.getD k En.zero).ahead K Q)) ∧ Below wq.heap.size wq w') := fun k wq => less_any (xs.getD k En.zero) ⟨K, Q, false, V⟩ wq
  unfold env
  unfold entObj at HA
  clear hx
  unfold env at HL
  go_enter Try.func11, Try.ntmps11
  go_wp2
  go_loopw [5] (fun i wr => ∃ k : Nat, k ≤ xs.length ∧ i = .int .i64 k ∧ Hid (∀ e ∈ xs.take k, e.ahead K Q = true) ∧ Hid (AddAt w (some a) xs ⟨K, Q, false, V⟩ wr)) (fun i _ => xs.length - (intOf i).toNat)
  case atStart => exact ⟨0, by omega, rfl, (fun e he => by simp at he), HA⟩
  case round =>
    obtain ⟨k, hk, rfl, HN, HX⟩ := hrel
    have hk0 : (0 : Int) ≤ (k : Int) := by omega
    have hk2 : (k : Int) ≤ (ca : Int) := by omega
    have hk3 : (k : Int) ≤ (xs.length : Int) := by omega
    have hk4 : (xs.length : Int) ≤ (ca : Int) := by omega
    by_cases hlt : k < xs.length
    · obtain ⟨pb, off, ha, c0, c1, c2, c3⟩ := elem_cells HX.out.els hlt
      cases ha
      obtain ⟨b0, b1, b2, b3, _⟩ := ent_cells HX.out.box
      have HLk : Hid (∀ wq, _) := fun wq => HL.out k wq
      have HKc : Hid (∀ w', AddAt w (some ⟨pb, off, none⟩) xs ⟨K, Q, false, V⟩ w' → w'.cell? ⟨pb, off + k * 4, none⟩ = some (.string (xs.getD k En.zero).key) ∧ w'.cell? ⟨pb, off + k * 4 + 1, none⟩ = some (.int .i64 (xs.getD k En.zero).seq) ∧ w'.cell? ⟨pb, off + k * 4 + 2, none⟩ = some (.bool (xs.getD k En.zero).dead) ∧ w'.cell? ⟨pb, off + k * 4 + 3, none⟩ = some (.string (xs.getD k En.zero).val)) := fun w' h => by
        obtain ⟨p1, o1, e1, q⟩ := elem_cells h.els hlt
        cases e1
        exact q
      have HDf : Hid ((xs.getD k En.zero).ahead K Q = false → addOne xs ⟨K, Q, false, V⟩ = xs.take k ++ ⟨K, Q, false, V⟩ :: (if (xs.getD k En.zero).key = K ∧ (xs.getD k En.zero).seq = Q then xs.drop (k + 1) else xs.drop k)) := fun h => by
        rw [addOne_at hk HN.out (fun _ => h), without_drop hlt]
        rfl
      have HT : Hid ((xs.getD k En.zero).ahead K Q = true → ∀ e ∈ xs.take (k + 1), e.ahead K Q = true) := fun h => all_take (p := fun e => e.ahead K Q) hlt HN.out h
      generalize xs.getD k En.zero = z at *
      have hk1 : (k : Int) < (xs.length : Int) := by omega
      have HXd : Hid (∀ wq, Below wr.drew.heap.size wr.drew wq → AddAt w (some ⟨pb, off, none⟩) xs ⟨K, Q, false, V⟩ wq) := fun wq h => AddAt.below HX.out ⟨h.os, h.tape, h.output, h.size, h.block⟩
      cases hA : z.ahead K Q
      · rw [hA] at HLk
        have HDg : Hid _ := HDf.out hA
        clear hA HDf HT HN HX HL HA
        go_wp2_with fail
        go_region_held3 (fun w' => w'.cell? ⟨pb, off + k * 4, none⟩ = some (.string z.key) ∧ w'.cell? ⟨pb, off + k * 4 + 1, none⟩ = some (.int .i64 z.seq) ∧ w'.cell? ⟨pb, off + k * 4 + 2, none⟩ = some (.bool z.dead) ∧ w'.cell? ⟨pb, off + k * 4 + 3, none⟩ = some (.string z.val) ∧ w'.cell? ⟨w.heap.size, 0, none⟩ = some (.string K) ∧ w'.cell? ⟨w.heap.size, 1, none⟩ = some (.int .i64 Q) ∧ w'.cell? ⟨w.heap.size, 2, none⟩ = some (.bool false) ∧ w'.cell? ⟨w.heap.size, 3, none⟩ = some (.string V)) (first | with_reducible exact ⟨c0, c1, c2, c3, b0, b1, b2, b3⟩ | with_reducible exact ⟨p0, p1, p2, p3, q0, q1, q2, q3⟩ | exact ⟨c0, c1, c2, c3, b0, b1, b2, b3⟩)
          ((go_at_call 23; refine (show Calls _ _ _ _ _ from HLk.out _).mono ?_; rintro e w2 ⟨rfl, hb2⟩; have hx2 := HXd.out w2 hb2; obtain ⟨p0, p1, p2, p3⟩ := HKc.out w2 hx2; obtain ⟨q0, q1, q2, q3, _⟩ := ent_cells hx2.box))
        replace HX : Hid _ := hx2
        clear hb2 hx2 p0 p1 p2 p3 q0 q1 q2 q3 c0 c1 c2 c3 b0 b1 b2 b3 HXd HLk
        generalize w2 = X at *
        have hbk := beq_toList z.key K
        by_cases he : z.key = K ∧ z.seq = Q
        · have HDn : Hid (addOne xs ⟨K, Q, false, V⟩ = xs.take k ++ ⟨K, Q, false, V⟩ :: xs.drop (k + 1)) := by
            have := HDg.out
            rw [if_pos he] at this
            exact this
          rw [decide_eq_true he.1] at hbk
          have hsq : (z.seq == Q) = true := by simpa using he.2
          have hk5 : (k : Int) + 1 ≤ (xs.length : Int) := by omega
          have hk6 : (k : Int) + 1 ≤ (ca : Int) := by omega
          clear HDg he
          have hts := HX.out.els
          have htk := elems_take hts k
          have hbx := HX.out.bel.size
          have htl : (xs.take k).length = k := by rw [List.length_take]; omega
          go_wp2_with (at_builtin; refine wpList_append_rows (F := enShape) _ rfl _ _ 23 rfl X.heap.size 31 i0 _ 48 Try.underlying23 hi hz0 hz1 hz2 rfl (.slice none 0 0) 0 [] rfl (World.ownsRow_nil _ _ _ _) (some ⟨pb, off, none⟩) k ca (xs.take k) rfl hnil htl htk ?a1 ?a2 ?a3 ?_)
          case a1 => unfold maxLen; omega
          case a2 => omega
          case a3 => exact Nat.le_refl _
          intro v1 w1 hown1 hgrow1 hat1
          have hB1 : Below X.heap.size X w1 := (Below.refl _ _).grown hgrow1 (Nat.le_refl _) (fun j hj => by simp [Value.ownBlock] at hj)
          have HX1 : Hid _ := AddAt.below HX.out hB1
          have HO1 : Hid (w1.ownsRow X.heap.size 31 enShape.sz v1 k (enShape.vals (xs.take k))) := by show w1.ownsRow _ _ _ _ _ _; simpa using hown1
          obtain ⟨y0, y1, y2, y3, _⟩ := ent_cells HX1.out.box
          have hbs1 := hB1.size
          have helm : ElemsAt enShape (w1.alloc (.cells #[.string K, .int .i64 Q, .bool false, .string V] 31)) (some ⟨w1.heap.size, 0, none⟩) [⟨K, Q, false, V⟩] := elems1 ⟨K, Q, false, V⟩
          have HB1 : Hid _ := hB1
          clear hown1 hgrow1 hat1 hts htk hB1
          go_wp2_with (at_builtin; refine wpList_append_rows (F := enShape) _ rfl _ _ 23 rfl X.heap.size 31 i0 _ 48 Try.underlying23 hi hz0 hz1 hz2 rfl v1 k (xs.take k) rfl (World.ownsRow.alloc HO1.out _) (some ⟨w1.heap.size, 0, none⟩) 1 1 [⟨K, Q, false, V⟩] rfl (by simp) rfl helm ?b1 ?b2 ?b3 ?_)
          case b1 => unfold maxLen; omega
          case b2 => omega
          case b3 => first | omega | (simp; omega)
          intro v2 w2 hown2 hgrow2 hat2
          have hB2 : Below X.heap.size X w2 := (HB1.out.alloc hbs1 _).grown hgrow2 (by simp; omega) (fun j hj => (World.ownsRow.lt HO1.out j hj).1)
          have HX2 : Hid (AddAt w (some ⟨pb, off, none⟩) xs ⟨K, Q, false, V⟩ w2) := AddAt.below HX.out hB2
          have hbs2 := hB2.size
          have HO2 : Hid (w2.ownsRow X.heap.size 31 enShape.sz v2 (k + 1) (enShape.vals (xs.take k ++ [⟨K, Q, false, V⟩]))) := hown2
          obtain ⟨x0, x1, x2, x3, _⟩ := ent_cells HX2.out.box
          obtain ⟨e0, e1, e2, e3⟩ := HKc.out w2 HX2.out
          clear HKc
          clear hown2 hgrow2 hat2 hB2 helm HX1 HO1 HB1 y0 y1 y2 y3
          go_wp2_with fail
          go_quiet (fail)
          clear e0 e1 e2 e3
          have HX3 : Hid (AddAt w (some ⟨pb, off, none⟩) xs ⟨K, Q, false, V⟩ (w2.drewN nq)) := AddAt.below HX2.out ⟨rfl, rfl, rfl, Nat.le_refl _, fun _ _ => rfl⟩
          have HO3 : Hid ((w2.drewN nq).ownsRow X.heap.size 31 enShape.sz v2 (k + 1) (enShape.vals (xs.take k ++ [⟨K, Q, false, V⟩]))) := HO2.out
          have hbs5 : X.heap.size ≤ (w2.drewN nq).heap.size := hbs2
          have HE3 : Hid _ := src_ne HX3.out.els (k + 1)
          clear x0 x1 x2 x3 HX2 HO2
          generalize w2.drewN nq = w5 at *
          by_cases hck : ca = k + 1
          · have hd0 : xs.drop (k + 1) = [] := List.drop_of_length_le (by omega)
            go_wp2_with (at_builtin; (refine wpList_append_rows (F := enShape) _ rfl _ _ 23 rfl X.heap.size 31 i0 _ 48 Try.underlying23 hi hz0 hz1 hz2 rfl v2 (k + 1) (xs.take k ++ [⟨K, Q, false, V⟩]) rfl HO3.out _ _ _ (xs.drop (k + 1)) rfl (by simp) ?n2 ?n3 ?d1 ?d2 ?d3 ?_))
            case n2 => rw [List.length_drop]
            case n3 => exact .inl hd0
            case d1 => unfold maxLen; omega
            case d2 => omega
            case d3 => omega
            intro v3 w3 hown3 hgrow3 hat3
            have ho3 : w3.ownsRow X.heap.size 31 4 v3 (k + 1 + (xs.length - (k + 1))) (enShape.vals (xs.take k ++ [⟨K, Q, false, V⟩] ++ xs.drop (k + 1))) := by rw [hd0, List.append_nil]; exact hown3
            have HR : Hid (AddAns w (.returned v3) (addOne xs ⟨K, Q, false, V⟩) w3) := by
              show AddAns _ _ _ _
              unfold AddAns
              rw [HDn.out]
              exact add_end hbx HX3.out HO3.out ho3 (by rw [List.length_drop]) (by simp; omega) hgrow3
            clear hown3 hgrow3 hat3 ho3
            go_wp2
            go_ret
            exact HR.out
          · go_wp2_with (at_builtin; (refine wpList_append_rows (F := enShape) _ rfl _ _ 23 rfl X.heap.size 31 i0 _ 48 Try.underlying23 hi hz0 hz1 hz2 rfl v2 (k + 1) (xs.take k ++ [⟨K, Q, false, V⟩]) rfl HO3.out _ _ _ (xs.drop (k + 1)) rfl (by simp) ?n2 ?n3 ?d1 ?d2 ?d3 ?_))
            case n2 => rw [List.length_drop]
            case n3 => first | exact HE3.out | (have h3 : ElemsAt _ _ _ _ := HE3.out; rw [Go.WideShapes.add_plain] at h3; exact h3)
            case d1 => unfold maxLen; omega
            case d2 => omega
            case d3 => omega
            intro v3 w3 hown3 hgrow3 hat3
            have ho3 : w3.ownsRow X.heap.size 31 4 v3 (k + 1 + (xs.length - (k + 1))) (enShape.vals (xs.take k ++ [⟨K, Q, false, V⟩] ++ xs.drop (k + 1))) := by rw [List.append_assoc]; exact hown3
            have HR : Hid (AddAns w (.returned v3) (addOne xs ⟨K, Q, false, V⟩) w3) := by
              show AddAns _ _ _ _
              unfold AddAns
              rw [HDn.out]
              exact add_end hbx HX3.out HO3.out ho3 (by rw [List.length_drop]) (by simp; omega) hgrow3
            clear hown3 hgrow3 hat3 ho3
            go_wp2
            go_ret
            exact HR.out
        · have HDn : Hid (addOne xs ⟨K, Q, false, V⟩ = xs.take k ++ ⟨K, Q, false, V⟩ :: xs.drop k) := by
            have := HDg.out
            rw [if_neg he] at this
            exact this
          by_cases hkk : z.key = K
          · rw [decide_eq_true hkk] at hbk
            have hsq : (z.seq == Q) = false := by simp only [beq_eq_false_iff_ne, ne_eq]; exact fun e => he ⟨hkk, e⟩
            clear HDg he hkk
            have hts := HX.out.els
            have htk := elems_take hts k
            have hbx := HX.out.bel.size
            have htl : (xs.take k).length = k := by rw [List.length_take]; omega
            go_wp2_with (at_builtin; refine wpList_append_rows (F := enShape) _ rfl _ _ 23 rfl X.heap.size 31 i0 _ 48 Try.underlying23 hi hz0 hz1 hz2 rfl (.slice none 0 0) 0 [] rfl (World.ownsRow_nil _ _ _ _) (some ⟨pb, off, none⟩) k ca (xs.take k) rfl hnil htl htk ?a1 ?a2 ?a3 ?_)
            case a1 => unfold maxLen; omega
            case a2 => omega
            case a3 => exact Nat.le_refl _
            intro v1 w1 hown1 hgrow1 hat1
            have hB1 : Below X.heap.size X w1 := (Below.refl _ _).grown hgrow1 (Nat.le_refl _) (fun j hj => by simp [Value.ownBlock] at hj)
            have HX1 : Hid _ := AddAt.below HX.out hB1
            have HO1 : Hid (w1.ownsRow X.heap.size 31 enShape.sz v1 k (enShape.vals (xs.take k))) := by show w1.ownsRow _ _ _ _ _ _; simpa using hown1
            obtain ⟨y0, y1, y2, y3, _⟩ := ent_cells HX1.out.box
            have hbs1 := hB1.size
            have helm : ElemsAt enShape (w1.alloc (.cells #[.string K, .int .i64 Q, .bool false, .string V] 31)) (some ⟨w1.heap.size, 0, none⟩) [⟨K, Q, false, V⟩] := elems1 ⟨K, Q, false, V⟩
            have HB1 : Hid _ := hB1
            clear hown1 hgrow1 hat1 hts htk hB1
            go_wp2_with (at_builtin; refine wpList_append_rows (F := enShape) _ rfl _ _ 23 rfl X.heap.size 31 i0 _ 48 Try.underlying23 hi hz0 hz1 hz2 rfl v1 k (xs.take k) rfl (World.ownsRow.alloc HO1.out _) (some ⟨w1.heap.size, 0, none⟩) 1 1 [⟨K, Q, false, V⟩] rfl (by simp) rfl helm ?b1 ?b2 ?b3 ?_)
            case b1 => unfold maxLen; omega
            case b2 => omega
            case b3 => first | omega | (simp; omega)
            intro v2 w2 hown2 hgrow2 hat2
            have hB2 : Below X.heap.size X w2 := (HB1.out.alloc hbs1 _).grown hgrow2 (by simp; omega) (fun j hj => (World.ownsRow.lt HO1.out j hj).1)
            have HX2 : Hid (AddAt w (some ⟨pb, off, none⟩) xs ⟨K, Q, false, V⟩ w2) := AddAt.below HX.out hB2
            have hbs2 := hB2.size
            have HO2 : Hid (w2.ownsRow X.heap.size 31 enShape.sz v2 (k + 1) (enShape.vals (xs.take k ++ [⟨K, Q, false, V⟩]))) := hown2
            obtain ⟨x0, x1, x2, x3, _⟩ := ent_cells HX2.out.box
            obtain ⟨e0, e1, e2, e3⟩ := HKc.out w2 HX2.out
            clear HKc
            clear hown2 hgrow2 hat2 hB2 helm HX1 HO1 HB1 y0 y1 y2 y3
            go_wp2_with fail
            go_quiet (fail)
            clear e0 e1 e2 e3
            have HX3 : Hid (AddAt w (some ⟨pb, off, none⟩) xs ⟨K, Q, false, V⟩ (w2.drewN nq)) := AddAt.below HX2.out ⟨rfl, rfl, rfl, Nat.le_refl _, fun _ _ => rfl⟩
            have HO3 : Hid ((w2.drewN nq).ownsRow X.heap.size 31 enShape.sz v2 (k + 1) (enShape.vals (xs.take k ++ [⟨K, Q, false, V⟩]))) := HO2.out
            have hbs5 : X.heap.size ≤ (w2.drewN nq).heap.size := hbs2
            have HE3 : Hid _ := src_ne HX3.out.els (k)
            clear x0 x1 x2 x3 HX2 HO2
            generalize w2.drewN nq = w5 at *
            by_cases hck : ca = k
            · have hd0 : xs.drop (k) = [] := List.drop_of_length_le (by omega)
              go_wp2_with (at_builtin; (refine wpList_append_rows (F := enShape) _ rfl _ _ 23 rfl X.heap.size 31 i0 _ 48 Try.underlying23 hi hz0 hz1 hz2 rfl v2 (k + 1) (xs.take k ++ [⟨K, Q, false, V⟩]) rfl HO3.out _ _ _ (xs.drop (k)) rfl (by simp) ?n2 ?n3 ?d1 ?d2 ?d3 ?_))
              case n2 => rw [List.length_drop]
              case n3 => exact .inl hd0
              case d1 => unfold maxLen; omega
              case d2 => omega
              case d3 => omega
              intro v3 w3 hown3 hgrow3 hat3
              have ho3 : w3.ownsRow X.heap.size 31 4 v3 (k + 1 + (xs.length - (k))) (enShape.vals (xs.take k ++ [⟨K, Q, false, V⟩] ++ xs.drop (k))) := by rw [hd0, List.append_nil]; exact hown3
              have HR : Hid (AddAns w (.returned v3) (addOne xs ⟨K, Q, false, V⟩) w3) := by
                show AddAns _ _ _ _
                unfold AddAns
                rw [HDn.out]
                exact add_end hbx HX3.out HO3.out ho3 (by rw [List.length_drop]) (by simp; omega) hgrow3
              clear hown3 hgrow3 hat3 ho3
              go_wp2
              go_ret
              exact HR.out
            · go_wp2_with (at_builtin; (refine wpList_append_rows (F := enShape) _ rfl _ _ 23 rfl X.heap.size 31 i0 _ 48 Try.underlying23 hi hz0 hz1 hz2 rfl v2 (k + 1) (xs.take k ++ [⟨K, Q, false, V⟩]) rfl HO3.out _ _ _ (xs.drop (k)) rfl (by simp) ?n2 ?n3 ?d1 ?d2 ?d3 ?_))
              case n2 => rw [List.length_drop]
              case n3 => first | exact HE3.out | (have h3 : ElemsAt _ _ _ _ := HE3.out; rw [Go.WideShapes.add_plain] at h3; exact h3)
              case d1 => unfold maxLen; omega
              case d2 => omega
              case d3 => omega
              intro v3 w3 hown3 hgrow3 hat3
              have ho3 : w3.ownsRow X.heap.size 31 4 v3 (k + 1 + (xs.length - (k))) (enShape.vals (xs.take k ++ [⟨K, Q, false, V⟩] ++ xs.drop (k))) := by rw [List.append_assoc]; exact hown3
              have HR : Hid (AddAns w (.returned v3) (addOne xs ⟨K, Q, false, V⟩) w3) := by
                show AddAns _ _ _ _
                unfold AddAns
                rw [HDn.out]
                exact add_end hbx HX3.out HO3.out ho3 (by rw [List.length_drop]) (by simp; omega) hgrow3
              clear hown3 hgrow3 hat3 ho3
              go_wp2
              go_ret
              exact HR.out
          · rw [decide_eq_false hkk] at hbk
            clear HDg he hkk
            have hts := HX.out.els
            have htk := elems_take hts k
            have hbx := HX.out.bel.size
            have htl : (xs.take k).length = k := by rw [List.length_take]; omega
            go_wp2_with (at_builtin; refine wpList_append_rows (F := enShape) _ rfl _ _ 23 rfl X.heap.size 31 i0 _ 48 Try.underlying23 hi hz0 hz1 hz2 rfl (.slice none 0 0) 0 [] rfl (World.ownsRow_nil _ _ _ _) (some ⟨pb, off, none⟩) k ca (xs.take k) rfl hnil htl htk ?a1 ?a2 ?a3 ?_)
            case a1 => unfold maxLen; omega
            case a2 => omega
            case a3 => exact Nat.le_refl _
            intro v1 w1 hown1 hgrow1 hat1
            have hB1 : Below X.heap.size X w1 := (Below.refl _ _).grown hgrow1 (Nat.le_refl _) (fun j hj => by simp [Value.ownBlock] at hj)
            have HX1 : Hid _ := AddAt.below HX.out hB1
            have HO1 : Hid (w1.ownsRow X.heap.size 31 enShape.sz v1 k (enShape.vals (xs.take k))) := by show w1.ownsRow _ _ _ _ _ _; simpa using hown1
            obtain ⟨y0, y1, y2, y3, _⟩ := ent_cells HX1.out.box
            have hbs1 := hB1.size
            have helm : ElemsAt enShape (w1.alloc (.cells #[.string K, .int .i64 Q, .bool false, .string V] 31)) (some ⟨w1.heap.size, 0, none⟩) [⟨K, Q, false, V⟩] := elems1 ⟨K, Q, false, V⟩
            have HB1 : Hid _ := hB1
            clear hown1 hgrow1 hat1 hts htk hB1
            go_wp2_with (at_builtin; refine wpList_append_rows (F := enShape) _ rfl _ _ 23 rfl X.heap.size 31 i0 _ 48 Try.underlying23 hi hz0 hz1 hz2 rfl v1 k (xs.take k) rfl (World.ownsRow.alloc HO1.out _) (some ⟨w1.heap.size, 0, none⟩) 1 1 [⟨K, Q, false, V⟩] rfl (by simp) rfl helm ?b1 ?b2 ?b3 ?_)
            case b1 => unfold maxLen; omega
            case b2 => omega
            case b3 => first | omega | (simp; omega)
            intro v2 w2 hown2 hgrow2 hat2
            have hB2 : Below X.heap.size X w2 := (HB1.out.alloc hbs1 _).grown hgrow2 (by simp; omega) (fun j hj => (World.ownsRow.lt HO1.out j hj).1)
            have HX2 : Hid (AddAt w (some ⟨pb, off, none⟩) xs ⟨K, Q, false, V⟩ w2) := AddAt.below HX.out hB2
            have hbs2 := hB2.size
            have HO2 : Hid (w2.ownsRow X.heap.size 31 enShape.sz v2 (k + 1) (enShape.vals (xs.take k ++ [⟨K, Q, false, V⟩]))) := hown2
            obtain ⟨x0, x1, x2, x3, _⟩ := ent_cells HX2.out.box
            obtain ⟨e0, e1, e2, e3⟩ := HKc.out w2 HX2.out
            clear HKc
            clear hown2 hgrow2 hat2 hB2 helm HX1 HO1 HB1 y0 y1 y2 y3
            go_wp2_with fail
            go_quiet (fail)
            clear e0 e1 e2 e3
            have HX3 : Hid (AddAt w (some ⟨pb, off, none⟩) xs ⟨K, Q, false, V⟩ (w2.drewN nq)) := AddAt.below HX2.out ⟨rfl, rfl, rfl, Nat.le_refl _, fun _ _ => rfl⟩
            have HO3 : Hid ((w2.drewN nq).ownsRow X.heap.size 31 enShape.sz v2 (k + 1) (enShape.vals (xs.take k ++ [⟨K, Q, false, V⟩]))) := HO2.out
            have hbs5 : X.heap.size ≤ (w2.drewN nq).heap.size := hbs2
            have HE3 : Hid _ := src_ne HX3.out.els (k)
            clear x0 x1 x2 x3 HX2 HO2
            generalize w2.drewN nq = w5 at *
            by_cases hck : ca = k
            · have hd0 : xs.drop (k) = [] := List.drop_of_length_le (by omega)
              go_wp2_with (at_builtin; (refine wpList_append_rows (F := enShape) _ rfl _ _ 23 rfl X.heap.size 31 i0 _ 48 Try.underlying23 hi hz0 hz1 hz2 rfl v2 (k + 1) (xs.take k ++ [⟨K, Q, false, V⟩]) rfl HO3.out _ _ _ (xs.drop (k)) rfl (by simp) ?n2 ?n3 ?d1 ?d2 ?d3 ?_))
              case n2 => rw [List.length_drop]
              case n3 => exact .inl hd0
              case d1 => unfold maxLen; omega
              case d2 => omega
              case d3 => omega
              intro v3 w3 hown3 hgrow3 hat3
              have ho3 : w3.ownsRow X.heap.size 31 4 v3 (k + 1 + (xs.length - (k))) (enShape.vals (xs.take k ++ [⟨K, Q, false, V⟩] ++ xs.drop (k))) := by rw [hd0, List.append_nil]; exact hown3
              have HR : Hid (AddAns w (.returned v3) (addOne xs ⟨K, Q, false, V⟩) w3) := by
                show AddAns _ _ _ _
                unfold AddAns
                rw [HDn.out]
                exact add_end hbx HX3.out HO3.out ho3 (by rw [List.length_drop]) (by simp; omega) hgrow3
              clear hown3 hgrow3 hat3 ho3
              go_wp2
              go_ret
              exact HR.out
            · go_wp2_with (at_builtin; (refine wpList_append_rows (F := enShape) _ rfl _ _ 23 rfl X.heap.size 31 i0 _ 48 Try.underlying23 hi hz0 hz1 hz2 rfl v2 (k + 1) (xs.take k ++ [⟨K, Q, false, V⟩]) rfl HO3.out _ _ _ (xs.drop (k)) rfl (by simp) ?n2 ?n3 ?d1 ?d2 ?d3 ?_))
              case n2 => rw [List.length_drop]
              case n3 => first | exact HE3.out | (have h3 : ElemsAt _ _ _ _ := HE3.out; rw [Go.WideShapes.add_plain] at h3; exact h3)
              case d1 => unfold maxLen; omega
              case d2 => omega
              case d3 => omega
              intro v3 w3 hown3 hgrow3 hat3
              have ho3 : w3.ownsRow X.heap.size 31 4 v3 (k + 1 + (xs.length - (k))) (enShape.vals (xs.take k ++ [⟨K, Q, false, V⟩] ++ xs.drop (k))) := by rw [List.append_assoc]; exact hown3
              have HR : Hid (AddAns w (.returned v3) (addOne xs ⟨K, Q, false, V⟩) w3) := by
                show AddAns _ _ _ _
                unfold AddAns
                rw [HDn.out]
                exact add_end hbx HX3.out HO3.out ho3 (by rw [List.length_drop]) (by simp; omega) hgrow3
              clear hown3 hgrow3 hat3 ho3
              go_wp2
              go_ret
              exact HR.out
      · rw [hA] at HLk
        have HTn : Hid _ := HT.out hA
        clear hA HDf HT HN HX HL HA
        go_wp2_with fail
        go_region_held3 (fun w' => w'.cell? ⟨pb, off + k * 4, none⟩ = some (.string z.key) ∧ w'.cell? ⟨pb, off + k * 4 + 1, none⟩ = some (.int .i64 z.seq) ∧ w'.cell? ⟨pb, off + k * 4 + 2, none⟩ = some (.bool z.dead) ∧ w'.cell? ⟨pb, off + k * 4 + 3, none⟩ = some (.string z.val) ∧ w'.cell? ⟨w.heap.size, 0, none⟩ = some (.string K) ∧ w'.cell? ⟨w.heap.size, 1, none⟩ = some (.int .i64 Q) ∧ w'.cell? ⟨w.heap.size, 2, none⟩ = some (.bool false) ∧ w'.cell? ⟨w.heap.size, 3, none⟩ = some (.string V)) (first | with_reducible exact ⟨c0, c1, c2, c3, b0, b1, b2, b3⟩ | with_reducible exact ⟨p0, p1, p2, p3, q0, q1, q2, q3⟩ | exact ⟨c0, c1, c2, c3, b0, b1, b2, b3⟩)
          ((go_at_call 23; refine (show Calls _ _ _ _ _ from HLk.out _).mono ?_; rintro e w2 ⟨rfl, hb2⟩; have hx2 := HXd.out w2 hb2; obtain ⟨p0, p1, p2, p3⟩ := HKc.out w2 hx2; obtain ⟨q0, q1, q2, q3, _⟩ := ent_cells hx2.box))
        have HX2 : Hid _ := hx2
        clear hb2 hx2 p0 p1 p2 p3 q0 q1 q2 q3 HXd HLk
        go_wp2
        go_roundw
        case rel => exact ⟨k + 1, by omega, by go_num, HTn, HX2⟩
        case measure => simp [intOf]; omega
    · have hkl : Hid (k = xs.length) := by show _ = _; omega
      have hdc : decide ((k : Int) < (xs.length : Int)) = false := by simp; omega
      have hdn : decide (k < xs.length) = false := by simp; omega
      have HDn : Hid (addOne xs ⟨K, Q, false, V⟩ = xs.take k ++ ⟨K, Q, false, V⟩ :: xs.drop k) := by
        show _ = _
        rw [addOne_at hk HN.out (fun h => absurd h hlt), List.drop_of_length_le (by omega)]
        rfl
      clear hlt HN hkl
      go_wp2_with fail
      go_quiet (fail)
      clear hdc
      replace HX : Hid (AddAt w (some a) xs ⟨K, Q, false, V⟩ (wr.drewN nq)) := AddAt.below HX.out ⟨rfl, rfl, rfl, Nat.le_refl _, fun _ _ => rfl⟩
      generalize wr.drewN nq = X at *
      have hts := HX.out.els
      have htk := elems_take hts k
      have hbx := HX.out.bel.size
      have htl : (xs.take k).length = k := by rw [List.length_take]; omega
      go_wp2_with (at_builtin; refine wpList_append_rows (F := enShape) _ rfl _ _ 23 rfl X.heap.size 31 i0 _ 48 Try.underlying23 hi hz0 hz1 hz2 rfl (.slice none 0 0) 0 [] rfl (World.ownsRow_nil _ _ _ _) (some a) k ca (xs.take k) rfl hnil htl htk ?a1 ?a2 ?a3 ?_)
      case a1 => unfold maxLen; omega
      case a2 => omega
      case a3 => exact Nat.le_refl _
      intro v1 w1 hown1 hgrow1 hat1
      have hB1 : Below X.heap.size X w1 := (Below.refl _ _).grown hgrow1 (Nat.le_refl _) (fun j hj => by simp [Value.ownBlock] at hj)
      have HX1 : Hid _ := AddAt.below HX.out hB1
      have HO1 : Hid (w1.ownsRow X.heap.size 31 enShape.sz v1 k (enShape.vals (xs.take k))) := by show w1.ownsRow _ _ _ _ _ _; simpa using hown1
      obtain ⟨y0, y1, y2, y3, _⟩ := ent_cells HX1.out.box
      have hbs1 := hB1.size
      have helm : ElemsAt enShape (w1.alloc (.cells #[.string K, .int .i64 Q, .bool false, .string V] 31)) (some ⟨w1.heap.size, 0, none⟩) [⟨K, Q, false, V⟩] := elems1 ⟨K, Q, false, V⟩
      have HB1 : Hid _ := hB1
      clear hown1 hgrow1 hat1 hts htk hB1
      go_wp2_with (at_builtin; refine wpList_append_rows (F := enShape) _ rfl _ _ 23 rfl X.heap.size 31 i0 _ 48 Try.underlying23 hi hz0 hz1 hz2 rfl v1 k (xs.take k) rfl (World.ownsRow.alloc HO1.out _) (some ⟨w1.heap.size, 0, none⟩) 1 1 [⟨K, Q, false, V⟩] rfl (by simp) rfl helm ?b1 ?b2 ?b3 ?_)
      case b1 => unfold maxLen; omega
      case b2 => omega
      case b3 => first | omega | (simp; omega)
      intro v2 w2 hown2 hgrow2 hat2
      have hB2 : Below X.heap.size X w2 := (HB1.out.alloc hbs1 _).grown hgrow2 (by simp; omega) (fun j hj => (World.ownsRow.lt HO1.out j hj).1)
      have HX2 : Hid (AddAt w (some a) xs ⟨K, Q, false, V⟩ w2) := AddAt.below HX.out hB2
      have hbs2 := hB2.size
      have HO2 : Hid (w2.ownsRow X.heap.size 31 enShape.sz v2 (k + 1) (enShape.vals (xs.take k ++ [⟨K, Q, false, V⟩]))) := hown2
      obtain ⟨x0, x1, x2, x3, _⟩ := ent_cells HX2.out.box
      clear hown2 hgrow2 hat2 hB2 helm HX1 HO1 HB1 y0 y1 y2 y3
      go_wp2_with fail
      go_quiet (fail)
      have HX3 : Hid (AddAt w (some a) xs ⟨K, Q, false, V⟩ (w2.drewN nq)) := AddAt.below HX2.out ⟨rfl, rfl, rfl, Nat.le_refl _, fun _ _ => rfl⟩
      have HO3 : Hid ((w2.drewN nq).ownsRow X.heap.size 31 enShape.sz v2 (k + 1) (enShape.vals (xs.take k ++ [⟨K, Q, false, V⟩]))) := HO2.out
      have hbs5 : X.heap.size ≤ (w2.drewN nq).heap.size := hbs2
      have HE3 : Hid _ := src_ne HX3.out.els (k)
      clear x0 x1 x2 x3 HX2 HO2
      generalize w2.drewN nq = w5 at *
      by_cases hck : ca = k
      · have hd0 : xs.drop (k) = [] := List.drop_of_length_le (by omega)
        go_wp2_with (at_builtin; (refine wpList_append_rows (F := enShape) _ rfl _ _ 23 rfl X.heap.size 31 i0 _ 48 Try.underlying23 hi hz0 hz1 hz2 rfl v2 (k + 1) (xs.take k ++ [⟨K, Q, false, V⟩]) rfl HO3.out _ _ _ (xs.drop (k)) rfl (by simp) ?n2 ?n3 ?d1 ?d2 ?d3 ?_))
        case n2 => rw [List.length_drop]
        case n3 => exact .inl hd0
        case d1 => unfold maxLen; omega
        case d2 => omega
        case d3 => omega
        intro v3 w3 hown3 hgrow3 hat3
        have ho3 : w3.ownsRow X.heap.size 31 4 v3 (k + 1 + (xs.length - (k))) (enShape.vals (xs.take k ++ [⟨K, Q, false, V⟩] ++ xs.drop (k))) := by rw [hd0, List.append_nil]; exact hown3
        have HR : Hid (AddAns w (.returned v3) (addOne xs ⟨K, Q, false, V⟩) w3) := by
          show AddAns _ _ _ _
          unfold AddAns
          rw [HDn.out]
          exact add_end hbx HX3.out HO3.out ho3 (by rw [List.length_drop]) (by simp; omega) hgrow3
        clear hown3 hgrow3 hat3 ho3
        go_wp2
        go_ret
        exact HR.out
      · go_wp2_with (at_builtin; (refine wpList_append_rows (F := enShape) _ rfl _ _ 23 rfl X.heap.size 31 i0 _ 48 Try.underlying23 hi hz0 hz1 hz2 rfl v2 (k + 1) (xs.take k ++ [⟨K, Q, false, V⟩]) rfl HO3.out _ _ _ (xs.drop (k)) rfl (by simp) ?n2 ?n3 ?d1 ?d2 ?d3 ?_))
        case n2 => rw [List.length_drop]
        case n3 => first | exact HE3.out | (have h3 : ElemsAt _ _ _ _ := HE3.out; rw [Go.WideShapes.add_plain] at h3; exact h3)
        case d1 => unfold maxLen; omega
        case d2 => omega
        case d3 => omega
        intro v3 w3 hown3 hgrow3 hat3
        have ho3 : w3.ownsRow X.heap.size 31 4 v3 (k + 1 + (xs.length - (k))) (enShape.vals (xs.take k ++ [⟨K, Q, false, V⟩] ++ xs.drop (k))) := by rw [List.append_assoc]; exact hown3
        have HR : Hid (AddAns w (.returned v3) (addOne xs ⟨K, Q, false, V⟩) w3) := by
          show AddAns _ _ _ _
          unfold AddAns
          rw [HDn.out]
          exact add_end hbx HX3.out HO3.out ho3 (by rw [List.length_drop]) (by simp; omega) hgrow3
        clear hown3 hgrow3 hat3 ho3
        go_wp2
        go_ret
        exact HR.out
set_option maxRecDepth 100000 in
set_option maxHeartbeats 2000000 in
theorem addR_dead (a : Addr) (ca : Nat) (xs : List En) (K : ByteArray) (Q : Int) (V : ByteArray) (w : World) (hx : ElemsAt enShape w (some a) xs) (hl : xs.length ≤ 100000000000) (hca : xs.length ≤ ca) :
    Calls Try.prog 11 #[.slice (some a) xs.length ca, env ⟨K, Q, true, V⟩] w fun r w' => AddAns w r (addOne xs ⟨K, Q, true, V⟩) w' := by
  obtain ⟨i0, hi, hz0, hz1, hz2⟩ := info_parts infoEn4
  have hnil : (some a) = none → ca = 0 := by simp
  have HA : Hid (AddAt w (some a) xs ⟨K, Q, true, ⟨#[]⟩⟩ (w.alloc (entObj ⟨K, Q, true, ⟨#[]⟩⟩))) := ⟨heap_alloc_new w _, hx.later ((Below.refl _ _).alloc (Nat.le_refl _) _), (Below.refl _ _).alloc (Nat.le_refl _) _⟩
  have HL : Hid (∀ k wq, Calls Try.prog 23 #[env (xs.getD k En.zero), env ⟨K, Q, true, ⟨#[]⟩⟩] wq fun e w' => e = .returned (.bool ((xs.getD k En.zero).ahead K Q)) ∧ Below wq.heap.size wq w') := fun k wq => less_any (xs.getD k En.zero) ⟨K, Q, true, ⟨#[]⟩⟩ wq
  unfold env
  unfold entObj at HA
  clear hx
  unfold env at HL
  go_enter Try.func11, Try.ntmps11
  go_wp2
  go_loopw [5] (fun i wr => ∃ k : Nat, k ≤ xs.length ∧ i = .int .i64 k ∧ Hid (∀ e ∈ xs.take k, e.ahead K Q = true) ∧ Hid (AddAt w (some a) xs ⟨K, Q, true, ⟨#[]⟩⟩ wr)) (fun i _ => xs.length - (intOf i).toNat)
  case atStart => exact ⟨0, by omega, rfl, (fun e he => by simp at he), HA⟩
  case round =>
    obtain ⟨k, hk, rfl, HN, HX⟩ := hrel
    have hk0 : (0 : Int) ≤ (k : Int) := by omega
    have hk2 : (k : Int) ≤ (ca : Int) := by omega
    have hk3 : (k : Int) ≤ (xs.length : Int) := by omega
    have hk4 : (xs.length : Int) ≤ (ca : Int) := by omega
    by_cases hlt : k < xs.length
    · obtain ⟨pb, off, ha, c0, c1, c2, c3⟩ := elem_cells HX.out.els hlt
      cases ha
      obtain ⟨b0, b1, b2, b3, _⟩ := ent_cells HX.out.box
      have HLk : Hid (∀ wq, _) := fun wq => HL.out k wq
      have HKc : Hid (∀ w', AddAt w (some ⟨pb, off, none⟩) xs ⟨K, Q, true, ⟨#[]⟩⟩ w' → w'.cell? ⟨pb, off + k * 4, none⟩ = some (.string (xs.getD k En.zero).key) ∧ w'.cell? ⟨pb, off + k * 4 + 1, none⟩ = some (.int .i64 (xs.getD k En.zero).seq) ∧ w'.cell? ⟨pb, off + k * 4 + 2, none⟩ = some (.bool (xs.getD k En.zero).dead) ∧ w'.cell? ⟨pb, off + k * 4 + 3, none⟩ = some (.string (xs.getD k En.zero).val)) := fun w' h => by
        obtain ⟨p1, o1, e1, q⟩ := elem_cells h.els hlt
        cases e1
        exact q
      have HDf : Hid ((xs.getD k En.zero).ahead K Q = false → addOne xs ⟨K, Q, true, V⟩ = xs.take k ++ ⟨K, Q, true, ⟨#[]⟩⟩ :: (if (xs.getD k En.zero).key = K ∧ (xs.getD k En.zero).seq = Q then xs.drop (k + 1) else xs.drop k)) := fun h => by
        rw [addOne_at hk HN.out (fun _ => h), without_drop hlt]
        rfl
      have HT : Hid ((xs.getD k En.zero).ahead K Q = true → ∀ e ∈ xs.take (k + 1), e.ahead K Q = true) := fun h => all_take (p := fun e => e.ahead K Q) hlt HN.out h
      generalize xs.getD k En.zero = z at *
      have hk1 : (k : Int) < (xs.length : Int) := by omega
      have HXd : Hid (∀ wq, Below wr.drew.heap.size wr.drew wq → AddAt w (some ⟨pb, off, none⟩) xs ⟨K, Q, true, ⟨#[]⟩⟩ wq) := fun wq h => AddAt.below HX.out ⟨h.os, h.tape, h.output, h.size, h.block⟩
      cases hA : z.ahead K Q
      · rw [hA] at HLk
        have HDg : Hid _ := HDf.out hA
        clear hA HDf HT HN HX HL HA
        go_wp2_with fail
        go_region_held3 (fun w' => w'.cell? ⟨pb, off + k * 4, none⟩ = some (.string z.key) ∧ w'.cell? ⟨pb, off + k * 4 + 1, none⟩ = some (.int .i64 z.seq) ∧ w'.cell? ⟨pb, off + k * 4 + 2, none⟩ = some (.bool z.dead) ∧ w'.cell? ⟨pb, off + k * 4 + 3, none⟩ = some (.string z.val) ∧ w'.cell? ⟨w.heap.size, 0, none⟩ = some (.string K) ∧ w'.cell? ⟨w.heap.size, 1, none⟩ = some (.int .i64 Q) ∧ w'.cell? ⟨w.heap.size, 2, none⟩ = some (.bool true) ∧ w'.cell? ⟨w.heap.size, 3, none⟩ = some (.string ⟨#[]⟩)) (first | with_reducible exact ⟨c0, c1, c2, c3, b0, b1, b2, b3⟩ | with_reducible exact ⟨p0, p1, p2, p3, q0, q1, q2, q3⟩ | exact ⟨c0, c1, c2, c3, b0, b1, b2, b3⟩)
          ((go_at_call 23; refine (show Calls _ _ _ _ _ from HLk.out _).mono ?_; rintro e w2 ⟨rfl, hb2⟩; have hx2 := HXd.out w2 hb2; obtain ⟨p0, p1, p2, p3⟩ := HKc.out w2 hx2; obtain ⟨q0, q1, q2, q3, _⟩ := ent_cells hx2.box))
        replace HX : Hid _ := hx2
        clear hb2 hx2 p0 p1 p2 p3 q0 q1 q2 q3 c0 c1 c2 c3 b0 b1 b2 b3 HXd HLk
        generalize w2 = X at *
        have hbk := beq_toList z.key K
        by_cases he : z.key = K ∧ z.seq = Q
        · have HDn : Hid (addOne xs ⟨K, Q, true, V⟩ = xs.take k ++ ⟨K, Q, true, ⟨#[]⟩⟩ :: xs.drop (k + 1)) := by
            have := HDg.out
            rw [if_pos he] at this
            exact this
          rw [decide_eq_true he.1] at hbk
          have hsq : (z.seq == Q) = true := by simpa using he.2
          have hk5 : (k : Int) + 1 ≤ (xs.length : Int) := by omega
          have hk6 : (k : Int) + 1 ≤ (ca : Int) := by omega
          clear HDg he
          have hts := HX.out.els
          have htk := elems_take hts k
          have hbx := HX.out.bel.size
          have htl : (xs.take k).length = k := by rw [List.length_take]; omega
          go_wp2_with (at_builtin; refine wpList_append_rows (F := enShape) _ rfl _ _ 23 rfl X.heap.size 31 i0 _ 48 Try.underlying23 hi hz0 hz1 hz2 rfl (.slice none 0 0) 0 [] rfl (World.ownsRow_nil _ _ _ _) (some ⟨pb, off, none⟩) k ca (xs.take k) rfl hnil htl htk ?a1 ?a2 ?a3 ?_)
          case a1 => unfold maxLen; omega
          case a2 => omega
          case a3 => exact Nat.le_refl _
          intro v1 w1 hown1 hgrow1 hat1
          have hB1 : Below X.heap.size X w1 := (Below.refl _ _).grown hgrow1 (Nat.le_refl _) (fun j hj => by simp [Value.ownBlock] at hj)
          have HX1 : Hid _ := AddAt.below HX.out hB1
          have HO1 : Hid (w1.ownsRow X.heap.size 31 enShape.sz v1 k (enShape.vals (xs.take k))) := by show w1.ownsRow _ _ _ _ _ _; simpa using hown1
          obtain ⟨y0, y1, y2, y3, _⟩ := ent_cells HX1.out.box
          have hbs1 := hB1.size
          have helm : ElemsAt enShape (w1.alloc (.cells #[.string K, .int .i64 Q, .bool true, .string ⟨#[]⟩] 31)) (some ⟨w1.heap.size, 0, none⟩) [⟨K, Q, true, ⟨#[]⟩⟩] := elems1 ⟨K, Q, true, ⟨#[]⟩⟩
          have HB1 : Hid _ := hB1
          clear hown1 hgrow1 hat1 hts htk hB1
          go_wp2_with (at_builtin; refine wpList_append_rows (F := enShape) _ rfl _ _ 23 rfl X.heap.size 31 i0 _ 48 Try.underlying23 hi hz0 hz1 hz2 rfl v1 k (xs.take k) rfl (World.ownsRow.alloc HO1.out _) (some ⟨w1.heap.size, 0, none⟩) 1 1 [⟨K, Q, true, ⟨#[]⟩⟩] rfl (by simp) rfl helm ?b1 ?b2 ?b3 ?_)
          case b1 => unfold maxLen; omega
          case b2 => omega
          case b3 => first | omega | (simp; omega)
          intro v2 w2 hown2 hgrow2 hat2
          have hB2 : Below X.heap.size X w2 := (HB1.out.alloc hbs1 _).grown hgrow2 (by simp; omega) (fun j hj => (World.ownsRow.lt HO1.out j hj).1)
          have HX2 : Hid (AddAt w (some ⟨pb, off, none⟩) xs ⟨K, Q, true, ⟨#[]⟩⟩ w2) := AddAt.below HX.out hB2
          have hbs2 := hB2.size
          have HO2 : Hid (w2.ownsRow X.heap.size 31 enShape.sz v2 (k + 1) (enShape.vals (xs.take k ++ [⟨K, Q, true, ⟨#[]⟩⟩]))) := hown2
          obtain ⟨x0, x1, x2, x3, _⟩ := ent_cells HX2.out.box
          obtain ⟨e0, e1, e2, e3⟩ := HKc.out w2 HX2.out
          clear HKc
          clear hown2 hgrow2 hat2 hB2 helm HX1 HO1 HB1 y0 y1 y2 y3
          go_wp2_with fail
          go_quiet (fail)
          clear e0 e1 e2 e3
          have HX3 : Hid (AddAt w (some ⟨pb, off, none⟩) xs ⟨K, Q, true, ⟨#[]⟩⟩ (w2.drewN nq)) := AddAt.below HX2.out ⟨rfl, rfl, rfl, Nat.le_refl _, fun _ _ => rfl⟩
          have HO3 : Hid ((w2.drewN nq).ownsRow X.heap.size 31 enShape.sz v2 (k + 1) (enShape.vals (xs.take k ++ [⟨K, Q, true, ⟨#[]⟩⟩]))) := HO2.out
          have hbs5 : X.heap.size ≤ (w2.drewN nq).heap.size := hbs2
          have HE3 : Hid _ := src_ne HX3.out.els (k + 1)
          clear x0 x1 x2 x3 HX2 HO2
          generalize w2.drewN nq = w5 at *
          by_cases hck : ca = k + 1
          · have hd0 : xs.drop (k + 1) = [] := List.drop_of_length_le (by omega)
            go_wp2_with (at_builtin; (refine wpList_append_rows (F := enShape) _ rfl _ _ 23 rfl X.heap.size 31 i0 _ 48 Try.underlying23 hi hz0 hz1 hz2 rfl v2 (k + 1) (xs.take k ++ [⟨K, Q, true, ⟨#[]⟩⟩]) rfl HO3.out _ _ _ (xs.drop (k + 1)) rfl (by simp) ?n2 ?n3 ?d1 ?d2 ?d3 ?_))
            case n2 => rw [List.length_drop]
            case n3 => exact .inl hd0
            case d1 => unfold maxLen; omega
            case d2 => omega
            case d3 => omega
            intro v3 w3 hown3 hgrow3 hat3
            have ho3 : w3.ownsRow X.heap.size 31 4 v3 (k + 1 + (xs.length - (k + 1))) (enShape.vals (xs.take k ++ [⟨K, Q, true, ⟨#[]⟩⟩] ++ xs.drop (k + 1))) := by rw [hd0, List.append_nil]; exact hown3
            have HR : Hid (AddAns w (.returned v3) (addOne xs ⟨K, Q, true, V⟩) w3) := by
              show AddAns _ _ _ _
              unfold AddAns
              rw [HDn.out]
              exact add_end hbx HX3.out HO3.out ho3 (by rw [List.length_drop]) (by simp; omega) hgrow3
            clear hown3 hgrow3 hat3 ho3
            go_wp2
            go_ret
            exact HR.out
          · go_wp2_with (at_builtin; (refine wpList_append_rows (F := enShape) _ rfl _ _ 23 rfl X.heap.size 31 i0 _ 48 Try.underlying23 hi hz0 hz1 hz2 rfl v2 (k + 1) (xs.take k ++ [⟨K, Q, true, ⟨#[]⟩⟩]) rfl HO3.out _ _ _ (xs.drop (k + 1)) rfl (by simp) ?n2 ?n3 ?d1 ?d2 ?d3 ?_))
            case n2 => rw [List.length_drop]
            case n3 => first | exact HE3.out | (have h3 : ElemsAt _ _ _ _ := HE3.out; rw [Go.WideShapes.add_plain] at h3; exact h3)
            case d1 => unfold maxLen; omega
            case d2 => omega
            case d3 => omega
            intro v3 w3 hown3 hgrow3 hat3
            have ho3 : w3.ownsRow X.heap.size 31 4 v3 (k + 1 + (xs.length - (k + 1))) (enShape.vals (xs.take k ++ [⟨K, Q, true, ⟨#[]⟩⟩] ++ xs.drop (k + 1))) := by rw [List.append_assoc]; exact hown3
            have HR : Hid (AddAns w (.returned v3) (addOne xs ⟨K, Q, true, V⟩) w3) := by
              show AddAns _ _ _ _
              unfold AddAns
              rw [HDn.out]
              exact add_end hbx HX3.out HO3.out ho3 (by rw [List.length_drop]) (by simp; omega) hgrow3
            clear hown3 hgrow3 hat3 ho3
            go_wp2
            go_ret
            exact HR.out
        · have HDn : Hid (addOne xs ⟨K, Q, true, V⟩ = xs.take k ++ ⟨K, Q, true, ⟨#[]⟩⟩ :: xs.drop k) := by
            have := HDg.out
            rw [if_neg he] at this
            exact this
          by_cases hkk : z.key = K
          · rw [decide_eq_true hkk] at hbk
            have hsq : (z.seq == Q) = false := by simp only [beq_eq_false_iff_ne, ne_eq]; exact fun e => he ⟨hkk, e⟩
            clear HDg he hkk
            have hts := HX.out.els
            have htk := elems_take hts k
            have hbx := HX.out.bel.size
            have htl : (xs.take k).length = k := by rw [List.length_take]; omega
            go_wp2_with (at_builtin; refine wpList_append_rows (F := enShape) _ rfl _ _ 23 rfl X.heap.size 31 i0 _ 48 Try.underlying23 hi hz0 hz1 hz2 rfl (.slice none 0 0) 0 [] rfl (World.ownsRow_nil _ _ _ _) (some ⟨pb, off, none⟩) k ca (xs.take k) rfl hnil htl htk ?a1 ?a2 ?a3 ?_)
            case a1 => unfold maxLen; omega
            case a2 => omega
            case a3 => exact Nat.le_refl _
            intro v1 w1 hown1 hgrow1 hat1
            have hB1 : Below X.heap.size X w1 := (Below.refl _ _).grown hgrow1 (Nat.le_refl _) (fun j hj => by simp [Value.ownBlock] at hj)
            have HX1 : Hid _ := AddAt.below HX.out hB1
            have HO1 : Hid (w1.ownsRow X.heap.size 31 enShape.sz v1 k (enShape.vals (xs.take k))) := by show w1.ownsRow _ _ _ _ _ _; simpa using hown1
            obtain ⟨y0, y1, y2, y3, _⟩ := ent_cells HX1.out.box
            have hbs1 := hB1.size
            have helm : ElemsAt enShape (w1.alloc (.cells #[.string K, .int .i64 Q, .bool true, .string ⟨#[]⟩] 31)) (some ⟨w1.heap.size, 0, none⟩) [⟨K, Q, true, ⟨#[]⟩⟩] := elems1 ⟨K, Q, true, ⟨#[]⟩⟩
            have HB1 : Hid _ := hB1
            clear hown1 hgrow1 hat1 hts htk hB1
            go_wp2_with (at_builtin; refine wpList_append_rows (F := enShape) _ rfl _ _ 23 rfl X.heap.size 31 i0 _ 48 Try.underlying23 hi hz0 hz1 hz2 rfl v1 k (xs.take k) rfl (World.ownsRow.alloc HO1.out _) (some ⟨w1.heap.size, 0, none⟩) 1 1 [⟨K, Q, true, ⟨#[]⟩⟩] rfl (by simp) rfl helm ?b1 ?b2 ?b3 ?_)
            case b1 => unfold maxLen; omega
            case b2 => omega
            case b3 => first | omega | (simp; omega)
            intro v2 w2 hown2 hgrow2 hat2
            have hB2 : Below X.heap.size X w2 := (HB1.out.alloc hbs1 _).grown hgrow2 (by simp; omega) (fun j hj => (World.ownsRow.lt HO1.out j hj).1)
            have HX2 : Hid (AddAt w (some ⟨pb, off, none⟩) xs ⟨K, Q, true, ⟨#[]⟩⟩ w2) := AddAt.below HX.out hB2
            have hbs2 := hB2.size
            have HO2 : Hid (w2.ownsRow X.heap.size 31 enShape.sz v2 (k + 1) (enShape.vals (xs.take k ++ [⟨K, Q, true, ⟨#[]⟩⟩]))) := hown2
            obtain ⟨x0, x1, x2, x3, _⟩ := ent_cells HX2.out.box
            obtain ⟨e0, e1, e2, e3⟩ := HKc.out w2 HX2.out
            clear HKc
            clear hown2 hgrow2 hat2 hB2 helm HX1 HO1 HB1 y0 y1 y2 y3
            go_wp2_with fail
            go_quiet (fail)
            clear e0 e1 e2 e3
            have HX3 : Hid (AddAt w (some ⟨pb, off, none⟩) xs ⟨K, Q, true, ⟨#[]⟩⟩ (w2.drewN nq)) := AddAt.below HX2.out ⟨rfl, rfl, rfl, Nat.le_refl _, fun _ _ => rfl⟩
            have HO3 : Hid ((w2.drewN nq).ownsRow X.heap.size 31 enShape.sz v2 (k + 1) (enShape.vals (xs.take k ++ [⟨K, Q, true, ⟨#[]⟩⟩]))) := HO2.out
            have hbs5 : X.heap.size ≤ (w2.drewN nq).heap.size := hbs2
            have HE3 : Hid _ := src_ne HX3.out.els (k)
            clear x0 x1 x2 x3 HX2 HO2
            generalize w2.drewN nq = w5 at *
            by_cases hck : ca = k
            · have hd0 : xs.drop (k) = [] := List.drop_of_length_le (by omega)
              go_wp2_with (at_builtin; (refine wpList_append_rows (F := enShape) _ rfl _ _ 23 rfl X.heap.size 31 i0 _ 48 Try.underlying23 hi hz0 hz1 hz2 rfl v2 (k + 1) (xs.take k ++ [⟨K, Q, true, ⟨#[]⟩⟩]) rfl HO3.out _ _ _ (xs.drop (k)) rfl (by simp) ?n2 ?n3 ?d1 ?d2 ?d3 ?_))
              case n2 => rw [List.length_drop]
              case n3 => exact .inl hd0
              case d1 => unfold maxLen; omega
              case d2 => omega
              case d3 => omega
              intro v3 w3 hown3 hgrow3 hat3
              have ho3 : w3.ownsRow X.heap.size 31 4 v3 (k + 1 + (xs.length - (k))) (enShape.vals (xs.take k ++ [⟨K, Q, true, ⟨#[]⟩⟩] ++ xs.drop (k))) := by rw [hd0, List.append_nil]; exact hown3
              have HR : Hid (AddAns w (.returned v3) (addOne xs ⟨K, Q, true, V⟩) w3) := by
                show AddAns _ _ _ _
                unfold AddAns
                rw [HDn.out]
                exact add_end hbx HX3.out HO3.out ho3 (by rw [List.length_drop]) (by simp; omega) hgrow3
              clear hown3 hgrow3 hat3 ho3
              go_wp2
              go_ret
              exact HR.out
            · go_wp2_with (at_builtin; (refine wpList_append_rows (F := enShape) _ rfl _ _ 23 rfl X.heap.size 31 i0 _ 48 Try.underlying23 hi hz0 hz1 hz2 rfl v2 (k + 1) (xs.take k ++ [⟨K, Q, true, ⟨#[]⟩⟩]) rfl HO3.out _ _ _ (xs.drop (k)) rfl (by simp) ?n2 ?n3 ?d1 ?d2 ?d3 ?_))
              case n2 => rw [List.length_drop]
              case n3 => first | exact HE3.out | (have h3 : ElemsAt _ _ _ _ := HE3.out; rw [Go.WideShapes.add_plain] at h3; exact h3)
              case d1 => unfold maxLen; omega
              case d2 => omega
              case d3 => omega
              intro v3 w3 hown3 hgrow3 hat3
              have ho3 : w3.ownsRow X.heap.size 31 4 v3 (k + 1 + (xs.length - (k))) (enShape.vals (xs.take k ++ [⟨K, Q, true, ⟨#[]⟩⟩] ++ xs.drop (k))) := by rw [List.append_assoc]; exact hown3
              have HR : Hid (AddAns w (.returned v3) (addOne xs ⟨K, Q, true, V⟩) w3) := by
                show AddAns _ _ _ _
                unfold AddAns
                rw [HDn.out]
                exact add_end hbx HX3.out HO3.out ho3 (by rw [List.length_drop]) (by simp; omega) hgrow3
              clear hown3 hgrow3 hat3 ho3
              go_wp2
              go_ret
              exact HR.out
          · rw [decide_eq_false hkk] at hbk
            clear HDg he hkk
            have hts := HX.out.els
            have htk := elems_take hts k
            have hbx := HX.out.bel.size
            have htl : (xs.take k).length = k := by rw [List.length_take]; omega
            go_wp2_with (at_builtin; refine wpList_append_rows (F := enShape) _ rfl _ _ 23 rfl X.heap.size 31 i0 _ 48 Try.underlying23 hi hz0 hz1 hz2 rfl (.slice none 0 0) 0 [] rfl (World.ownsRow_nil _ _ _ _) (some ⟨pb, off, none⟩) k ca (xs.take k) rfl hnil htl htk ?a1 ?a2 ?a3 ?_)
            case a1 => unfold maxLen; omega
            case a2 => omega
            case a3 => exact Nat.le_refl _
            intro v1 w1 hown1 hgrow1 hat1
            have hB1 : Below X.heap.size X w1 := (Below.refl _ _).grown hgrow1 (Nat.le_refl _) (fun j hj => by simp [Value.ownBlock] at hj)
            have HX1 : Hid _ := AddAt.below HX.out hB1
            have HO1 : Hid (w1.ownsRow X.heap.size 31 enShape.sz v1 k (enShape.vals (xs.take k))) := by show w1.ownsRow _ _ _ _ _ _; simpa using hown1
            obtain ⟨y0, y1, y2, y3, _⟩ := ent_cells HX1.out.box
            have hbs1 := hB1.size
            have helm : ElemsAt enShape (w1.alloc (.cells #[.string K, .int .i64 Q, .bool true, .string ⟨#[]⟩] 31)) (some ⟨w1.heap.size, 0, none⟩) [⟨K, Q, true, ⟨#[]⟩⟩] := elems1 ⟨K, Q, true, ⟨#[]⟩⟩
            have HB1 : Hid _ := hB1
            clear hown1 hgrow1 hat1 hts htk hB1
            go_wp2_with (at_builtin; refine wpList_append_rows (F := enShape) _ rfl _ _ 23 rfl X.heap.size 31 i0 _ 48 Try.underlying23 hi hz0 hz1 hz2 rfl v1 k (xs.take k) rfl (World.ownsRow.alloc HO1.out _) (some ⟨w1.heap.size, 0, none⟩) 1 1 [⟨K, Q, true, ⟨#[]⟩⟩] rfl (by simp) rfl helm ?b1 ?b2 ?b3 ?_)
            case b1 => unfold maxLen; omega
            case b2 => omega
            case b3 => first | omega | (simp; omega)
            intro v2 w2 hown2 hgrow2 hat2
            have hB2 : Below X.heap.size X w2 := (HB1.out.alloc hbs1 _).grown hgrow2 (by simp; omega) (fun j hj => (World.ownsRow.lt HO1.out j hj).1)
            have HX2 : Hid (AddAt w (some ⟨pb, off, none⟩) xs ⟨K, Q, true, ⟨#[]⟩⟩ w2) := AddAt.below HX.out hB2
            have hbs2 := hB2.size
            have HO2 : Hid (w2.ownsRow X.heap.size 31 enShape.sz v2 (k + 1) (enShape.vals (xs.take k ++ [⟨K, Q, true, ⟨#[]⟩⟩]))) := hown2
            obtain ⟨x0, x1, x2, x3, _⟩ := ent_cells HX2.out.box
            obtain ⟨e0, e1, e2, e3⟩ := HKc.out w2 HX2.out
            clear HKc
            clear hown2 hgrow2 hat2 hB2 helm HX1 HO1 HB1 y0 y1 y2 y3
            go_wp2_with fail
            go_quiet (fail)
            clear e0 e1 e2 e3
            have HX3 : Hid (AddAt w (some ⟨pb, off, none⟩) xs ⟨K, Q, true, ⟨#[]⟩⟩ (w2.drewN nq)) := AddAt.below HX2.out ⟨rfl, rfl, rfl, Nat.le_refl _, fun _ _ => rfl⟩
            have HO3 : Hid ((w2.drewN nq).ownsRow X.heap.size 31 enShape.sz v2 (k + 1) (enShape.vals (xs.take k ++ [⟨K, Q, true, ⟨#[]⟩⟩]))) := HO2.out
            have hbs5 : X.heap.size ≤ (w2.drewN nq).heap.size := hbs2
            have HE3 : Hid _ := src_ne HX3.out.els (k)
            clear x0 x1 x2 x3 HX2 HO2
            generalize w2.drewN nq = w5 at *
            by_cases hck : ca = k
            · have hd0 : xs.drop (k) = [] := List.drop_of_length_le (by omega)
              go_wp2_with (at_builtin; (refine wpList_append_rows (F := enShape) _ rfl _ _ 23 rfl X.heap.size 31 i0 _ 48 Try.underlying23 hi hz0 hz1 hz2 rfl v2 (k + 1) (xs.take k ++ [⟨K, Q, true, ⟨#[]⟩⟩]) rfl HO3.out _ _ _ (xs.drop (k)) rfl (by simp) ?n2 ?n3 ?d1 ?d2 ?d3 ?_))
              case n2 => rw [List.length_drop]
              case n3 => exact .inl hd0
              case d1 => unfold maxLen; omega
              case d2 => omega
              case d3 => omega
              intro v3 w3 hown3 hgrow3 hat3
              have ho3 : w3.ownsRow X.heap.size 31 4 v3 (k + 1 + (xs.length - (k))) (enShape.vals (xs.take k ++ [⟨K, Q, true, ⟨#[]⟩⟩] ++ xs.drop (k))) := by rw [hd0, List.append_nil]; exact hown3
              have HR : Hid (AddAns w (.returned v3) (addOne xs ⟨K, Q, true, V⟩) w3) := by
                show AddAns _ _ _ _
                unfold AddAns
                rw [HDn.out]
                exact add_end hbx HX3.out HO3.out ho3 (by rw [List.length_drop]) (by simp; omega) hgrow3
              clear hown3 hgrow3 hat3 ho3
              go_wp2
              go_ret
              exact HR.out
            · go_wp2_with (at_builtin; (refine wpList_append_rows (F := enShape) _ rfl _ _ 23 rfl X.heap.size 31 i0 _ 48 Try.underlying23 hi hz0 hz1 hz2 rfl v2 (k + 1) (xs.take k ++ [⟨K, Q, true, ⟨#[]⟩⟩]) rfl HO3.out _ _ _ (xs.drop (k)) rfl (by simp) ?n2 ?n3 ?d1 ?d2 ?d3 ?_))
              case n2 => rw [List.length_drop]
              case n3 => first | exact HE3.out | (have h3 : ElemsAt _ _ _ _ := HE3.out; rw [Go.WideShapes.add_plain] at h3; exact h3)
              case d1 => unfold maxLen; omega
              case d2 => omega
              case d3 => omega
              intro v3 w3 hown3 hgrow3 hat3
              have ho3 : w3.ownsRow X.heap.size 31 4 v3 (k + 1 + (xs.length - (k))) (enShape.vals (xs.take k ++ [⟨K, Q, true, ⟨#[]⟩⟩] ++ xs.drop (k))) := by rw [List.append_assoc]; exact hown3
              have HR : Hid (AddAns w (.returned v3) (addOne xs ⟨K, Q, true, V⟩) w3) := by
                show AddAns _ _ _ _
                unfold AddAns
                rw [HDn.out]
                exact add_end hbx HX3.out HO3.out ho3 (by rw [List.length_drop]) (by simp; omega) hgrow3
              clear hown3 hgrow3 hat3 ho3
              go_wp2
              go_ret
              exact HR.out
      · rw [hA] at HLk
        have HTn : Hid _ := HT.out hA
        clear hA HDf HT HN HX HL HA
        go_wp2_with fail
        go_region_held3 (fun w' => w'.cell? ⟨pb, off + k * 4, none⟩ = some (.string z.key) ∧ w'.cell? ⟨pb, off + k * 4 + 1, none⟩ = some (.int .i64 z.seq) ∧ w'.cell? ⟨pb, off + k * 4 + 2, none⟩ = some (.bool z.dead) ∧ w'.cell? ⟨pb, off + k * 4 + 3, none⟩ = some (.string z.val) ∧ w'.cell? ⟨w.heap.size, 0, none⟩ = some (.string K) ∧ w'.cell? ⟨w.heap.size, 1, none⟩ = some (.int .i64 Q) ∧ w'.cell? ⟨w.heap.size, 2, none⟩ = some (.bool true) ∧ w'.cell? ⟨w.heap.size, 3, none⟩ = some (.string ⟨#[]⟩)) (first | with_reducible exact ⟨c0, c1, c2, c3, b0, b1, b2, b3⟩ | with_reducible exact ⟨p0, p1, p2, p3, q0, q1, q2, q3⟩ | exact ⟨c0, c1, c2, c3, b0, b1, b2, b3⟩)
          ((go_at_call 23; refine (show Calls _ _ _ _ _ from HLk.out _).mono ?_; rintro e w2 ⟨rfl, hb2⟩; have hx2 := HXd.out w2 hb2; obtain ⟨p0, p1, p2, p3⟩ := HKc.out w2 hx2; obtain ⟨q0, q1, q2, q3, _⟩ := ent_cells hx2.box))
        have HX2 : Hid _ := hx2
        clear hb2 hx2 p0 p1 p2 p3 q0 q1 q2 q3 HXd HLk
        go_wp2
        go_roundw
        case rel => exact ⟨k + 1, by omega, by go_num, HTn, HX2⟩
        case measure => simp [intOf]; omega
    · have hkl : Hid (k = xs.length) := by show _ = _; omega
      have hdc : decide ((k : Int) < (xs.length : Int)) = false := by simp; omega
      have hdn : decide (k < xs.length) = false := by simp; omega
      have HDn : Hid (addOne xs ⟨K, Q, true, V⟩ = xs.take k ++ ⟨K, Q, true, ⟨#[]⟩⟩ :: xs.drop k) := by
        show _ = _
        rw [addOne_at hk HN.out (fun h => absurd h hlt), List.drop_of_length_le (by omega)]
        rfl
      clear hlt HN hkl
      go_wp2_with fail
      go_quiet (fail)
      clear hdc
      replace HX : Hid (AddAt w (some a) xs ⟨K, Q, true, ⟨#[]⟩⟩ (wr.drewN nq)) := AddAt.below HX.out ⟨rfl, rfl, rfl, Nat.le_refl _, fun _ _ => rfl⟩
      generalize wr.drewN nq = X at *
      have hts := HX.out.els
      have htk := elems_take hts k
      have hbx := HX.out.bel.size
      have htl : (xs.take k).length = k := by rw [List.length_take]; omega
      go_wp2_with (at_builtin; refine wpList_append_rows (F := enShape) _ rfl _ _ 23 rfl X.heap.size 31 i0 _ 48 Try.underlying23 hi hz0 hz1 hz2 rfl (.slice none 0 0) 0 [] rfl (World.ownsRow_nil _ _ _ _) (some a) k ca (xs.take k) rfl hnil htl htk ?a1 ?a2 ?a3 ?_)
      case a1 => unfold maxLen; omega
      case a2 => omega
      case a3 => exact Nat.le_refl _
      intro v1 w1 hown1 hgrow1 hat1
      have hB1 : Below X.heap.size X w1 := (Below.refl _ _).grown hgrow1 (Nat.le_refl _) (fun j hj => by simp [Value.ownBlock] at hj)
      have HX1 : Hid _ := AddAt.below HX.out hB1
      have HO1 : Hid (w1.ownsRow X.heap.size 31 enShape.sz v1 k (enShape.vals (xs.take k))) := by show w1.ownsRow _ _ _ _ _ _; simpa using hown1
      obtain ⟨y0, y1, y2, y3, _⟩ := ent_cells HX1.out.box
      have hbs1 := hB1.size
      have helm : ElemsAt enShape (w1.alloc (.cells #[.string K, .int .i64 Q, .bool true, .string ⟨#[]⟩] 31)) (some ⟨w1.heap.size, 0, none⟩) [⟨K, Q, true, ⟨#[]⟩⟩] := elems1 ⟨K, Q, true, ⟨#[]⟩⟩
      have HB1 : Hid _ := hB1
      clear hown1 hgrow1 hat1 hts htk hB1
      go_wp2_with (at_builtin; refine wpList_append_rows (F := enShape) _ rfl _ _ 23 rfl X.heap.size 31 i0 _ 48 Try.underlying23 hi hz0 hz1 hz2 rfl v1 k (xs.take k) rfl (World.ownsRow.alloc HO1.out _) (some ⟨w1.heap.size, 0, none⟩) 1 1 [⟨K, Q, true, ⟨#[]⟩⟩] rfl (by simp) rfl helm ?b1 ?b2 ?b3 ?_)
      case b1 => unfold maxLen; omega
      case b2 => omega
      case b3 => first | omega | (simp; omega)
      intro v2 w2 hown2 hgrow2 hat2
      have hB2 : Below X.heap.size X w2 := (HB1.out.alloc hbs1 _).grown hgrow2 (by simp; omega) (fun j hj => (World.ownsRow.lt HO1.out j hj).1)
      have HX2 : Hid (AddAt w (some a) xs ⟨K, Q, true, ⟨#[]⟩⟩ w2) := AddAt.below HX.out hB2
      have hbs2 := hB2.size
      have HO2 : Hid (w2.ownsRow X.heap.size 31 enShape.sz v2 (k + 1) (enShape.vals (xs.take k ++ [⟨K, Q, true, ⟨#[]⟩⟩]))) := hown2
      obtain ⟨x0, x1, x2, x3, _⟩ := ent_cells HX2.out.box
      clear hown2 hgrow2 hat2 hB2 helm HX1 HO1 HB1 y0 y1 y2 y3
      go_wp2_with fail
      go_quiet (fail)
      have HX3 : Hid (AddAt w (some a) xs ⟨K, Q, true, ⟨#[]⟩⟩ (w2.drewN nq)) := AddAt.below HX2.out ⟨rfl, rfl, rfl, Nat.le_refl _, fun _ _ => rfl⟩
      have HO3 : Hid ((w2.drewN nq).ownsRow X.heap.size 31 enShape.sz v2 (k + 1) (enShape.vals (xs.take k ++ [⟨K, Q, true, ⟨#[]⟩⟩]))) := HO2.out
      have hbs5 : X.heap.size ≤ (w2.drewN nq).heap.size := hbs2
      have HE3 : Hid _ := src_ne HX3.out.els (k)
      clear x0 x1 x2 x3 HX2 HO2
      generalize w2.drewN nq = w5 at *
      by_cases hck : ca = k
      · have hd0 : xs.drop (k) = [] := List.drop_of_length_le (by omega)
        go_wp2_with (at_builtin; (refine wpList_append_rows (F := enShape) _ rfl _ _ 23 rfl X.heap.size 31 i0 _ 48 Try.underlying23 hi hz0 hz1 hz2 rfl v2 (k + 1) (xs.take k ++ [⟨K, Q, true, ⟨#[]⟩⟩]) rfl HO3.out _ _ _ (xs.drop (k)) rfl (by simp) ?n2 ?n3 ?d1 ?d2 ?d3 ?_))
        case n2 => rw [List.length_drop]
        case n3 => exact .inl hd0
        case d1 => unfold maxLen; omega
        case d2 => omega
        case d3 => omega
        intro v3 w3 hown3 hgrow3 hat3
        have ho3 : w3.ownsRow X.heap.size 31 4 v3 (k + 1 + (xs.length - (k))) (enShape.vals (xs.take k ++ [⟨K, Q, true, ⟨#[]⟩⟩] ++ xs.drop (k))) := by rw [hd0, List.append_nil]; exact hown3
        have HR : Hid (AddAns w (.returned v3) (addOne xs ⟨K, Q, true, V⟩) w3) := by
          show AddAns _ _ _ _
          unfold AddAns
          rw [HDn.out]
          exact add_end hbx HX3.out HO3.out ho3 (by rw [List.length_drop]) (by simp; omega) hgrow3
        clear hown3 hgrow3 hat3 ho3
        go_wp2
        go_ret
        exact HR.out
      · go_wp2_with (at_builtin; (refine wpList_append_rows (F := enShape) _ rfl _ _ 23 rfl X.heap.size 31 i0 _ 48 Try.underlying23 hi hz0 hz1 hz2 rfl v2 (k + 1) (xs.take k ++ [⟨K, Q, true, ⟨#[]⟩⟩]) rfl HO3.out _ _ _ (xs.drop (k)) rfl (by simp) ?n2 ?n3 ?d1 ?d2 ?d3 ?_))
        case n2 => rw [List.length_drop]
        case n3 => first | exact HE3.out | (have h3 : ElemsAt _ _ _ _ := HE3.out; rw [Go.WideShapes.add_plain] at h3; exact h3)
        case d1 => unfold maxLen; omega
        case d2 => omega
        case d3 => omega
        intro v3 w3 hown3 hgrow3 hat3
        have ho3 : w3.ownsRow X.heap.size 31 4 v3 (k + 1 + (xs.length - (k))) (enShape.vals (xs.take k ++ [⟨K, Q, true, ⟨#[]⟩⟩] ++ xs.drop (k))) := by rw [List.append_assoc]; exact hown3
        have HR : Hid (AddAns w (.returned v3) (addOne xs ⟨K, Q, true, V⟩) w3) := by
          show AddAns _ _ _ _
          unfold AddAns
          rw [HDn.out]
          exact add_end hbx HX3.out HO3.out ho3 (by rw [List.length_drop]) (by simp; omega) hgrow3
        clear hown3 hgrow3 hat3 ho3
        go_wp2
        go_ret
        exact HR.out
end Go.Proofs.Ytbbncfgiimkpnaa.Mm
