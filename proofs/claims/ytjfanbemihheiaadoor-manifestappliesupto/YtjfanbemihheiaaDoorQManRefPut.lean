/-
  The reference: a list with a file in its place.
-/
import Derived.Test.YtjfanbemihheiaaDoorQManRef
import Derived.BigQuiet
namespace Go.Proofs.YtjfanbemihheiaaDoor.Ma
open Go.RowKit Cm
attribute [local go_sem ↓] Go.wp_at_zero Go.wp_at_succ
set_option linter.unusedVariables false

theorem fis_take {w : World} {ao : Option Addr} {xs : List Fi} (h : ElemsAt fiShape w ao xs) (k : Nat) : ElemsAt fiShape w ao (xs.take k) := by
  rcases h with rfl | ⟨b, off, rfl, hlt, hc⟩
  · exact .inl (by simp)
  · refine .inr ⟨b, off, rfl, hlt, fun i hi j u hu => ?_⟩
    have hi' : i < xs.length := by simp at hi; omega
    rw [List.getElem_take] at hu
    exact hc i hi' j u hu
theorem fis_drop {w : World} {b off : Nat} {xs : List Fi} (h : ElemsAt fiShape w (some ⟨b, off, none⟩) xs) (k : Nat) : ElemsAt fiShape w (some ⟨b, off + k * 2, none⟩) (xs.drop k) := by
  rcases h with rfl | ⟨b', off', he, hlt, hc⟩
  · exact .inl (by simp)
  · cases he
    refine .inr ⟨b, off + k * 2, rfl, hlt, fun i hi j u hu => ?_⟩
    have hi' : k + i < xs.length := by simp at hi; omega
    rw [List.getElem_drop] at hu
    have := hc (k + i) hi' j u hu
    rw [show off + k * 2 + i * fiShape.sz + j = off + (k + i) * fiShape.sz + j by show off + k * 2 + i * 2 + j = off + (k + i) * 2 + j; omega]
    exact this
/-- The file's box, the list: what the loop leans on. -/
structure PutAt (w : World) (ao : Option Addr) (xs : List Fi) (f : Fi) (X : World) : Prop where
  box : X.heap[w.heap.size]? = some (fiObj f)
  els : ElemsAt fiShape X ao xs
  bel : Below w.heap.size w X
theorem PutAt.below {w X Y : World} {ao : Option Addr} {xs : List Fi} {f : Fi} (h : PutAt w ao xs f X) (hb : Below X.heap.size X Y) : PutAt w ao xs f Y :=
  ⟨(hb.block _ (lt_of_block h.box)).trans h.box, h.els.later hb, h.bel.trans (hb.mono h.bel.size)⟩
theorem PutAt.drew {w X : World} {ao : Option Addr} {xs : List Fi} {f : Fi} (h : PutAt w ao xs f X) (n : Nat) : PutAt w ao xs f (X.drewN n) := h.below ⟨rfl, rfl, rfl, Nat.le_refl _, fun _ _ => rfl⟩
theorem fb_cells {w : World} {g : Nat} {f : Fi} (h : w.heap[g]? = some (fiObj f)) : w.cell? ⟨g, 0, none⟩ = some (.int .i64 f.1) ∧ w.cell? ⟨g, 1, none⟩ = some (.int .i64 f.2) := by
  refine ⟨?_, ?_⟩ <;> rw [Joins.cell_of_block h] <;> rfl
def PutAns (w : World) (ys : List Fi) (r : Ending) (w' : World) : Prop := ∃ v, r = .returned v ∧ w'.ownsRow w.heap.size 28 2 v ys.length (fiShape.vals ys) ∧ Below w.heap.size w w'
theorem put_end {w X Y : World} {ao : Option Addr} {xs ps qs : List Fi} {y : Fi} {v v' : Value} {n m : Nat} {vs : List Value} {B : Nat} (hB : w.heap.size ≤ B) (h : PutAt w ao xs y X) (hr : X.ownsRow B 28 2 v n vs) (ho : Y.ownsRow B 28 2 v' (n + m) (fiShape.vals (ps ++ [y] ++ qs))) (hm : qs.length = m) (hn : (ps ++ [y]).length = n) (hg : X.grownBy Y v.ownBlock) :
    PutAns w (ps ++ y :: qs) (.returned v') Y := by
  have e2 : ps ++ y :: qs = ps ++ [y] ++ qs := by simp
  refine ⟨v', rfl, ?_, h.bel.grown hg h.bel.size (fun j hj => Nat.le_trans hB (hr.lt j hj).1)⟩
  rw [e2, List.length_append, hn, hm]
  exact Joins.ownsRow_le ho hB
theorem one_box (w : World) (f : Fi) : ElemsAt fiShape (w.alloc (.cells #[.int .i64 f.1, .int .i64 f.2] 28)) (some ⟨w.heap.size, 0, none⟩) [f] := by
  refine .inr ⟨w.heap.size, 0, rfl, by simp, fun i hi j u hu => ?_⟩
  obtain rfl : i = 0 := by simpa using hi
  have hb := heap_alloc_new w (.cells #[.int .i64 f.1, .int .i64 f.2] 28)
  match j, hu with
  | 0, hu => simp [fiShape] at hu; subst hu; exact (fb_cells hb).1
  | 1, hu => simp [fiShape] at hu; subst hu; exact (fb_cells hb).2
  | (t + 2), hu => simp [fiShape] at hu
set_option maxRecDepth 100000 in
set_option maxHeartbeats 2000000 in
theorem putR_live (g : Nat) (ca : Nat) (xs : List Fi) (f : Fi) (w : World) (hx : ElemsAt fiShape w (some ⟨g, 0, none⟩) xs) (hs : xs.Pairwise fun a b => leF a b = true) (hl : xs.length ≤ 100000000000) (hca : xs.length ≤ ca) :
    Calls Tryd.prog 15 #[.slice (some ⟨g, 0, none⟩) xs.length ca, .agg #[.int .i64 f.1, .int .i64 f.2]] w (PutAns w (srt (xs ++ [f]))) := by
  obtain ⟨i0, hi, hz0, hz1, hz2⟩ := info_parts infoFi
  obtain ⟨m, hm⟩ : ∃ m, m = xs.length := ⟨_, rfl⟩
  have HM : Hid (m = xs.length) := hm
  have HS : Hid (xs.Pairwise fun a b => leF a b = true) := hs
  have HA : Hid (PutAt w (some ⟨g, 0, none⟩) xs f (w.alloc (fiObj f))) := ⟨heap_alloc_new w _, hx.later ((Below.refl _ _).alloc (Nat.le_refl _) _), (Below.refl _ _).alloc (Nat.le_refl _) _⟩
  rw [← hm] at hl hca ⊢
  clear hx hs hm
  unfold fiObj at HA
  go_enter Tryd.func15, Tryd.ntmps15
  go_wp2
  go_loopw [5] (fun i wr => ∃ k : Nat, k ≤ m ∧ i = .int .i64 k ∧ Hid (∀ j, k ≤ j → (h : j < xs.length) → leF xs[j] f = false) ∧ Hid (PutAt w (some ⟨g, 0, none⟩) xs f wr)) (fun i _ => (intOf i).toNat)
  case atStart => exact ⟨m, Nat.le_refl _, rfl, (fun j hj h => by have := HM.out; omega), HA⟩
  case round =>
    clear HA
    obtain ⟨k, hk, rfl, HN, HX⟩ := hrel
    obtain ⟨b0, b1⟩ := fb_cells HX.out.box
    have hst : (∃ k', k = k' + 1 ∧ leF (xs.getD k' (0, 0)) f = false) ∨ (k = 0 ∨ ∃ k', k = k' + 1 ∧ leF (xs.getD k' (0, 0)) f = true) := by
      rcases k with _ | k'
      · exact .inr (.inl rfl)
      · cases hle : leF (xs.getD k' (0, 0)) f with
        | false => exact .inl ⟨k', rfl, hle⟩
        | true => exact .inr (.inr ⟨k', rfl, hle⟩)
    rcases hst with ⟨k', rfl, hle⟩ | hst
    · have hkl : k' < xs.length := by have := HM.out; omega
      obtain ⟨pb, off, hgo, e0, e1⟩ := fi_cells HX.out.els hkl
      cases hgo
      rw [Nat.zero_add] at e0 e1
      have HN' : Hid (∀ j, k' ≤ j → (h : j < xs.length) → leF xs[j] f = false) := by
        intro j hj h
        rcases Nat.lt_or_ge k' j with h1 | h1
        · exact HN.out j h1 h
        · obtain rfl : j = k' := by omega
          rw [getD_lt _ _ _ hkl] at hle; exact hle
      have HXd : Hid (∀ n, PutAt w (some ⟨g, 0, none⟩) xs f (wr.drewN n)) := fun n => HX.out.drew n
      generalize xs.getD k' (0, 0) = z at *
      have hle' : ¬ (z.1 < f.1 ∨ (z.1 = f.1 ∧ z.2 ≤ f.2)) := by rw [← leF_iff, hle]; simp
      have hk0 : (0 : Int) < ((k' + 1 : Nat) : Int) := by omega
      have hk1 : ((k' + 1 : Nat) : Int) - 1 = (k' : Int) := by omega
      have hk2 : (k' : Int) < (m : Int) := by omega
      have hk3 : (0 : Int) ≤ (k' : Int) := by omega
      have hw : IntKind.i64.wrap (k' : Int) = (k' : Int) := IntWalk.i64_in _ ⟨by omega, by omega⟩
      clear hle HN HX
      by_cases h1 : f.1 < z.1
      · go_wp2_with fail
        go_quiet (fail)
        go_wp2
        go_roundw
        case rel => exact ⟨k', by omega, by go_num, HN'.out, HXd.out _⟩
        case measure => simp [intOf]
      · have h2 : z.1 = f.1 := by omega
        have h3 : f.2 < z.2 := by omega
        go_wp2_with fail
        go_quiet (fail)
        go_wp2
        go_roundw
        case rel => exact ⟨k', by omega, by go_num, HN'.out, HXd.out _⟩
        case measure => simp [intOf]
    · have HDn : Hid (srt (xs ++ [f]) = xs.take k ++ (f :: xs.drop k)) := by
        refine (put_srt HS.out (by have := HM.out; omega) HN.out fun h h0 => ?_).symm
        rcases hst with rfl | ⟨k', rfl, h1⟩
        · omega
        · have : k' < xs.length := h
          rw [getD_lt _ _ _ this] at h1
          exact h1
      have hkm : k ≤ xs.length := by have := HM.out; omega
      have HXd : Hid (∀ n, PutAt w (some ⟨g, 0, none⟩) xs f (wr.drewN n)) := fun n => HX.out.drew n
      have hst2 : k = 0 ∨ ∃ k' pb off, k = k' + 1 ∧ k' < m ∧ leF (xs.getD k' (0, 0)) f = true ∧ some (⟨g, 0, none⟩ : Addr) = some ⟨pb, off, none⟩ ∧ wr.cell? ⟨pb, off + k' * 2, none⟩ = some (.int .i64 (xs.getD k' (0, 0)).1) ∧ wr.cell? ⟨pb, off + k' * 2 + 1, none⟩ = some (.int .i64 (xs.getD k' (0, 0)).2) := by
        rcases hst with h | ⟨k', rfl, h1⟩
        · exact .inl h
        · obtain ⟨pb, off, h2, h3, h4⟩ := fi_cells HX.out.els (k := k') (by omega)
          exact .inr ⟨k', pb, off, rfl, by omega, h1, h2, h3, h4⟩
      have HHead : Hid (k = 0 ∨ ∃ k' z1 z2, k = k' + 1 ∧ k' < m ∧ (z1 < f.1 ∨ (z1 = f.1 ∧ z2 ≤ f.2)) ∧ wr.cell? ⟨g, k' * 2, none⟩ = some (.int .i64 z1) ∧ wr.cell? ⟨g, k' * 2 + 1, none⟩ = some (.int .i64 z2)) := by
        rcases hst2 with h | ⟨k', pb, off, h1, h2, h3, h4, h5, h6⟩
        · exact .inl h
        · cases h4
          rw [Nat.zero_add] at h5 h6
          exact .inr ⟨k', _, _, h1, h2, leF_iff.1 h3, h5, h6⟩
      clear hst hst2 HN HX HS
      have hk0 : (0 : Int) ≤ (k : Int) := by omega
      have hk2 : (k : Int) ≤ (ca : Int) := by omega
      have hk3 : (k : Int) ≤ (m : Int) := by omega
      have hk4 : (m : Int) ≤ (ca : Int) := by omega
      have hgd : k = 0 ∨ (∃ k' z1 z2, k = k' + 1 ∧ k' < m ∧ z1 = f.1 ∧ z2 ≤ f.2 ∧ wr.cell? ⟨g, k' * 2, none⟩ = some (.int .i64 z1) ∧ wr.cell? ⟨g, k' * 2 + 1, none⟩ = some (.int .i64 z2)) ∨ (∃ k' z1 z2, k = k' + 1 ∧ k' < m ∧ z1 < f.1 ∧ wr.cell? ⟨g, k' * 2, none⟩ = some (.int .i64 z1) ∧ wr.cell? ⟨g, k' * 2 + 1, none⟩ = some (.int .i64 z2)) := by
        rcases HHead.out with h | ⟨k', z1, z2, h1, h2, h3 | h3, h4, h5⟩
        · exact .inl h
        · exact .inr (.inr ⟨k', z1, z2, h1, h2, h3, h4, h5⟩)
        · exact .inr (.inl ⟨k', z1, z2, h1, h2, h3.1, h3.2, h4, h5⟩)
      clear HHead
      rcases hgd with hz | ⟨k', z1, z2, hz, hlt, h1, h2, e0, e1⟩ | ⟨k', z1, z2, hz, hlt, h1, e0, e1⟩
      case' inr.inl =>
        have hg0 : ¬ ((k : Int) > 0) := by omega
        have hg1 : decide (0 < k) = false := decide_eq_false (by omega)
        clear hg0
        clear hz
        go_wp2_with fail
        go_quiet (fail)
      case' inr.inr.inl =>
        have hg0 : (0 : Int) < (k : Int) := by omega
        have hw : IntKind.i64.wrap ((k : Int) - 1) = (k' : Int) := by rw [IntWalk.i64_in _ ⟨by omega, by omega⟩]; omega
        have hj0 : (0 : Int) ≤ (k' : Int) := by omega
        have hj1 : (k' : Int) < (m : Int) := by omega
        have h3 : decide (f.2 < z2) = false := decide_eq_false (by omega)
        have h4 : decide (f.1 < z1) = false := decide_eq_false (by omega)
        have h5 : (z1 == f.1) = true := by simpa using h1
        have hg1 : decide (0 < k) = true := decide_eq_true (by omega)
        clear hz h1 h2
        go_wp2_with fail
        go_quiet (fail)
      case' inr.inr.inr =>
        have hg0 : (0 : Int) < (k : Int) := by omega
        have hw : IntKind.i64.wrap ((k : Int) - 1) = (k' : Int) := by rw [IntWalk.i64_in _ ⟨by omega, by omega⟩]; omega
        have hj0 : (0 : Int) ≤ (k' : Int) := by omega
        have hj1 : (k' : Int) < (m : Int) := by omega
        have h3 : decide (f.1 < z1) = false := decide_eq_false (by omega)
        have h4 : (z1 == f.1) = false := by simp; omega
        have hg1 : decide (0 < k) = true := decide_eq_true (by omega)
        clear hz h1
        go_wp2_with fail
        go_quiet (fail)
      all_goals
        have HX : Hid (PutAt w (some ⟨g, 0, none⟩) xs f (wr.drewN nq)) := HXd.out nq
        try clear e0 e1
        try clear h5
        try clear h4
        try clear h3
        clear HXd b0 b1
        generalize wr.drewN nq = X at *
        have hts := HX.out.els
        have htk := fis_take hts k
        have hbx := HX.out.bel.size
        have htl : (xs.take k).length = k := by rw [List.length_take]; omega
        go_wp2_with (at_builtin; refine wpList_append_rows (F := fiShape) _ rfl _ _ 22 rfl X.heap.size 28 i0 _ 16 Tryd.underlying22 hi hz0 hz1 hz2 rfl (.slice none 0 0) 0 [] rfl (World.ownsRow_nil _ _ _ _) (some ⟨g, 0, none⟩) k ca (xs.take k) rfl (fun e => by cases e) htl htk ?a1 ?a2 ?a3 ?_)
        case a1 => unfold maxLen; omega
        case a2 => omega
        case a3 => exact Nat.le_refl _
        intro v1 w1 hown1 hgrow1 hat1
        have hB1 : Below X.heap.size X w1 := (Below.refl _ _).grown hgrow1 (Nat.le_refl _) (fun j hj => by simp [Value.ownBlock] at hj)
        have HX1 : Hid _ := PutAt.below HX.out hB1
        have HO1 : Hid (w1.ownsRow X.heap.size 28 2 v1 k (fiShape.vals (xs.take k))) := by have h := hown1; first | exact h | (rw [Nat.zero_add, List.nil_append] at h; exact h) | (simp only [Nat.zero_add, List.nil_append] at h; exact h)
        obtain ⟨y0, y1⟩ := fb_cells HX1.out.box
        have hbs1 := hB1.size
        have HB1 : Hid _ := hB1
        have helm := one_box w1 f
        clear hown1 hgrow1 hat1 hts htk hB1
        go_wp2_with (at_builtin; refine wpList_append_rows (F := fiShape) _ rfl _ _ 22 rfl X.heap.size 28 i0 _ 16 Tryd.underlying22 hi hz0 hz1 hz2 rfl v1 k (xs.take k) rfl (World.ownsRow.alloc HO1.out _) (some ⟨w1.heap.size, 0, none⟩) 1 1 [f] rfl (by simp) rfl helm ?b1 ?b2 ?b3 ?_)
        case b1 => unfold maxLen; omega
        case b2 => omega
        case b3 => first | omega | (simp; omega)
        intro v2 w2 hown2 hgrow2 hat2
        have hB2 : Below X.heap.size X w2 := (HB1.out.alloc hbs1 _).grown hgrow2 (by simp; omega) (fun j hj => (World.ownsRow.lt HO1.out j hj).1)
        have HX3 : Hid (PutAt w (some ⟨g, 0, none⟩) xs f w2) := PutAt.below HX.out hB2
        have hbs2 := hB2.size
        have HO3 : Hid (w2.ownsRow X.heap.size 28 2 v2 (k + 1) (fiShape.vals (xs.take k ++ [f]))) := hown2
        clear hown2 hgrow2 hat2 hB2 helm HX1 HO1 HB1 y0 y1
        by_cases hck : ca = k
        · have hd0 : xs.drop k = [] := List.drop_of_length_le (by have := HM.out; omega)
          go_wp2_with (at_builtin; refine wpList_append_rows (F := fiShape) _ rfl _ _ 22 rfl X.heap.size 28 i0 _ 16 Tryd.underlying22 hi hz0 hz1 hz2 rfl v2 (k + 1) (xs.take k ++ [f]) rfl HO3.out _ _ _ (xs.drop k) rfl (by simp) ?n2 ?n3 ?d1 ?d2 ?d3 ?_)
          case n2 => rw [List.length_drop, HM.out]
          case n3 => exact .inl hd0
          case d1 => unfold maxLen; omega
          case d2 => omega
          case d3 => omega
          intro v3 w3 hown3 hgrow3 hat3
          have ho3 : w3.ownsRow X.heap.size 28 2 v3 (k + 1 + (m - k)) (fiShape.vals (xs.take k ++ [f] ++ xs.drop k)) := by rw [hd0, List.append_nil]; exact hown3
          have HR : Hid (PutAns w (srt (xs ++ [f])) (.returned v3) w3) := by
            show PutAns _ _ _ _
            rw [HDn.out]
            exact put_end hbx HX3.out HO3.out ho3 (by rw [List.length_drop, HM.out]) (by simp; omega) hgrow3
          clear hown3 hgrow3 hat3 ho3
          go_wp2
          go_ret
          exact HR.out
        · go_wp2_with (at_builtin; refine wpList_append_rows (F := fiShape) _ rfl _ _ 22 rfl X.heap.size 28 i0 _ 16 Tryd.underlying22 hi hz0 hz1 hz2 rfl v2 (k + 1) (xs.take k ++ [f]) rfl HO3.out _ _ _ (xs.drop k) rfl (by simp) ?n2 ?n3 ?d1 ?d2 ?d3 ?_)
          case n2 => rw [List.length_drop, HM.out]
          case n3 =>
            have h3 := fis_drop HX3.out.els k
            first | exact h3 | (rw [Nat.zero_add] at h3; exact h3) | (rw [Go.WideShapes.add_plain]; exact h3)
          case d1 => unfold maxLen; omega
          case d2 => omega
          case d3 => omega
          intro v3 w3 hown3 hgrow3 hat3
          have ho3 : w3.ownsRow X.heap.size 28 2 v3 (k + 1 + (m - k)) (fiShape.vals (xs.take k ++ [f] ++ xs.drop k)) := by rw [List.append_assoc]; exact hown3
          have HR : Hid (PutAns w (srt (xs ++ [f])) (.returned v3) w3) := by
            show PutAns _ _ _ _
            rw [HDn.out]
            exact put_end hbx HX3.out HO3.out ho3 (by rw [List.length_drop, HM.out]) (by simp; omega) hgrow3
          clear hown3 hgrow3 hat3 ho3
          go_wp2
          go_ret
          exact HR.out
theorem srt_one (f : Fi) : srt [f] = [f] := (srt_unique (by simp) (.refl _)).symm
set_option maxRecDepth 100000 in
set_option maxHeartbeats 2000000 in
theorem putR_nil (f : Fi) (w : World) : Calls Tryd.prog 15 #[.slice none 0 0, .agg #[.int .i64 f.1, .int .i64 f.2]] w (PutAns w [f]) := by
  obtain ⟨i0, hi, hz0, hz1, hz2⟩ := info_parts infoFi
  have HA : Hid (PutAt w none [] f (w.alloc (fiObj f))) := ⟨heap_alloc_new w _, .inl rfl, (Below.refl _ _).alloc (Nat.le_refl _) _⟩
  unfold fiObj at HA
  go_enter Tryd.func15, Tryd.ntmps15
  go_wp2
  go_loopw [5] (fun i wr => i = .int .i64 0 ∧ Hid (PutAt w none [] f wr)) (fun i _ => (intOf i).toNat)
  case atStart => exact ⟨rfl, HA⟩
  case round =>
    clear HA
    obtain ⟨rfl, HX⟩ := hrel
    have HXd : Hid (∀ n, PutAt w none [] f (wr.drewN n)) := fun n => HX.out.drew n
    go_wp2_with fail
    go_quiet (fail)
    have HX : Hid (PutAt w none [] f (wr.drewN nq)) := HXd.out nq
    clear HXd
    generalize wr.drewN nq = X at *
    have hbx := HX.out.bel.size
    go_wp2_with (at_builtin; refine wpList_append_rows (F := fiShape) _ rfl _ _ 22 rfl X.heap.size 28 i0 _ 16 Tryd.underlying22 hi hz0 hz1 hz2 rfl (.slice none 0 0) 0 [] rfl (World.ownsRow_nil _ _ _ _) none 0 0 [] rfl (fun _ => rfl) rfl (.inl rfl) ?a1 ?a2 ?a3 ?_)
    case a1 => unfold maxLen; omega
    case a2 => omega
    case a3 => exact Nat.le_refl _
    intro v1 w1 hown1 hgrow1 hat1
    have hB1 : Below X.heap.size X w1 := (Below.refl _ _).grown hgrow1 (Nat.le_refl _) (fun j hj => by simp [Value.ownBlock] at hj)
    have HX1 : Hid _ := PutAt.below HX.out hB1
    have HO1 : Hid (w1.ownsRow X.heap.size 28 2 v1 0 (fiShape.vals [])) := by have h := hown1; first | exact h | (rw [Nat.zero_add, List.nil_append] at h; exact h) | (simp only [Nat.zero_add, List.nil_append] at h; exact h)
    obtain ⟨y0, y1⟩ := fb_cells HX1.out.box
    have hbs1 := hB1.size
    have HB1 : Hid _ := hB1
    have helm := one_box w1 f
    clear hown1 hgrow1 hat1 hB1
    go_wp2_with (at_builtin; refine wpList_append_rows (F := fiShape) _ rfl _ _ 22 rfl X.heap.size 28 i0 _ 16 Tryd.underlying22 hi hz0 hz1 hz2 rfl v1 0 [] rfl (World.ownsRow.alloc HO1.out _) (some ⟨w1.heap.size, 0, none⟩) 1 1 [f] rfl (by simp) rfl helm ?b1 ?b2 ?b3 ?_)
    case b1 => unfold maxLen; omega
    case b2 => omega
    case b3 => first | omega | (simp; omega)
    intro v2 w2 hown2 hgrow2 hat2
    have hB2 : Below X.heap.size X w2 := (HB1.out.alloc hbs1 _).grown hgrow2 (by simp; omega) (fun j hj => (World.ownsRow.lt HO1.out j hj).1)
    have HX3 : Hid (PutAt w none [] f w2) := PutAt.below HX.out hB2
    have hbs2 := hB2.size
    have HO3 : Hid (w2.ownsRow X.heap.size 28 2 v2 1 (fiShape.vals [f])) := by have h := hown2; first | exact h | (simp only [Nat.zero_add, List.nil_append] at h; exact h)
    clear hown2 hgrow2 hat2 hB2 helm HX1 HO1 HB1 y0 y1
    go_wp2_with (at_builtin; refine wpList_append_rows (F := fiShape) _ rfl _ _ 22 rfl X.heap.size 28 i0 _ 16 Tryd.underlying22 hi hz0 hz1 hz2 rfl v2 1 [f] rfl HO3.out none 0 0 [] rfl (fun _ => rfl) rfl (.inl rfl) ?d1 ?d2 ?d3 ?_)
    case d1 => unfold maxLen; omega
    case d2 => omega
    case d3 => omega
    intro v3 w3 hown3 hgrow3 hat3
    have ho3 : w3.ownsRow X.heap.size 28 2 v3 (1 + 0) (fiShape.vals ([] ++ [f] ++ [])) := hown3
    have HR : Hid (PutAns w [f] (.returned v3) w3) := put_end (ps := []) (qs := []) hbx HX3.out HO3.out ho3 rfl rfl hgrow3
    clear hown3 hgrow3 hat3 ho3
    go_wp2
    go_ret
    exact HR.out
/-- A list in order that put gave. -/
theorem putR_any (B : Nat) (v : Value) (xs : List Fi) (f : Fi) (w : World) (h : w.ownsRow B 28 2 v xs.length (fiShape.vals xs)) (hs : xs.Pairwise fun a b => leF a b = true) (hl : xs.length ≤ 100000000000) :
    Calls Tryd.prog 15 #[v, .agg #[.int .i64 f.1, .int .i64 f.2]] w (PutAns w (srt (xs ++ [f]))) := by
  obtain ⟨ao, cap, rfl, hn, _, hle, he⟩ := own_rows (F := fiShape) h
  rcases h.2 with ⟨h1, h2⟩ | ⟨g, c, cur, h1, _⟩
  · obtain rfl := List.eq_nil_of_length_eq_zero h2
    cases h1
    rw [List.nil_append, srt_one]
    exact putR_nil f w
  · cases h1
    exact putR_live g cap xs f w he hs hl hle
end Go.Proofs.YtjfanbemihheiaaDoor.Ma
