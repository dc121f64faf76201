/-
  ManifestApplies: edits change any version as the document says.
-/
import Derived.Test.YtjfanbemihheiaaDoorQManLives
import Derived.Test.YtjfanbemihheiaaDoorQManWholeWalk
import Derived.Test.YtjfanbemihheiaaDoorQManRefApply
import Derived.Test.YtjfanbemihheiaaDoorQManStep
namespace Go.Proofs.YtjfanbemihheiaaDoor.Ma
open Go.RowKit Cm
set_option linter.unusedVariables false

theorem own_le {w : World} {B k n m cap : Nat} {t : TypeId} {a : Option Addr} {xs : List Value} (h : w.ownsRow B t k (.slice a n cap) m xs) : m ≤ cap := by
  rcases h.2 with ⟨e, h0⟩ | ⟨g, c, cur, e, _, _, hle, _⟩
  · omega
  · cases e; exact hle
/-- The law's own copy of the version, with something behind its end. -/
structure OwnAt (w : World) (gb g c : Nat) (fo : Option Addr) (fc : Nat) (v : Ve) (X : World) : Prop where
  bel : Below w.heap.size w X
  bv : X.heap[w.heap.size]? = some (veObj (.slice fo v.files.length fc) v)
  bo : X.heap[gb]? = some (veObj (.slice (some ⟨g, 0, none⟩) v.files.length c) v)
  els : ElemsAt fiShape X (some ⟨g, 0, none⟩) (v.files ++ [(0, -7)])
  le : v.files.length + 1 ≤ c
  vs : ElemsAt fiShape X fo v.files
theorem OwnAt.below {w X Y : World} {gb g c : Nat} {fo : Option Addr} {fc : Nat} {v : Ve} (h : OwnAt w gb g c fo fc v X) (hb : Below X.heap.size X Y) : OwnAt w gb g c fo fc v Y :=
  ⟨h.bel.trans (hb.mono h.bel.size), (hb.block _ (lt_of_block h.bv)).trans h.bv, (hb.block _ (lt_of_block h.bo)).trans h.bo, h.els.later hb, h.le, h.vs.later hb⟩
theorem OwnAt.of {w W3 w6 : World} {gb g c m : Nat} {fo : Option Addr} {fc : Nat} {v : Ve} (h1 : w.heap.size < gb) (h2 : W3.heap.size = gb + 1) (hm : m = v.files.length) (hB : Below w.heap.size w W3) (hb : Below W3.heap.size W3 w6) (hv : W3.heap[w.heap.size]? = some (veObj (.slice fo m fc) v)) (ho : W3.heap[gb]? = some (veObj (.slice fo m fc) v)) (hf : ElemsAt fiShape w fo v.files)
    (hr : w6.ownsRow W3.heap.size 28 2 (.slice (some ⟨g, 0, none⟩) (m + 1) c) (m + 1) (fiShape.vals v.files ++ [.int .i64 0, .int .i64 (-7)])) (hc : m + 1 ≤ c) :
    OwnAt w gb g c fo fc v (w6.setCell ⟨gb, 0, none⟩ (.slice (some ⟨g, 0, none⟩) m c)) := by
  subst hm
  have hk : ∀ k, k ≠ gb → (w6.setCell ⟨gb, 0, none⟩ (.slice (some ⟨g, 0, none⟩) v.files.length c)).heap[k]? = w6.heap[k]? := fun k hk => Below.heap_setCell _ _ _ _ (by simpa using hk)
  have hr' : w6.ownsRow W3.heap.size 28 2 (.slice (some ⟨g, 0, none⟩) (v.files ++ [((0, -7) : Fi)]).length c) (v.files ++ [((0, -7) : Fi)]).length (fiShape.vals (v.files ++ [((0, -7) : Fi)])) := by
    rw [fiShape.vals_append, List.length_append]; exact hr
  have hbl : Below w.heap.size w (w6.setCell ⟨gb, 0, none⟩ (.slice (some ⟨g, 0, none⟩) v.files.length c)) := (hB.trans (hb.mono hB.size)).setCell (Nat.le_of_lt h1) _
  refine ⟨hbl, (hk _ (by omega)).trans ((hb.block _ (by omega)).trans hv), ?_, ?_, hc, hf.later hbl⟩
  · have hg := (hb.block gb (by omega)).trans ho
    unfold veObj at hg
    rw [Joins.block_setCell hg (i := 0)]; rfl
  · have hr2 := rows_keep (w' := w6.setCell ⟨gb, 0, none⟩ (.slice (some ⟨g, 0, none⟩) v.files.length c)) hr' (fun k e => hk k (by have := (World.ownsRow.lt hr' k e).1; omega))
    obtain ⟨_, _, e, _, _, _, he⟩ := own_rows (F := fiShape) hr2
    cases e
    exact he
/-- What edits make of a version, and the answer's second half. -/
def outc (v : Ve) (es : List Ed) : Ve × Int := match app v es with | some u => (u.sort, 0) | none => (Ve.zero, 11)
theorem outc_len (v : Ve) (es : List Ed) : (outc v es).1.files.length ≤ v.files.length + addsum es := by
  unfold outc
  cases h : app v es with
  | none => exact Nat.zero_le _
  | some u =>
    have := app_len h
    show (srt u.files).length ≤ _
    rw [srt_len]; exact this
theorem ApplyAns.out {w w' : World} {v : Ve} {es : List Ed} {y : Ending} (h : ApplyAns w v es y w') : ∃ p c, y = .returned (.tuple #[veV (.slice p (outc v es).1.files.length c) (outc v es).1, .int .i64 (outc v es).2]) ∧ ElemsAt fiShape w' p (outc v es).1.files ∧ Below w.heap.size w w' := by
  rcases h with ⟨u, f, h1, rfl, h3, h4⟩ | ⟨h1, rfl, h4⟩
  · unfold outc
    rw [h1]
    obtain ⟨p, c, rfl, _, _, _, he⟩ := own_rows (F := fiShape) h3
    exact ⟨p, c, rfl, he, h4⟩
  · unfold outc
    rw [h1]
    exact ⟨none, 0, rfl, .inl rfl, h4⟩
/-- The version that the edits led to one by one, in its box. -/
structure StepIn (gs : Nat) (v : Ve) (es : List Ed) (k : Nat) (x u : Ve) (p : Option Addr) (c : Nat) (X : World) : Prop where
  hu : app v (es.take k) = some u
  like : Like x u
  srt : 0 < k → x = u.sort
  ok : ∀ f ∈ x.files, OkF f
  box : X.heap[gs]? = some (veObj (.slice p x.files.length c) x)
  els : ElemsAt fiShape X p x.files
def StepAt (gs : Nat) (v : Ve) (es : List Ed) (k : Nat) (X : World) : Prop := ∃ x u p c, StepIn gs v es k x u p c X
theorem StepIn.next {gs k : Nat} {v x u u' : Ve} {es : List Ed} {d : Ed} {p p6 : Option Addr} {c c6 B : Nat} {X Y : World} (h : StepIn gs v es k x u p c X) (hb : Below X.heap.size X Y) (h1 : app x [d] = some u') (h2 : app v (es.take (k + 1)) = one u d) (hd : ∀ f ∈ d.add, OkF f)
    (hr : Y.ownsRow B 28 2 (.slice p6 u'.sort.files.length c6) u'.sort.files.length (fiShape.vals u'.sort.files)) (hB : gs < B) :
    StepAt gs v es (k + 1) ((((Y.setCell ⟨gs, 0, none⟩ (.slice p6 u'.sort.files.length c6)).setCell ⟨gs, 1, none⟩ (.int .i64 u'.sort.wal)).setCell ⟨gs, 2, none⟩ (.int .i64 u'.sort.next)).setCell ⟨gs, 3, none⟩ (.int .i64 u'.sort.seq)) := by
  rw [app_one] at h1
  have hl := h.like.one d
  rw [h1] at hl
  cases h3 : one u d with
  | none => rw [h3] at hl; exact hl.elim
  | some u2 =>
    rw [h3] at hl
    have hl : Like u' u2 := hl
    have hbx := (hb.block _ (lt_of_block h.box)).trans h.box
    have hk : ∀ j, j ≠ gs → ((((Y.setCell ⟨gs, 0, none⟩ (.slice p6 u'.sort.files.length c6)).setCell ⟨gs, 1, none⟩ (.int .i64 u'.sort.wal)).setCell ⟨gs, 2, none⟩ (.int .i64 u'.sort.next)).setCell ⟨gs, 3, none⟩ (.int .i64 u'.sort.seq)).heap[j]? = Y.heap[j]? := fun j hj => by
      rw [Below.heap_setCell _ _ _ _ (by simpa using hj), Below.heap_setCell _ _ _ _ (by simpa using hj), Below.heap_setCell _ _ _ _ (by simpa using hj), Below.heap_setCell _ _ _ _ (by simpa using hj)]
    refine ⟨u'.sort, u2, p6, c6, h2.trans h3, (Like.sort u').trans hl, fun _ => hl.eq, fun f hf => ?_, ?_, ?_⟩
    · have hf := (srt_perm _).mem_iff.1 hf
      obtain ⟨_, rfl⟩ := one_some h1
      rcases List.mem_append.1 hf with hf | hf
      · exact h.ok f (mem_stay.1 hf).1
      · exact hd f hf
    · unfold veObj at hbx
      have q1 := Joins.block_setCell hbx (i := 0) (.slice p6 u'.sort.files.length c6)
      have q2 := Joins.block_setCell q1 (i := 1) (.int .i64 u'.sort.wal)
      have q3 := Joins.block_setCell q2 (i := 2) (.int .i64 u'.sort.next)
      have q4 := Joins.block_setCell q3 (i := 3) (.int .i64 u'.sort.seq)
      rw [q4]; rfl
    · have hr2 := rows_keep hr fun j e => hk j (by have := (World.ownsRow.lt hr j e).1; omega)
      obtain ⟨_, _, e, _, _, _, he⟩ := own_rows (F := fiShape) hr2
      cases e
      exact he
theorem StepIn.stop {gs k : Nat} {v x u : Ve} {es : List Ed} {d : Ed} {p : Option Addr} {c : Nat} {X : World} (h : StepIn gs v es k x u p c X) (h1 : app x [d] = none) (h2 : app v (es.take (k + 1)) = one u d) : app v es = none := by
  rw [app_one] at h1
  have hl := h.like.one d
  rw [h1] at hl
  cases h3 : one u d with
  | none => exact app_cut (h2.trans h3)
  | some u2 => rw [h3] at hl; exact hl.elim
theorem bal {B : Nat} {a w : World} (h : Below B a w) (hB : B ≤ a.heap.size) (o : Obj) : Below B a (w.alloc o) := h.alloc (Nat.le_trans hB h.size) o
set_option maxRecDepth 100000 in
set_option maxHeartbeats 4000000 in
theorem applies_law (fo : Option Addr) (fc : Nat) (v : Ve) (bo : Option Addr) (cap : Nat) (xs : List Ei) (w : World) (hv : ElemsAt fiShape w fo v.files) (hnil : fo = none → fc = 0) (hvo : ∀ f ∈ v.files, OkF f) (hx : ElemsAt eiShape w bo xs) (hxs : ∀ x ∈ xs, EiAt w x)
    (hl : v.files.length + addsum (xs.map (·.e)) ≤ 10000000000) (hxl : xs.length ≤ 100000000000) :
    Calls Tryd.prog 3 #[veV (.slice fo v.files.length fc) v, .slice bo xs.length cap] w fun e w' => e = .returned (.bool true) ∧ Below w.heap.size w w' := by
  obtain ⟨i0, hi, hz0, hz1, hz2⟩ := info_parts infoFi
  obtain ⟨m, hm⟩ : ∃ m, m = v.files.length := ⟨_, rfl⟩
  obtain ⟨n, hn⟩ : ∃ n, n = xs.length := ⟨_, rfl⟩
  have HM : Hid (m = v.files.length) := hm
  have HN : Hid (n = xs.length) := hn
  have HV : Hid (ElemsAt fiShape w fo v.files) := hv
  have HVo : Hid (∀ f ∈ v.files, OkF f) := hvo
  have HNil : Hid (fo = none → fc = 0) := hnil
  have HX : Hid (ElemsAt eiShape w bo xs) := hx
  have HXs : Hid (∀ x ∈ xs, EiAt w x) := hxs
  have HL : Hid (v.files.length + addsum (xs.map (·.e)) ≤ 10000000000) := hl
  rw [← hm, ← hn]
  have hml : m ≤ 10000000000 := by omega
  have hnl : n ≤ 100000000000 := by omega
  obtain ⟨W1, hW1⟩ : ∃ W1, W1 = w.alloc (veObj (.slice fo m fc) v) := ⟨_, rfl⟩
  have HB1 : Hid (Below w.heap.size w W1) := by rw [hW1]; exact (Below.refl _ _).alloc (Nat.le_refl _) _
  have HV1 : Hid (W1.heap[w.heap.size]? = some (veObj (.slice fo m fc) v)) := by rw [hW1]; exact heap_alloc_new w _
  have hW1' := hW1.symm
  unfold veObj at hW1'
  clear hv hnil hvo hx hxs hl hxl hm hn hW1
  unfold veV
  go_enter Tryd.func3, Tryd.ntmps3
  go_wp2_with fail
  refine (lives_any _).mono ?_
  rintro y w2 ⟨rfl, hb2⟩
  have HB2 : Hid (Below w.heap.size w w2) := HB1.out.trans (hb2.mono HB1.out.size)
  have HV2 : Hid (w2.heap[w.heap.size]? = some (veObj (.slice fo m fc) v)) := (hb2.block _ (lt_of_block HV1.out)).trans HV1.out
  clear hb2 HB1 HV1 hW1'
  obtain ⟨y0, y1, y2, y3, _⟩ := ve_cells HV2.out
  obtain ⟨W3, hW3⟩ : ∃ W3, W3 = w2.alloc (veObj (.slice fo m fc) v) := ⟨_, rfl⟩
  have hb3 : Below w2.heap.size w2 W3 := by rw [hW3]; exact (Below.refl _ _).alloc (Nat.le_refl _) _
  have HB3 : Hid (Below w.heap.size w W3) := HB2.out.trans (hb3.mono HB2.out.size)
  have HV3 : Hid (W3.heap[w.heap.size]? = some (veObj (.slice fo m fc) v)) := (hb3.block _ (lt_of_block HV2.out)).trans HV2.out
  obtain ⟨gb, hgb⟩ : ∃ gb, gb = w2.heap.size := ⟨_, rfl⟩
  have HO3 : Hid (W3.heap[gb]? = some (veObj (.slice fo m fc) v)) := by rw [hW3, hgb]; exact heap_alloc_new w2 _
  have HG3 : Hid (w.heap.size < gb ∧ W3.heap.size = gb + 1) := ⟨by rw [hgb]; exact lt_of_block HV2.out, by rw [hW3, hgb]; simp⟩
  have hW3' := hW3.symm
  unfold veObj at hW3'
  clear hb3 hW3 HV2 HB2
  go_wp2_with fail
  rw [← hgb]
  clear hgb hW3' y0 y1 y2 y3
  have hgs : gb ≤ W3.heap.size := by have := HG3.out; omega
  have HK : Hid (∀ X, Below gb W3 X → X.cell? ⟨w.heap.size, 0, none⟩ = some (.slice fo m fc)) := fun X h => (ve_cells ((h.block _ HG3.out.1).trans HV3.out)).1
  have HEl : Hid (∀ X, Below W3.heap.size W3 X → ElemsAt fiShape X fo v.files) := fun X h => (HV.out.later HB3.out).later h
  have HCg : Hid (∀ X, Below W3.heap.size W3 X → X.cell? ⟨gb, 0, none⟩ = some (.slice fo m fc) ∧ X.frozen? ⟨gb, 0, none⟩ = false) := fun X h => by
    obtain ⟨q, _, _, _, f⟩ := ve_cells ((h.block _ (by have := HG3.out.2; omega)).trans HO3.out)
    exact ⟨q, f 0⟩
  go_region_held3 (fun w' => w'.cell? ⟨w.heap.size, 0, none⟩ = some (.slice fo m fc)) ((refine HK.out _ ?_; first | with_reducible exact hb6g.setCell (Nat.le_refl _) _ | (repeat (first | with_reducible assumption | with_reducible exact Below.refl _ _ | refine bal ?_ (by first | exact Nat.le_refl _ | assumption) _ | refine Below.drew ?_ | refine Below.setCell ?_ (Nat.le_refl _) _))))
    ((first
      | (refine step_append_rows (F := fiShape) _ (by rfl) (.tmp 18) (.tmp 20) 22 (by rfl) W3.heap.size 28 i0 (.agg #[.int .i64 0, .int .i64 0]) 16 Tryd.underlying22 hi hz0 hz1 hz2 rfl (.slice (some ⟨W3.heap.size, 0, none⟩) 0 0) 0 [] (by rfl) (by (first | exact own_emptyF W3 _ (Nat.le_refl _) | exact World.ownsRow.alloc (own_emptyF W3 _ (Nat.le_refl _)) _)) fo m fc v.files (by rfl) HNil.out HM.out.symm (HEl.out _ (by (repeat (first | with_reducible assumption | with_reducible exact Below.refl _ _ | refine bal ?_ (by first | exact Nat.le_refl _ | assumption) _ | refine Below.drew ?_ | refine Below.setCell ?_ (Nat.le_refl _) _)))) (by unfold maxLen; omega) (by omega) (by first | (simp; done) | (simp; omega)) ?_; intro v5 w5 hown5 hgrow5 hat5; have hb5 : Below W3.heap.size W3 w5 := Below.grown (by (repeat (first | with_reducible assumption | with_reducible exact Below.refl _ _ | refine bal ?_ (by first | exact Nat.le_refl _ | assumption) _ | refine Below.drew ?_ | refine Below.setCell ?_ (Nat.le_refl _) _))) hgrow5 (by first | (simp; done) | (simp; omega)) (fun k hk => by simp [Value.ownBlock] at hk; omega); have hb5g : Below gb W3 w5 := hb5.mono hgs)
      | (refine step_append_rows (F := fiShape) _ (by rfl) (.tmp 18) (.tmp 20) 22 (by rfl) W3.heap.size 28 i0 (.agg #[.int .i64 0, .int .i64 0]) 16 Tryd.underlying22 hi hz0 hz1 hz2 rfl (.slice (some ⟨W3.heap.size + 1, 0, none⟩) 0 0) 0 [] (by rfl) (by (have h := own_emptyF (W3.alloc (.cells #[.int .i64 0, .int .i64 (-7)] 28)) W3.heap.size (by simp); rw [World.size_alloc] at h; exact h)) fo m fc v.files (by rfl) HNil.out HM.out.symm (HEl.out _ (by (repeat (first | with_reducible assumption | with_reducible exact Below.refl _ _ | refine bal ?_ (by first | exact Nat.le_refl _ | assumption) _ | refine Below.drew ?_ | refine Below.setCell ?_ (Nat.le_refl _) _)))) (by unfold maxLen; omega) (by omega) (by first | (simp; done) | (simp; omega)) ?_; intro v5 w5 hown5 hgrow5 hat5; have hb5 : Below W3.heap.size W3 w5 := Below.grown (by (repeat (first | with_reducible assumption | with_reducible exact Below.refl _ _ | refine bal ?_ (by first | exact Nat.le_refl _ | assumption) _ | refine Below.drew ?_ | refine Below.setCell ?_ (Nat.le_refl _) _))) hgrow5 (by first | (simp; done) | (simp; omega)) (fun k hk => by simp [Value.ownBlock] at hk; omega); have hb5g : Below gb W3 w5 := hb5.mono hgs)
      | (refine step_append_lies _ (by rfl) (.tmp 21) (.tmp 23) 22 (by rfl) W3.heap.size 28 i0 (.agg #[.int .i64 0, .int .i64 0]) 2 16 Tryd.underlying22 hi hz0 hz1 hz2 rfl (by decide) _ _ _ (by rfl) (by first | exact hown5 | exact World.ownsRow.alloc hown5 _) _ 1 1 [.int .i64 0, .int .i64 (-7)] (by rfl) rfl (by first | exact World.news_of_block (heap_alloc_new w5 _) | exact World.news_of_block ((hgrow5.block _ (by first | (simp; done) | (simp; omega)) (by simp [Value.ownBlock])).trans (by have h := heap_alloc_new (W3.alloc (.cells #[] 28)) (.cells #[.int .i64 0, .int .i64 (-7)] 28); rw [World.size_alloc] at h; exact h)) | exact World.news_of_block ((hgrow5.block _ (by first | (simp; done) | (simp; omega)) (by simp [Value.ownBlock])).trans ((Below.heap_alloc _ _ _ (by simp)).trans (heap_alloc_new W3 _)))) (by intro u hu; simp at hu; rcases hu with rfl | rfl <;> rfl) (by decide) (by unfold maxLen; omega) (by omega) (by have := hb5.size; first | omega | (simp; done) | (simp; omega)) _ rfl ?_; intro g6 cap6 w6 hown6 hgrow6 hat6 hlt6; have hb6 : Below W3.heap.size W3 w6 := Below.grown (by (repeat (first | with_reducible assumption | with_reducible exact Below.refl _ _ | refine bal ?_ (by first | exact Nat.le_refl _ | assumption) _ | refine Below.drew ?_ | refine Below.setCell ?_ (Nat.le_refl _) _))) hgrow6 (by have := hb5.size; first | omega | (simp; done) | (simp; omega)) (fun k hk => (World.ownsRow.lt hown5 k hk).1); have hb6g : Below gb W3 w6 := hb6.mono hgs; obtain ⟨cg0, cf0⟩ := HCg.out _ hb6; have hle6 := own_le hown6; have hi0 : (0 : Int) ≤ (m : Int) := (by omega); have hi1 : (m : Int) ≤ (cap6 : Int) := (by omega))))
  all_goals
    have HO : Hid (OwnAt w gb g6 cap6 fo fc v (w6.setCell ⟨gb, 0, none⟩ (.slice (some ⟨g6, 0, none⟩) m cap6))) := OwnAt.of HG3.out.1 HG3.out.2 HM.out HB3.out hb6 HV3.out HO3.out HV.out (by have h := hown6; simp only [Nat.zero_add, List.nil_append] at h; exact h) (by omega)
    have hm6 : m + 1 ≤ cap6 := by omega
    clear hown5 hgrow5 hat5 hb5 hb5g hown6 hgrow6 hat6 hlt6 hb6 hb6g cg0 cf0 hle6 hi0 hi1
    clear HK HEl HCg
    clear HO3 HV3 HB3 hgs
    generalize w6.setCell ⟨gb, 0, none⟩ (.slice (some ⟨g6, 0, none⟩) m cap6) = X at *
    obtain ⟨o0, o1, o2, o3, _⟩ := ve_cells HO.out.bo
    rw [← HM.out] at o0
    have HAp : Hid _ := apply_any (some ⟨g6, 0, none⟩) cap6 v bo cap xs X (by have := fis_take HO.out.els v.files.length; rwa [List.take_left] at this) HVo.out (HX.out.later HO.out.bel) (fun x hx => (HXs.out x hx).later HO.out.bel) (by have := HL.out; omega) (by have := HN.out; omega)
    rw [← HM.out, ← HN.out] at HAp
    unfold veV at HAp
    obtain ⟨es, hes⟩ : ∃ es, es = xs.map (·.e) := ⟨_, rfl⟩
    have HEs : Hid (es = xs.map (·.e)) := hes
    rw [← hes] at HAp
    clear hes
    obtain ⟨r, hr⟩ : ∃ r, r = (outc v es).1 := ⟨_, rfl⟩
    obtain ⟨er, her⟩ : ∃ er, er = (outc v es).2 := ⟨_, rfl⟩
    have HOut : Hid (outc v es = (r, er)) := by show _ = _; rw [hr, her]
    clear hr her
    obtain ⟨lr, hlr⟩ : ∃ lr, lr = r.files.length := ⟨_, rfl⟩
    have HLr : Hid (lr = r.files.length) := hlr
    clear hlr
    go_wp2_with fail
    refine (show Calls _ _ _ _ _ from HAp.out).mono ?_
    rintro y w7 ha
    obtain ⟨p7, c7, rfl, e7, b7⟩ := ApplyAns.out ha
    rw [HOut.out] at e7 ⊢
    simp only at e7 ⊢
    rw [← HLr.out]
    obtain ⟨W8, hW8⟩ : ∃ W8, W8 = w7.alloc (veObj (.slice p7 lr c7) r) := ⟨_, rfl⟩
    have hb8 : Below w7.heap.size w7 W8 := by rw [hW8]; exact (Below.refl _ _).alloc (Nat.le_refl _) _
    have HB68 : Hid (W8.heap[w7.heap.size]? = some (veObj (.slice p7 lr c7) r)) := by rw [hW8]; exact heap_alloc_new w7 _
    have HO8 : Hid (OwnAt w gb g6 cap6 fo fc v W8) := HO.out.below (b7.trans (hb8.mono b7.size))
    have HE8 : Hid (ElemsAt fiShape W8 p7 r.files) := e7.later hb8
    have HApR : Hid _ := applyR_any fo fc v bo cap xs W8 HO8.out.vs (HX.out.later HO8.out.bel) (fun x hx => (HXs.out x hx).later HO8.out.bel) (by have := HL.out; omega) (by have := HN.out; omega)
    rw [← HM.out, ← HN.out, ← HEs.out] at HApR
    unfold veV at HApR
    obtain ⟨v0, v1, v2, v3, _⟩ := ve_cells HO8.out.bv
    rw [← HM.out] at v0
    have hW8' := hW8.symm
    unfold veObj at hW8'
    unfold veV
    clear ha e7 b7 hW8 hb8 o0 o1 o2 o3 HAp HO
    go_wp2_with fail
    refine (show Calls _ _ _ _ _ from HApR.out).mono ?_
    rintro y w9 ha
    obtain ⟨p9, c9, rfl, e9, b9⟩ := ApplyAns.out ha
    rw [HOut.out] at e9 ⊢
    simp only at e9 ⊢
    rw [← HLr.out]
    obtain ⟨W10, hW10⟩ : ∃ W10, W10 = w9.alloc (veObj (.slice p9 lr c9) r) := ⟨_, rfl⟩
    have hb10 : Below w9.heap.size w9 W10 := by rw [hW10]; exact (Below.refl _ _).alloc (Nat.le_refl _) _
    have hb810 : Below W8.heap.size W8 W10 := b9.trans (hb10.mono b9.size)
    have HB8 : Hid (W10.heap[w9.heap.size]? = some (veObj (.slice p9 lr c9) r)) := by rw [hW10]; exact heap_alloc_new w9 _
    have HB6 : Hid (W10.heap[w7.heap.size]? = some (veObj (.slice p7 lr c7) r)) := (hb810.block _ (lt_of_block HB68.out)).trans HB68.out
    have HO10 : Hid (OwnAt w gb g6 cap6 fo fc v W10) := HO8.out.below hb810
    have HE7 : Hid (ElemsAt fiShape W10 p7 r.files) := HE8.out.later hb810
    have HE9 : Hid (ElemsAt fiShape W10 p9 r.files) := e9.later hb10
    obtain ⟨g7, hg7⟩ : ∃ g7, g7 = w7.heap.size := ⟨_, rfl⟩
    obtain ⟨g9, hg9⟩ : ∃ g9, g9 = w9.heap.size := ⟨_, rfl⟩
    rw [← hg7] at HB6
    rw [← hg9] at HB8
    have hW10' := hW10.symm
    unfold veObj at hW10'
    unfold veV
    clear ha e9 b9 hW10 hb10 hb810 v0 v1 v2 v3 HApR HO8 HE8 HB68
    clear hW8'
    go_wp2_with fail
    rw [← hg7, ← hg9]
    clear hg7 hg9 hW10'
    have HSm1 : Hid (∀ Z, Below W10.heap.size W10 Z → Calls Tryd.prog 8 #[.agg #[.slice p7 lr c7, .int .i64 r.wal, .int .i64 r.next, .int .i64 r.seq], .agg #[.slice p9 lr c9, .int .i64 r.wal, .int .i64 r.next, .int .i64 r.seq]] Z fun e w' => e = .returned (.bool true) ∧ Below Z.heap.size Z w') := fun Z hZ => by
      rw [HLr.out]
      exact same_any p7 p9 c7 c9 r Z (HE7.out.later hZ) (HE9.out.later hZ) (by have h := outc_len v es; rw [HOut.out] at h; have := HL.out; rw [← HEs.out] at this; simp only at h; omega)
    have HSm2 : Hid (∀ Z, Below W10.heap.size W10 Z → Calls Tryd.prog 8 #[.agg #[.slice (some ⟨g6, 0, none⟩) m cap6, .int .i64 v.wal, .int .i64 v.next, .int .i64 v.seq], .agg #[.slice fo m fc, .int .i64 v.wal, .int .i64 v.next, .int .i64 v.seq]] Z fun e w' => e = .returned (.bool true) ∧ Below Z.heap.size Z w') := fun Z hZ => by
      have h1 := (HO10.out.below hZ)
      rw [HM.out]
      exact same_any (some ⟨g6, 0, none⟩) fo cap6 fc v Z (by have := fis_take h1.els v.files.length; rwa [List.take_left] at this) h1.vs (by have := HL.out; omega)
    have HS : Hid (∀ Z, Below W10.heap.size W10 Z → Z.cell? ⟨g7, 0, none⟩ = some (.slice p7 lr c7) ∧ Z.cell? ⟨g7, 1, none⟩ = some (.int .i64 r.wal) ∧ Z.cell? ⟨g7, 2, none⟩ = some (.int .i64 r.next) ∧ Z.cell? ⟨g7, 3, none⟩ = some (.int .i64 r.seq) ∧ Z.cell? ⟨g9, 0, none⟩ = some (.slice p9 lr c9) ∧ Z.cell? ⟨g9, 1, none⟩ = some (.int .i64 r.wal) ∧ Z.cell? ⟨g9, 2, none⟩ = some (.int .i64 r.next) ∧ Z.cell? ⟨g9, 3, none⟩ = some (.int .i64 r.seq) ∧ Z.cell? ⟨gb, 0, none⟩ = some (.slice (some ⟨g6, 0, none⟩) m cap6) ∧ Z.cell? ⟨gb, 1, none⟩ = some (.int .i64 v.wal) ∧ Z.cell? ⟨gb, 2, none⟩ = some (.int .i64 v.next) ∧ Z.cell? ⟨gb, 3, none⟩ = some (.int .i64 v.seq) ∧ Z.cell? ⟨w.heap.size, 0, none⟩ = some (.slice fo m fc) ∧ Z.cell? ⟨w.heap.size, 1, none⟩ = some (.int .i64 v.wal) ∧ Z.cell? ⟨w.heap.size, 2, none⟩ = some (.int .i64 v.next) ∧ Z.cell? ⟨w.heap.size, 3, none⟩ = some (.int .i64 v.seq) ∧ Z.cell? ⟨g6, m * 2 + 1, none⟩ = some (.int .i64 (-7))) := fun Z hZ => by
      have h1 := HO10.out.below hZ
      obtain ⟨a0, a1, a2, a3, _⟩ := ve_cells ((hZ.block _ (lt_of_block HB6.out)).trans HB6.out)
      obtain ⟨b0, b1, b2, b3, _⟩ := ve_cells ((hZ.block _ (lt_of_block HB8.out)).trans HB8.out)
      obtain ⟨d0, d1, d2, d3, _⟩ := ve_cells h1.bo
      obtain ⟨q0, q1, q2, q3, _⟩ := ve_cells h1.bv
      rw [← HM.out] at d0 q0
      obtain ⟨pb, off, hae, k0, k1⟩ := fi_cells h1.els (k := m) (by rw [List.length_append, ← HM.out]; simp)
      cases hae
      have hgd : (v.files ++ [((0, -7) : Fi)]).getD m (0, 0) = (0, -7) := by rw [HM.out]; simp
      rw [hgd, Nat.zero_add] at k1
      exact ⟨a0, a1, a2, a3, b0, b1, b2, b3, d0, d1, d2, d3, q0, q1, q2, q3, k1⟩
    have hi0 : (0 : Int) ≤ (m : Int) := by omega
    have hi1 : (m : Int) + 1 ≤ (cap6 : Int) := by omega
    have hi2 : (m : Int) < (m : Int) + 1 := by omega
    have hi3 : (0 : Int) ≤ (m : Int) + 1 := by omega
    have hw : IntKind.i64.wrap ((m : Int) + 1) = (m : Int) + 1 := IntWalk.i64_in _ ⟨by omega, by omega⟩
    have HD1 : Hid (Below W10.heap.size W10 W10.drew) := (Below.refl W10.heap.size W10).drew
    refine wp_region_held_drew (S := (fun Z => Z.cell? ⟨g7, 0, none⟩ = some (.slice p7 lr c7) ∧ Z.cell? ⟨g7, 1, none⟩ = some (.int .i64 r.wal) ∧ Z.cell? ⟨g7, 2, none⟩ = some (.int .i64 r.next) ∧ Z.cell? ⟨g7, 3, none⟩ = some (.int .i64 r.seq) ∧ Z.cell? ⟨g9, 0, none⟩ = some (.slice p9 lr c9) ∧ Z.cell? ⟨g9, 1, none⟩ = some (.int .i64 r.wal) ∧ Z.cell? ⟨g9, 2, none⟩ = some (.int .i64 r.next) ∧ Z.cell? ⟨g9, 3, none⟩ = some (.int .i64 r.seq) ∧ Z.cell? ⟨gb, 0, none⟩ = some (.slice (some ⟨g6, 0, none⟩) m cap6) ∧ Z.cell? ⟨gb, 1, none⟩ = some (.int .i64 v.wal) ∧ Z.cell? ⟨gb, 2, none⟩ = some (.int .i64 v.next) ∧ Z.cell? ⟨gb, 3, none⟩ = some (.int .i64 v.seq) ∧ Z.cell? ⟨w.heap.size, 0, none⟩ = some (.slice fo m fc) ∧ Z.cell? ⟨w.heap.size, 1, none⟩ = some (.int .i64 v.wal) ∧ Z.cell? ⟨w.heap.size, 2, none⟩ = some (.int .i64 v.next) ∧ Z.cell? ⟨w.heap.size, 3, none⟩ = some (.int .i64 v.seq) ∧ Z.cell? ⟨g6, m * 2 + 1, none⟩ = some (.int .i64 (-7)))) (by kernel_rfl) (HS.out W10 (Below.refl _ _)) (fun hHeld => ?_)
    refine wpAnyH_take (i := 0) (v := .int .i64 er) rfl (by kernel_rfl) (by kernel_rfl) (by kernel_rfl) (fun _ _ _ h => h) (Or.inl ⟨by rfl, ?_⟩) hHeld ?_
    · intro w hSw; go_split_ands; go_simp
    simp only [List.getElem_toArray, List.getElem_cons_zero, Act.put, List.setIfInBounds_toArray, List.set_cons_zero, List.set_cons_succ]
    refine wpAnyH_take (i := 1) (v := .int .i64 er) rfl (by kernel_rfl) (by kernel_rfl) (by kernel_rfl) (fun _ _ _ h => h) (Or.inl ⟨by rfl, ?_⟩) hHeld ?_
    · intro w hSw; go_split_ands; go_simp
    simp only [List.getElem_toArray, List.getElem_cons_zero, List.getElem_cons_succ, Act.put, List.setIfInBounds_toArray, List.set_cons_zero, List.set_cons_succ]
    refine wpAnyH_take (i := 2) (v := .bool false) rfl (by kernel_rfl) (by kernel_rfl) (by kernel_rfl) (fun _ _ _ h => h) (Or.inl ⟨by rfl, ?_⟩) hHeld ?_
    · intro w hSw; go_split_ands; go_simp
    simp only [List.getElem_toArray, List.getElem_cons_zero, List.getElem_cons_succ, Act.put, List.setIfInBounds_toArray, List.set_cons_zero, List.set_cons_succ]
    refine wpAnyH_take (i := 3) (v := .bool false) rfl (by kernel_rfl) (by kernel_rfl) (by kernel_rfl) (fun _ _ _ h => h) (Or.inl ⟨by rfl, ?_⟩) hHeld ?_
    · intro w hSw; go_split_ands; go_simp
    simp only [List.getElem_toArray, List.getElem_cons_zero, List.getElem_cons_succ, Act.put, List.setIfInBounds_toArray, List.set_cons_zero, List.set_cons_succ]
    refine wpAnyH_take (i := 4) (v := .agg #[.slice p7 lr c7, .int .i64 r.wal, .int .i64 r.next, .int .i64 r.seq]) rfl (by kernel_rfl) (by kernel_rfl) (by kernel_rfl) (fun _ _ _ h => h) (Or.inl ⟨by rfl, ?_⟩) hHeld ?_
    · intro w hSw; go_split_ands; go_simp
    simp only [List.getElem_toArray, List.getElem_cons_zero, List.getElem_cons_succ, Act.put, List.setIfInBounds_toArray, List.set_cons_zero, List.set_cons_succ]
    refine wpAnyH_take (i := 5) (v := .agg #[.slice p9 lr c9, .int .i64 r.wal, .int .i64 r.next, .int .i64 r.seq]) rfl (by kernel_rfl) (by kernel_rfl) (by kernel_rfl) (fun _ _ _ h => h) (Or.inl ⟨by rfl, ?_⟩) hHeld ?_
    · intro w hSw; go_split_ands; go_simp
    simp only [List.getElem_toArray, List.getElem_cons_zero, List.getElem_cons_succ, Act.put, List.setIfInBounds_toArray, List.set_cons_zero, List.set_cons_succ]
    refine wpAnyH_ready (rs := [6]) (by kernel_rfl) (by simp) (AllReadyH.cons rfl (fun K hK => ?_) AllReadyH.nil)
    go_simp
    refine (show Calls _ _ _ _ _ from HSm1.out W10.drew HD1.out).mono ?_
    rintro x w11 ⟨rfl, hb11⟩
    have HW11 : Hid (Below W10.heap.size W10 w11) := HD1.out.trans (hb11.mono HD1.out.size)
    clear hb11
    refine hK.out _ _ (HS.out w11 HW11.out) (fun hHeld => ?_)
    clear hK K
    refine wpAnyH_take (i := 7) (v := .bool false) rfl (by kernel_rfl) (by kernel_rfl) (by kernel_rfl) (fun _ _ _ h => h) (Or.inl ⟨by rfl, ?_⟩) hHeld ?_
    · intro w hSw; go_split_ands; go_simp
    simp only [List.getElem_toArray, List.getElem_cons_zero, List.getElem_cons_succ, Act.put, List.setIfInBounds_toArray, List.set_cons_zero, List.set_cons_succ]
    refine wpAnyH_take (i := 8) (v := .bool false) rfl (by kernel_rfl) (by kernel_rfl) (by kernel_rfl) (fun _ _ _ h => h) (Or.inl ⟨by rfl, ?_⟩) hHeld ?_
    · intro w hSw; go_split_ands; go_simp
    simp only [List.getElem_toArray, List.getElem_cons_zero, List.getElem_cons_succ, Act.put, List.setIfInBounds_toArray, List.set_cons_zero, List.set_cons_succ]
    refine wpAnyH_take (i := 9) (v := .bool false) rfl (by kernel_rfl) (by kernel_rfl) (by kernel_rfl) (fun _ _ _ h => h) (Or.inl ⟨by rfl, ?_⟩) hHeld ?_
    · intro w hSw; go_split_ands; go_simp
    simp only [List.getElem_toArray, List.getElem_cons_zero, List.getElem_cons_succ, Act.put, List.setIfInBounds_toArray, List.set_cons_zero, List.set_cons_succ]
    refine wpAnyH_take (i := 10) (v := .agg #[.slice (some ⟨g6, 0, none⟩) m cap6, .int .i64 v.wal, .int .i64 v.next, .int .i64 v.seq]) rfl (by kernel_rfl) (by kernel_rfl) (by kernel_rfl) (fun _ _ _ h => h) (Or.inl ⟨by rfl, ?_⟩) hHeld ?_
    · intro w hSw; go_split_ands; go_simp
    simp only [List.getElem_toArray, List.getElem_cons_zero, List.getElem_cons_succ, Act.put, List.setIfInBounds_toArray, List.set_cons_zero, List.set_cons_succ]
    refine wpAnyH_take (i := 11) (v := .agg #[.slice fo m fc, .int .i64 v.wal, .int .i64 v.next, .int .i64 v.seq]) rfl (by kernel_rfl) (by kernel_rfl) (by kernel_rfl) (fun _ _ _ h => h) (Or.inl ⟨by rfl, ?_⟩) hHeld ?_
    · intro w hSw; go_split_ands; go_simp
    simp only [List.getElem_toArray, List.getElem_cons_zero, List.getElem_cons_succ, Act.put, List.setIfInBounds_toArray, List.set_cons_zero, List.set_cons_succ]
    refine wpAnyH_ready (rs := [12]) (by kernel_rfl) (by simp) (AllReadyH.cons rfl (fun K hK => ?_) AllReadyH.nil)
    go_simp
    refine (show Calls _ _ _ _ _ from HSm2.out w11 HW11.out).mono ?_
    rintro x w12 ⟨rfl, hb12⟩
    have HW12 : Hid (Below W10.heap.size W10 w12) := HW11.out.trans (hb12.mono HW11.out.size)
    clear hb12
    refine hK.out _ _ (HS.out w12 HW12.out) (fun hHeld => ?_)
    clear hK K
    refine wpAnyH_take (i := 13) (v := .bool false) rfl (by kernel_rfl) (by kernel_rfl) (by kernel_rfl) (fun _ _ _ h => h) (Or.inl ⟨by rfl, ?_⟩) hHeld ?_
    · intro w hSw; go_split_ands; go_simp
    simp only [List.getElem_toArray, List.getElem_cons_zero, List.getElem_cons_succ, Act.put, List.setIfInBounds_toArray, List.set_cons_zero, List.set_cons_succ]
    refine wpAnyH_take (i := 14) (v := .bool false) rfl (by kernel_rfl) (by kernel_rfl) (by kernel_rfl) (fun _ _ _ h => h) (Or.inl ⟨by rfl, ?_⟩) hHeld ?_
    · intro w hSw; go_split_ands; go_simp
    simp only [List.getElem_toArray, List.getElem_cons_zero, List.getElem_cons_succ, Act.put, List.setIfInBounds_toArray, List.set_cons_zero, List.set_cons_succ]
    refine wpAnyH_take (i := 15) (v := .bool false) rfl (by kernel_rfl) (by kernel_rfl) (by kernel_rfl) (fun _ _ _ h => h) (Or.inl ⟨by rfl, ?_⟩) hHeld ?_
    · intro w hSw; go_split_ands; go_simp
    simp only [List.getElem_toArray, List.getElem_cons_zero, List.getElem_cons_succ, Act.put, List.setIfInBounds_toArray, List.set_cons_zero, List.set_cons_succ]
    refine wpAnyH_take (i := 16) (v := .pointer (some ⟨gb, 0, none⟩)) rfl (by kernel_rfl) (by kernel_rfl) (by kernel_rfl) (fun _ _ _ h => h) (Or.inl ⟨by rfl, ?_⟩) hHeld ?_
    · intro w hSw; go_split_ands; go_simp
    simp only [List.getElem_toArray, List.getElem_cons_zero, List.getElem_cons_succ, Act.put, List.setIfInBounds_toArray, List.set_cons_zero, List.set_cons_succ]
    refine wpAnyH_take (i := 17) (v := .slice (some ⟨g6, 0, none⟩) m cap6) rfl (by kernel_rfl) (by kernel_rfl) (by kernel_rfl) (fun _ _ _ h => h) (Or.inl ⟨by rfl, ?_⟩) hHeld ?_
    · intro w hSw; go_split_ands; go_simp
    simp only [List.getElem_toArray, List.getElem_cons_zero, List.getElem_cons_succ, Act.put, List.setIfInBounds_toArray, List.set_cons_zero, List.set_cons_succ]
    refine wpAnyH_take (i := 18) (v := .pointer (some ⟨w.heap.size, 0, none⟩)) rfl (by kernel_rfl) (by kernel_rfl) (by kernel_rfl) (fun _ _ _ h => h) (Or.inl ⟨by rfl, ?_⟩) hHeld ?_
    · intro w hSw; go_split_ands; go_simp
    simp only [List.getElem_toArray, List.getElem_cons_zero, List.getElem_cons_succ, Act.put, List.setIfInBounds_toArray, List.set_cons_zero, List.set_cons_succ]
    refine wpAnyH_take (i := 19) (v := .slice fo m fc) rfl (by kernel_rfl) (by kernel_rfl) (by kernel_rfl) (fun _ _ _ h => h) (Or.inl ⟨by rfl, ?_⟩) hHeld ?_
    · intro w hSw; go_split_ands; go_simp
    simp only [List.getElem_toArray, List.getElem_cons_zero, List.getElem_cons_succ, Act.put, List.setIfInBounds_toArray, List.set_cons_zero, List.set_cons_succ]
    refine wpAnyH_take (i := 20) (v := .int .i64 m) rfl (by kernel_rfl) (by kernel_rfl) (by kernel_rfl) (fun _ _ _ h => h) (Or.inl ⟨by rfl, ?_⟩) hHeld ?_
    · intro w hSw; go_split_ands; go_simp
    simp only [List.getElem_toArray, List.getElem_cons_zero, List.getElem_cons_succ, Act.put, List.setIfInBounds_toArray, List.set_cons_zero, List.set_cons_succ]
    refine wpAnyH_take (i := 21) (v := .int .i64 ((m : Int) + 1)) rfl (by kernel_rfl) (by kernel_rfl) (by kernel_rfl) (fun _ _ _ h => h) (Or.inl ⟨by rfl, ?_⟩) hHeld ?_
    · intro w hSw; go_split_ands; go_simp
    simp only [List.getElem_toArray, List.getElem_cons_zero, List.getElem_cons_succ, Act.put, List.setIfInBounds_toArray, List.set_cons_zero, List.set_cons_succ]
    refine wpAnyH_take (i := 22) (v := .slice (some ⟨g6, 0, none⟩) (m + 1) cap6) rfl (by kernel_rfl) (by kernel_rfl) (by kernel_rfl) (fun _ _ _ h => h) (Or.inl ⟨by rfl, ?_⟩) hHeld ?_
    · intro w hSw; go_split_ands; go_simp
    simp only [List.getElem_toArray, List.getElem_cons_zero, List.getElem_cons_succ, Act.put, List.setIfInBounds_toArray, List.set_cons_zero, List.set_cons_succ]
    refine wpAnyH_take (i := 23) (v := .pointer (some ⟨w.heap.size, 0, none⟩)) rfl (by kernel_rfl) (by kernel_rfl) (by kernel_rfl) (fun _ _ _ h => h) (Or.inl ⟨by rfl, ?_⟩) hHeld ?_
    · intro w hSw; go_split_ands; go_simp
    simp only [List.getElem_toArray, List.getElem_cons_zero, List.getElem_cons_succ, Act.put, List.setIfInBounds_toArray, List.set_cons_zero, List.set_cons_succ]
    refine wpAnyH_take (i := 24) (v := .slice fo m fc) rfl (by kernel_rfl) (by kernel_rfl) (by kernel_rfl) (fun _ _ _ h => h) (Or.inl ⟨by rfl, ?_⟩) hHeld ?_
    · intro w hSw; go_split_ands; go_simp
    simp only [List.getElem_toArray, List.getElem_cons_zero, List.getElem_cons_succ, Act.put, List.setIfInBounds_toArray, List.set_cons_zero, List.set_cons_succ]
    refine wpAnyH_take (i := 25) (v := .int .i64 m) rfl (by kernel_rfl) (by kernel_rfl) (by kernel_rfl) (fun _ _ _ h => h) (Or.inl ⟨by rfl, ?_⟩) hHeld ?_
    · intro w hSw; go_split_ands; go_simp
    simp only [List.getElem_toArray, List.getElem_cons_zero, List.getElem_cons_succ, Act.put, List.setIfInBounds_toArray, List.set_cons_zero, List.set_cons_succ]
    refine wpAnyH_take (i := 26) (v := .pointer (some ⟨g6, m * 2, none⟩)) rfl (by kernel_rfl) (by kernel_rfl) (by kernel_rfl) (fun _ _ _ h => h) (Or.inl ⟨by rfl, ?_⟩) hHeld ?_
    · intro w hSw; go_split_ands; go_simp
    simp only [List.getElem_toArray, List.getElem_cons_zero, List.getElem_cons_succ, Act.put, List.setIfInBounds_toArray, List.set_cons_zero, List.set_cons_succ]
    refine wpAnyH_take (i := 27) (v := .pointer (some ⟨g6, m * 2 + 1, none⟩)) rfl (by kernel_rfl) (by kernel_rfl) (by kernel_rfl) (fun _ _ _ h => h) (Or.inl ⟨by rfl, ?_⟩) hHeld ?_
    · intro w hSw; go_split_ands; go_simp
    simp only [List.getElem_toArray, List.getElem_cons_zero, List.getElem_cons_succ, Act.put, List.setIfInBounds_toArray, List.set_cons_zero, List.set_cons_succ]
    refine wpAnyH_take (i := 28) (v := .int .i64 (-7)) rfl (by kernel_rfl) (by kernel_rfl) (by kernel_rfl) (fun _ _ _ h => h) (Or.inl ⟨by rfl, ?_⟩) hHeld ?_
    · intro w hSw; go_split_ands; go_simp
    simp only [List.getElem_toArray, List.getElem_cons_zero, List.getElem_cons_succ, Act.put, List.setIfInBounds_toArray, List.set_cons_zero, List.set_cons_succ]
    refine wpAnyH_take (i := 29) (v := .bool false) rfl (by kernel_rfl) (by kernel_rfl) (by kernel_rfl) (fun _ _ _ h => h) (Or.inl ⟨by rfl, ?_⟩) hHeld ?_
    · intro w hSw; go_split_ands; go_simp
    simp only [List.getElem_toArray, List.getElem_cons_zero, List.getElem_cons_succ, Act.put, List.setIfInBounds_toArray, List.set_cons_zero, List.set_cons_succ]
    refine wpAnyH_take (i := 30) (v := .bool false) rfl (by kernel_rfl) (by kernel_rfl) (by kernel_rfl) (fun _ _ _ h => h) (Or.inl ⟨by rfl, ?_⟩) hHeld ?_
    · intro w hSw; go_split_ands; go_simp
    simp only [List.getElem_toArray, List.getElem_cons_zero, List.getElem_cons_succ, Act.put, List.setIfInBounds_toArray, List.set_cons_zero, List.set_cons_succ]
    refine wpAnyH_done (by kernel_rfl) ?_ _
    obtain ⟨q0, q1, q2, q3, _⟩ := ve_cells (HO10.out.below HW12.out).bv
    rw [← HM.out] at q0
    obtain ⟨W13, hW13⟩ : ∃ W13, W13 = w12.alloc (veObj (.slice fo m fc) v) := ⟨_, rfl⟩
    have hb13 : Below w12.heap.size w12 W13 := by rw [hW13]; exact (Below.refl _ _).alloc (Nat.le_refl _) _
    have HB13 : Hid (Below W10.heap.size W10 W13) := HW12.out.trans (hb13.mono HW12.out.size)
    obtain ⟨gs, hgs⟩ : ∃ gs, gs = w12.heap.size := ⟨_, rfl⟩
    have HGs : Hid (W10.heap.size ≤ gs) := by show _ ≤ _; rw [hgs]; exact HW12.out.size
    have HSt : Hid (StepAt gs v es 0 W13) := ⟨v, v, fo, fc, by rw [List.take_zero]; rfl, Like.refl v, fun h => absurd h (by omega), HVo.out, by rw [hgs, hW13, ← HM.out]; exact heap_alloc_new w12 _, (HO10.out.below HB13.out).vs⟩
    have hW13' := hW13.symm
    unfold veObj at hW13'
    clear hW13 hb13 HSm1 HSm2 HS HW12 hHeld HD1 HW11
    go_wp2
    rw [← hgs]
    clear hgs hW13' q0 q1 q2 q3
    go_loopw [76] (fun i wr => ∃ k : Nat, k ≤ n ∧ i = .int .i64 k ∧ Hid (Below W10.heap.size W10 wr) ∧ Hid (StepAt gs v es k wr)) (fun i _ => n - (intOf i).toNat)
    case atStart => exact ⟨0, by omega, rfl, HB13, HSt⟩
    case round =>
      clear HB13 HSt
      obtain ⟨k, hk, rfl, HB, HSt⟩ := hrel
      obtain ⟨x, u, p, c, hS⟩ := HSt.out
      have HSI : Hid (StepIn gs v es k x u p c wr) := hS
      obtain ⟨s0, s1, s2, s3, _⟩ := ve_cells hS.box
      have hxl : x.files.length ≤ v.files.length + addsum (es.take k) := by rw [hS.like.files.length_eq]; exact app_len hS.hu
      clear HSt
      by_cases hlt : k < n
      · have hkx : k < xs.length := by have := HN.out; omega
        have hbw : Below w.heap.size w wr := HO10.out.bel.trans (HB.out.mono HO10.out.bel.size)
        obtain ⟨b, off, rfl, e0, e1, e2, e3, e4⟩ := ei_get HX.out hbw hkx
        have hei := (HXs.out (xs.getD k Ei.zero) (by rw [getD_lt _ _ _ hkx]; exact List.getElem_mem _)).later hbw
        have hke : k < es.length := by rw [HEs.out, List.length_map]; exact hkx
        have hTk : es.take (k + 1) = es.take k ++ [(xs.getD k Ei.zero).e] := by rw [take_at hke (d := edZero), HEs.out, es_at hkx]
        have hSum : addsum (es.take (k + 1)) = addsum (es.take k) + (xs.getD k Ei.zero).e.add.length := by rw [hTk, addsum_append]; simp [addsum]
        have hSle : addsum (es.take (k + 1)) ≤ addsum es := addsum_take _ _
        have HOr : Hid (app v (es.take (k + 1)) = one u (xs.getD k Ei.zero).e) := by show _ = _; rw [hTk]; exact app_snoc hS.hu _
        generalize xs.getD k Ei.zero = x1 at *
        obtain ⟨W0, hW0⟩ : ∃ W0, W0 = wr.alloc (.cells #[x1.a, x1.d, .int .i64 x1.e.wal, .int .i64 x1.e.next, .int .i64 x1.e.seq] 36) := ⟨_, rfl⟩
        obtain ⟨Y, hY⟩ : ∃ Y, Y = W0.alloc (.cells #[x1.a, x1.d, .int .i64 x1.e.wal, .int .i64 x1.e.next, .int .i64 x1.e.seq] 36) := ⟨_, rfl⟩
        have hbW : Below wr.heap.size wr W0 := by rw [hW0]; exact (Below.refl _ _).alloc (Nat.le_refl _) _
        have hsW : W0.heap.size = wr.heap.size + 1 := by rw [hW0]; simp
        have hbY : Below wr.heap.size wr Y := by rw [hY]; exact hbW.alloc (by omega) _
        have hg0 : W0.heap[wr.heap.size]? = some (.cells #[x1.a, x1.d, .int .i64 x1.e.wal, .int .i64 x1.e.next, .int .i64 x1.e.seq] 36 (0, 0)) := by rw [hW0]; exact heap_alloc_new wr _
        have hg1 : Y.heap[wr.heap.size + 1]? = some (.cells #[x1.a, x1.d, .int .i64 x1.e.wal, .int .i64 x1.e.next, .int .i64 x1.e.seq] 36 (0, 0)) := by rw [hY, ← hsW]; exact heap_alloc_new W0 _
        have HAp1 : Hid _ := apply_any p c x (some ⟨wr.heap.size + 1, 0, none⟩) 1 [x1] Y (hS.els.later hbY) hS.ok (elems_block hg1 rfl) (fun y hy => by obtain rfl := List.mem_singleton.1 hy; exact hei.later hbY) (by have := HL.out; rw [← HEs.out] at this; simp [addsum]; omega) (by simp)
        have HOkA : Hid (∀ f ∈ x1.e.add, OkF f) := hei.ok.add
        obtain ⟨y0, y1, y2, y3, _⟩ := ve_cells ((hbW.block _ (lt_of_block hS.box)).trans hS.box)
        have hY' := hY.symm
        have hW0' := hW0.symm
        have HSW : Hid (W0.heap.size = wr.heap.size + 1) := hsW
        rw [← hsW] at HAp1
        have HBY : Hid (Below wr.heap.size wr Y) := hbY
        have HgsW : Hid (gs < wr.heap.size) := lt_of_block hS.box
        unfold veV at HAp1
        have ha : ∃ p l c, x1.a = .slice p l c := ⟨_, _, _, rfl⟩
        have hd : ∃ p l c, x1.d = .slice p l c := ⟨_, _, _, rfl⟩
        generalize x1.a = xa at *
        generalize x1.d = xd at *
        obtain ⟨p1, l1, c1, rfl⟩ := ha
        obtain ⟨p2, l2, c2, rfl⟩ := hd
        have i0' : W0.cell? ⟨wr.heap.size, 0, none⟩ = some (.slice p1 l1 c1) := by rw [Joins.cell_of_block hg0]; rfl
        have i1' : W0.cell? ⟨wr.heap.size, 1, none⟩ = some (.slice p2 l2 c2) := by rw [Joins.cell_of_block hg0]; rfl
        have i2' : W0.cell? ⟨wr.heap.size, 2, none⟩ = some (.int .i64 x1.e.wal) := by rw [Joins.cell_of_block hg0]; rfl
        have i3' : W0.cell? ⟨wr.heap.size, 3, none⟩ = some (.int .i64 x1.e.next) := by rw [Joins.cell_of_block hg0]; rfl
        have i4' : W0.cell? ⟨wr.heap.size, 4, none⟩ = some (.int .i64 x1.e.seq) := by rw [Joins.cell_of_block hg0]; rfl
        clear hei hY hW0 hbW hsW hbY hg0 hg1 hkx hke hTk hSum hSle hS hxl hbw s0 s1 s2 s3
        generalize x.files.length = lx at *
        go_wp2_with fail
        refine (show Calls _ _ _ _ _ from HAp1.out).mono ?_
        rintro y w5 (⟨u', f, hu1, rfl, hf, hb5⟩ | ⟨hno, rfl, hb5⟩)
        · obtain ⟨p6, c6, rfl⟩ := form_any (show World.ownsRow _ _ _ _ _ _ _ from hf)
          obtain ⟨W6, hW6⟩ : ∃ W6, W6 = w5.alloc (veObj (.slice p6 u'.sort.files.length c6) u'.sort) := ⟨_, rfl⟩
          have hb6 : Below w5.heap.size w5 W6 := by rw [hW6]; exact (Below.refl _ _).alloc (Nat.le_refl _) _
          have hn6 : W6.heap[w5.heap.size]? = some (veObj (.slice p6 u'.sort.files.length c6) u'.sort) := by rw [hW6]; exact heap_alloc_new w5 _
          have hb06 : Below wr.heap.size wr W6 := HBY.out.trans ((hb5.trans (hb6.mono hb5.size)).mono HBY.out.size)
          have HNext : Hid _ := HSI.out.next hb06 (hu1 : app x [x1.e] = some u') HOr.out HOkA.out (rows_keep hf fun j hj => hb6.block j (World.ownsRow.lt hf j hj).2) (by have := HBY.out.size; have := HgsW.out; omega)
          have HBn : Hid (Below W10.heap.size W10 _) := ((((HB.out.trans (hb06.mono HB.out.size)).setCell (p := ⟨gs, 0, none⟩) HGs.out (.slice p6 u'.sort.files.length c6)).setCell (p := ⟨gs, 1, none⟩) HGs.out (.int .i64 u'.sort.wal)).setCell (p := ⟨gs, 2, none⟩) HGs.out (.int .i64 u'.sort.next)).setCell (p := ⟨gs, 3, none⟩) HGs.out (.int .i64 u'.sort.seq)
          obtain ⟨d0, d1, d2, d3, _⟩ := ve_cells hn6
          obtain ⟨k0, k1, k2, k3, kf⟩ := ve_cells ((hb06.block _ HgsW.out).trans HSI.out.box)
          have kf0 := kf 0
          have kf1 := kf 1
          have kf2 := kf 2
          have kf3 := kf 3
          have hW6' := hW6.symm
          unfold veObj at hW6'
          unfold veV
          clear hf hb5 hb6 hb06 hW6 hn6 kf hu1 y0 y1 y2 y3 i0' i1' i2' i3' i4' hY' hW0' HAp1 e0 e1 e2 e3 e4
          generalize hl6 : u'.sort.files.length = l6 at *
          go_wp2
          go_roundw
          case rel => exact ⟨k + 1, by omega, by go_num, HBn.out, HNext.out⟩
          case measure => simp [intOf]; omega
        · have hn0 : app v es = none := HSI.out.stop (hno : app x [x1.e] = none) HOr.out
          have her : er = 11 := by have := HOut.out; unfold outc at this; rw [hn0] at this; cases this; rfl
          have HBn : Hid (Below w.heap.size w (w5.alloc (veObj (.slice none 0 0) Ve.zero))) := (HO10.out.bel.trans ((HB.out.trans ((HBY.out.trans (hb5.mono HBY.out.size)).mono HB.out.size)).mono HO10.out.bel.size)).alloc (by have := HO10.out.bel.size; have := HB.out.size; have := HBY.out.size; have := hb5.size; omega) _
          unfold veObj at HBn
          unfold veV
          subst her
          clear hno hb5 hn0 y0 y1 y2 y3 i0' i1' i2' i3' i4' hY' hW0' HAp1 e0 e1 e2 e3 e4
          simp only [Ve.zero] at HBn ⊢
          go_wp2
          go_ret
          exact ⟨rfl, HBn.out⟩
      · obtain rfl : k = n := by omega
        have hke : k = es.length := by rw [HEs.out, List.length_map]; exact HN.out
        have hue : app v es = some u := by have := hS.hu; rwa [hke, List.take_length] at this
        have hout : r = u.sort ∧ er = 0 := by have := HOut.out; unfold outc at this; rw [hue] at this; cases this; exact ⟨rfl, rfl⟩
        have hbw : Below w.heap.size w wr := HO10.out.bel.trans (HB.out.mono HO10.out.bel.size)
        obtain ⟨hr0, rfl⟩ := hout
        rcases Nat.eq_zero_or_pos k with hk0 | hk0
        · have HBf : Hid (Below w.heap.size w wr) := hbw
          clear hS HSI s0 s1 s2 s3 hbw hxl
          subst hk0
          go_wp2
          go_ret
          exact ⟨rfl, HBf.out⟩
        · have hxr : x = r := (hS.srt hk0).trans hr0.symm
          subst hxr
          have HSm3 : Hid _ := same_any p p7 c c7 x wr hS.els (HE7.out.later HB.out) (by have := HL.out; rw [← HEs.out] at this; have := addsum_take es k; omega)
          obtain ⟨t0, t1, t2, t3, _⟩ := ve_cells ((HB.out.block _ (lt_of_block HB6.out)).trans HB6.out)
          rw [← HLr.out] at s0 HSm3
          unfold veV at HSm3
          have HBf : Hid (Below w.heap.size w wr) := hbw
          have hkn : ((k : Int) == 0) = false := by simp; omega
          clear hS HSI hbw hxl hke hue hr0
          go_wp2_with fail
          refine (show Calls _ _ _ _ _ from HSm3.out).mono ?_
          rintro y w14 ⟨rfl, hb14⟩
          have HBg : Hid (Below w.heap.size w w14) := HBf.out.trans (hb14.mono HBf.out.size)
          clear hb14
          go_wp2
          go_ret
          exact ⟨rfl, HBg.out⟩
end Go.Proofs.YtjfanbemihheiaaDoor.Ma
