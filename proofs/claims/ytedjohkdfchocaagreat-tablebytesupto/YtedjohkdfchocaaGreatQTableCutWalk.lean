/-
  The texts TableCutWalk.
-/
import Derived.Test.YtedjohkdfchocaaGreatQTableCutPut

/-
  Package table: the walk of 'cut'.
-/
namespace Go.Proofs.YtedjohkdfchocaaGreat.Tb
open Go.RowKit Go.Shelf Cm Mm Bk
attribute [local go_sem] Oper.semAt_some
set_option linter.unusedVariables false
set_option linter.unusedSimpArgs false
set_option linter.unusedSimpArgs false
set_option linter.unusedSimpArgs false
set_option linter.unusedSimpArgs false
set_option linter.unusedSimpArgs false
set_option linter.unusedSimpArgs false

/-- Of a size that the calls here are asked for. -/
structure Small (es : List En) : Prop where
  few : es.length ≤ 1000000000
  all : bytesE es ≤ 10000000000000
  each : ∀ k, (es.getD k En.zero).key.size ≤ 1000000000000 ∧ (es.getD k En.zero).val.size ≤ 1000000000000
theorem bytes_drop (xs : List En) (k : Nat) : bytesE (xs.drop k) ≤ bytesE xs := by
  conv => rhs; rw [← List.take_append_drop k xs, bytesE_append]
  omega
theorem chunk_bytes (es : List En) (k : Nat) : bytesE (chunk es k) ≤ bytesE es := Nat.le_trans (bytes_take _ _) (bytes_drop _ _)
theorem Small.chunk {es : List En} (h : Small es) (k : Nat) : Sized (chunk es k) := by
  have h1 := chunk_len es k
  refine ⟨by omega, ?_, fun j => ?_⟩
  · have h2 := block_len (Tb.chunk es k)
    have h3 := chunk_bytes es k
    have := h.all
    omega
  · by_cases hj : j < (Tb.chunk es k).length
    · rw [chunk_get hj]; exact h.each _
    · rw [List.getD_eq_getElem?_getD, List.getElem?_eq_none (by omega)]
      exact ⟨Nat.zero_le _, Nat.zero_le _⟩
theorem chunk_ok {es : List En} (h : AllOk es) (k : Nat) : AllOk (chunk es k) := fun e he => h e (chunk_mem he)
theorem same2_t {x y : Nat} {A B C : World} (h : Same2 x y A B) (k : Same2 x y B C) : Same2 x y A C := ⟨k.1.trans h.1, k.2.trans h.2⟩
theorem same2_b {x y : Nat} {w : World} (hx : x < w.heap.size) (hy : y < w.heap.size) (W : World) (l : Nat) (o o' : Obj) (hl : w.heap.size ≤ l) (h : W.heap[l]? = some o) (_ : o.isCells = false) (_ : o.isWalk = false) : Same2 x y W (W.putObj l o') :=
  ⟨World.putObj_heap_other (by omega), World.putObj_heap_other (by omega)⟩
theorem NoOut.normal {Q : Exit → Act → World → Prop} {a : Act} {w : World} (h : Q .normal a w) : NoOut Q .normal a w := h
theorem cell_later {X Y : World} (hb : Below X.heap.size X Y) {a : Addr} {v : Value} (h : X.cell? a = some v) : Y.cell? a = some v := (hb.cell (World.block_lt_of_cell? X a h)).trans h
theorem part_cells {w : World} {ao : Option Addr} {es : List En} {l : List Nat} (h : ElemsAt ptShape w ao (l.map (part es))) {m : Nat} (hm : m < l.length) : ∃ pb off, ao = some ⟨pb, off, none⟩ ∧ w.cell? ⟨pb, off + m * 5 + 1, none⟩ = some (.string (lastE es (l.getD m 0)).key) ∧ w.cell? ⟨pb, off + m * 5 + 1 + 1, none⟩ = some (.int .i64 (lastE es (l.getD m 0)).seq) ∧
    w.cell? ⟨pb, off + m * 5 + 1 + 2, none⟩ = some (.bool (lastE es (l.getD m 0)).dead) ∧ w.cell? ⟨pb, off + m * 5 + 1 + 3, none⟩ = some (.string (lastE es (l.getD m 0)).val) := by
  rcases h with h | ⟨b, off, e, _, hc⟩
  · rw [List.map_eq_nil_iff] at h; subst h; cases hm
  · have hg : (l.map (part es))[m]'(by simpa using hm) = part es (l.getD m 0) := by rw [List.getElem_map, getD_lt _ _ _ hm]
    refine ⟨b, off, e, ?_, ?_, ?_, ?_⟩
    · exact hc m (by simpa using hm) 1 _ (by rw [hg]; rfl)
    · exact hc m (by simpa using hm) 2 _ (by rw [hg]; rfl)
    · exact hc m (by simpa using hm) 3 _ (by rw [hg]; rfl)
    · exact hc m (by simpa using hm) 4 _ (by rw [hg]; rfl)
def CutAns (w : World) (es : List En) (e : Ending) (w' : World) : Prop :=
  ((right es = true ∧ ∃ v, e = .returned (.tuple #[v, .int .i64 0]) ∧ w'.ownsRow w.heap.size 74 5 v (parts es).length (ptShape.vals (parts es))) ∨ (right es = false ∧ e = .returned (.tuple #[.slice none 0 0, .int .i64 9]))) ∧ Below w.heap.size w w'
theorem cs_new (w : World) (ao : Option Addr) (n ca : Nat) (X : World) (h : X = ((((w.alloc (.cells #[.slice none 0 0] 45)).alloc (.cells #[.int .i64 0] 26)).alloc (.cells #[.slice none 0 0] 45)).alloc (boxS ao n ca)).alloc box8) : CS w ao n ca [] (.slice none 0 0) X := by
  subst h
  obtain ⟨w1, h1⟩ : ∃ w1, w1 = w.alloc (.cells #[.slice none 0 0] 45) := ⟨_, rfl⟩
  obtain ⟨w2, h2⟩ : ∃ w2, w2 = w1.alloc (.cells #[.int .i64 0] 26) := ⟨_, rfl⟩
  obtain ⟨w3, h3⟩ : ∃ w3, w3 = w2.alloc (.cells #[.slice none 0 0] 45) := ⟨_, rfl⟩
  obtain ⟨w4, h4⟩ : ∃ w4, w4 = w3.alloc (boxS ao n ca) := ⟨_, rfl⟩
  rw [← h1, ← h2, ← h3, ← h4]
  have s1 : w1.heap.size = w.heap.size + 1 := by rw [h1]; simp
  have s2 : w2.heap.size = w.heap.size + 2 := by rw [h2]; simp [s1]
  have s3 : w3.heap.size = w.heap.size + 3 := by rw [h3]; simp [s2]
  have s4 : w4.heap.size = w.heap.size + 4 := by rw [h4]; simp [s3]
  have e0 : w1.heap[w.heap.size]? = some (.cells #[.slice none 0 0] 45 (0, 0)) := by rw [h1]; exact heap_alloc_new w _
  have e1 : w2.heap[w.heap.size + 1]? = some (.cells #[.int .i64 0] 26 (0, 0)) := by rw [h2, ← s1]; exact heap_alloc_new w1 _
  have e2 : w3.heap[w.heap.size + 2]? = some (.cells #[.slice none 0 0] 45 (0, 0)) := by rw [h3, ← s2]; exact heap_alloc_new w2 _
  have e3 : w4.heap[w.heap.size + 3]? = some (boxS ao n ca) := by rw [h4, ← s3]; exact heap_alloc_new w3 _
  have e4 : (w4.alloc box8).heap[w.heap.size + 4]? = some box8 := by rw [← s4]; exact heap_alloc_new w4 _
  have k1 : ∀ j, j < w1.heap.size → w2.heap[j]? = w1.heap[j]? := fun j hj => by rw [h2]; exact Below.heap_alloc _ _ _ hj
  have k2 : ∀ j, j < w2.heap.size → w3.heap[j]? = w2.heap[j]? := fun j hj => by rw [h3]; exact Below.heap_alloc _ _ _ hj
  have k3 : ∀ j, j < w3.heap.size → w4.heap[j]? = w3.heap[j]? := fun j hj => by rw [h4]; exact Below.heap_alloc _ _ _ hj
  have k4 : ∀ j, j < w4.heap.size → (w4.alloc box8).heap[j]? = w4.heap[j]? := fun j hj => Below.heap_alloc _ _ _ hj
  refine ⟨?_, (k4 _ (by omega)).trans ((k3 _ (by omega)).trans ((k2 _ (by omega)).trans ((k1 _ (by omega)).trans e0))), (k4 _ (by omega)).trans ((k3 _ (by omega)).trans ((k2 _ (by omega)).trans e1)), (k4 _ (by omega)).trans ((k3 _ (by omega)).trans e2), (k4 _ (by omega)).trans e3, e4, World.ownsRow_nil _ _ _ _⟩
  have q1 : Below w.heap.size w w1 := by rw [h1]; exact (Below.refl _ _).alloc (Nat.le_refl _) _
  have q2 : Below w.heap.size w w2 := by rw [h2]; exact q1.alloc (by omega) _
  have q3 : Below w.heap.size w w3 := by rw [h3]; exact q2.alloc (by omega) _
  have q4 : Below w.heap.size w w4 := by rw [h4]; exact q3.alloc (by omega) _
  exact q4.alloc (by omega) _
set_option maxRecDepth 100000 in
set_option maxHeartbeats 2000000 in
theorem cut_any (ao : Option Addr) (ca : Nat) (es : List En) (w : World) (hx : ElemsAt enShape w ao es) (hok : AllOk es) (hca : es.length ≤ ca) (hs : Small es) :
    Calls Tryz.prog 14 #[.slice ao es.length ca] w fun e w' => CutAns w es e w' := by
  obtain ⟨b, off, hao⟩ : ∃ b off, 0 < es.length → ao = some ⟨b, off, none⟩ := by
    rcases hx with rfl | ⟨b, off, e, _⟩
    · exact ⟨0, 0, fun h => by simp at h⟩
    · exact ⟨b, off, fun _ => e⟩
  refine (callsIn_wide (n := 4)).1 ?_
  refine callsIn_of_wp_marks Tryz.func14 rfl trivial ?_ rfl
  simp only [Tryz.ntmps14, List.size_toArray, List.length_cons, List.length_nil, Nat.reduceAdd, Nat.reduceSub, Array.replicate_succ, Array.replicate_zero, List.push_toArray, List.append_toArray, List.nil_append, List.cons_append]
  gi_wp2_with ((try refine ⟨trivial, ?_⟩); gi_at_call 34; refine (callsIn_wide.2 (chunk_any _ _ _ _)).mono ?_; rintro e w' ⟨rfl, rfl⟩)
  rw [show w.heap.size + 1 + 1 + 1 + 1 = w.heap.size + 4 from rfl, show w.heap.size + 1 + 1 + 1 = w.heap.size + 3 from rfl, show w.heap.size + 1 + 1 = w.heap.size + 2 from rfl]
  obtain ⟨W5, hW5⟩ : ∃ W5, W5 = ((((w.alloc (.cells #[.slice none 0 0] 45)).alloc (.cells #[.int .i64 0] 26)).alloc (.cells #[.slice none 0 0] 45)).alloc (boxS ao es.length ca)).alloc box8 := ⟨_, rfl⟩
  have HC5 : Hid (CS w ao es.length ca [] (.slice none 0 0) W5) := cs_new w ao es.length ca W5 hW5
  have hsz : W5.heap.size = w.heap.size + 5 := by rw [hW5]; simp
  rw [← hW5]
  clear hW5
  have HX : Hid (∀ X, Below w.heap.size w X → ElemsAt enShape X ao es) := fun X hb => hx.later hb
  have HP : Hid (AllOk es ∧ Small es) := ⟨hok, hs⟩
  obtain ⟨i0, hi, hz0, hz1, hz2⟩ := info_parts infoPart
  have hfew := hs.few
  clear hx hok hs
  refine wpIn_rangeFunc_ownG rfl (by omega) (gf := 64) (lb := #[.pointer (some ⟨w.heap.size + 3, 0, none⟩), .pointer (some ⟨w.heap.size + 4, 0, none⟩)]) rfl trivial (enters_of Tryz.func64 (by kernel_rfl) rfl)
    (chunk_stops 3 (w.heap.size + 3) (w.heap.size + 4) b off ca ao (by omega) es hao (by omega) hca W5 HC5.out.bs HC5.out.bn) same2_t (same2_b (by omega) (by omega)) (Below.refl _ _) (fun _ => rfl)
    (fun pre X => Good es (nums pre) ∧ ∃ v, CS w ao es.length ca ((nums pre).map (part es)) v X)
    (fun c pre X => (c = .ret ∧ ¬ Good es (nums pre)) ∧ Gone w X)
    (by rw [hsz]; exact cs_own w ao es.length ca es) (by rw [hsz]; exact gone_own w es)
    ⟨Good.nil es, _, HC5.out⟩
    (fun x => { tmps := #[.slice ao es.length ca, undef, .pointer (some ⟨w.heap.size, 0, none⟩), .pointer (some ⟨w.heap.size + 1, 0, none⟩), .pointer (some ⟨w.heap.size + 2, 0, none⟩), piece b off es x.1, undef, undef, .slice ao es.length ca, .func (Fn.func 64) #[] #[.pointer (some ⟨w.heap.size + 3, 0, none⟩), .pointer (some ⟨w.heap.size + 4, 0, none⟩)], piece b off es x.1, undef, undef, undef, undef, undef, undef, undef, undef, undef, undef, undef, undef, undef, undef, undef, undef, undef, undef, undef, undef, undef, undef, undef, undef, undef, undef, undef, undef, undef, undef, undef, undef, undef, undef, undef, undef, undef], defers := [] }) ?assign ?body ?done ?stop
  case assign =>
    intro l x X K hK
    gi_wp2
    exact hK
  case body =>
    rintro l pre x X ⟨hgd, v, hcs⟩ hlt
    obtain rfl := hao (by have := chunk_pos x.2; omega)
    clear hao
    have HG : Hid _ := hgd
    have HCS : Hid _ := hcs
    obtain ⟨po, pc, hv, hnil, hpc, hpe⟩ := hcs.elems
    rw [List.length_map, nums_len] at hv hpc
    have c2 : X.cell? ⟨w.heap.size + 2, 0, none⟩ = some (.slice po pre.length pc) := by rw [Joins.cell_of_block hcs.b2, ← hv]; rfl
    obtain ⟨c, hc⟩ : ∃ c, c = (chunk es x.1).length := ⟨_, rfl⟩
    have hc0 : 0 < c := by rw [hc, chunk_len]; have := chunk_pos x.2; omega
    have hc8 : c ≤ 8 := by rw [hc, chunk_len]; omega
    have hpe' : piece b off es x.1 = .slice (some ⟨b, off + 8 * x.1 * 4, none⟩) c c := by unfold piece; rw [hc]
    rw [hpe']
    have HEL : Hid (∀ Y, Below w.heap.size w Y → ElemsAt enShape Y (some ⟨b, off + 8 * x.1 * 4, none⟩) (chunk es x.1)) := fun Y hY => elems_take (elems_drop (HX.out Y hY) (8 * x.1)) 8
    have HE : Hid (∀ Y, Below X.heap.size X Y → Calls Tryz.prog 36 #[.slice (some ⟨b, off + 8 * x.1 * 4, none⟩) c c] Y fun e w' => e = .returned (encV (chunk es x.1)) ∧ Below Y.heap.size Y w') := fun Y hY => by
      rw [hc]
      exact encode_any _ _ _ Y (HEL.out Y (hcs.bel.trans (hY.mono hcs.bel.size))) (chunk_ok HP.out.1 _) (HP.out.2.chunk _)
    have hfew' : pre.length < nch es := hlt
    have hbX := hcs.bel.size
    obtain ⟨d, hd⟩ : ∃ d, d + 1 = c := ⟨c - 1, by omega⟩
    have hdc : IntKind.i64.wrap ((c : Int) - 1) = (d : Int) := wrap_nat (by omega) (by omega)
    have HT : Hid (∀ Y, Below w.heap.size w Y → Y.cell? ⟨b, off + 8 * x.1 * 4 + d * 4, none⟩ = some (.string (lastE es x.1).key) ∧ Y.cell? ⟨b, off + 8 * x.1 * 4 + d * 4 + 1, none⟩ = some (.int .i64 (lastE es x.1).seq) ∧ Y.cell? ⟨b, off + 8 * x.1 * 4 + d * 4 + 2, none⟩ = some (.bool (lastE es x.1).dead) ∧ Y.cell? ⟨b, off + 8 * x.1 * 4 + d * 4 + 3, none⟩ = some (.string (lastE es x.1).val)) := fun Y hY => by
      obtain ⟨_, _, e1, q⟩ := elem_cells (HEL.out Y hY) (k := d) (by omega)
      cases e1
      unfold lastE
      rw [show (chunk es x.1).length - 1 = d by omega]
      exact q
    have HY0 : Hid (X.cell? ⟨b, off + 8 * x.1 * 4, none⟩ = some (.string (headE es x.1).key) ∧ X.cell? ⟨b, off + 8 * x.1 * 4 + 1, none⟩ = some (.int .i64 (headE es x.1).seq) ∧ X.cell? ⟨b, off + 8 * x.1 * 4 + 2, none⟩ = some (.bool (headE es x.1).dead) ∧ X.cell? ⟨b, off + 8 * x.1 * 4 + 3, none⟩ = some (.string (headE es x.1).val)) := by
      obtain ⟨_, _, e1, q⟩ := elem_cells (HEL.out X hcs.bel) (k := 0) (by omega)
      cases e1
      simp only [Nat.zero_mul, Nat.add_zero] at q
      exact q
    have HPE : Hid _ := hpe
    have HCc : Hid _ := hc
    have HV : Hid _ := hv
    clear hgd hcs hpe hpe' hc hv
    by_cases hp0 : pre.length = 0
    · rw [hp0] at c2
      gi_wp2_with fail
      refine region_round (S := fun w' => w'.cell? ⟨w.heap.size + 2, 0, none⟩ = some (.slice po 0 pc)) (by kernel_rfl) (by kernel_rfl) c2 (fun hHeld => ?_)
      refine wpAnyH_take (i := 0) (v := .slice po 0 pc) rfl (by kernel_rfl) (by kernel_rfl) (by kernel_rfl) (fun _ _ _ h => h) (Or.inl ⟨by rfl, ?_⟩) hHeld ?_
      · intro w hSw; go_split_ands; go_simp
      simp only [List.getElem_toArray, List.getElem_cons_zero, List.getElem_cons_succ, Act.put, List.setIfInBounds_toArray, List.set_cons_zero, List.set_cons_succ]
      refine wpAnyH_take (i := 1) (v := .int .i64 0) rfl (by kernel_rfl) (by kernel_rfl) (by kernel_rfl) (fun _ _ _ h => h) (Or.inl ⟨by rfl, ?_⟩) hHeld ?_
      · intro w hSw; go_split_ands; go_simp
      simp only [List.getElem_toArray, List.getElem_cons_zero, List.getElem_cons_succ, Act.put, List.setIfInBounds_toArray, List.set_cons_zero, List.set_cons_succ]
      refine wpAnyH_take (i := 2) (v := .bool false) rfl (by kernel_rfl) (by kernel_rfl) (by kernel_rfl) (fun _ _ _ h => h) (Or.inl ⟨by rfl, ?_⟩) hHeld ?_
      · intro w hSw; go_split_ands; go_simp
      simp only [List.getElem_toArray, List.getElem_cons_zero, List.getElem_cons_succ, Act.put, List.setIfInBounds_toArray, List.set_cons_zero, List.set_cons_succ]
      refine wpAnyH_take (i := 3) (v := .bool false) rfl (by kernel_rfl) (by kernel_rfl) (by kernel_rfl) (fun _ _ _ h => h) (Or.inl ⟨by rfl, ?_⟩) hHeld ?_
      · intro w hSw; go_split_ands; go_simp
      simp only [List.getElem_toArray, List.getElem_cons_zero, List.getElem_cons_succ, Act.put, List.setIfInBounds_toArray, List.set_cons_zero, List.set_cons_succ]
      refine wpAnyH_take (i := 4) (v := undef) rfl (by kernel_rfl) (by kernel_rfl) (by kernel_rfl) (fun _ _ _ h => h) (Or.inr ⟨by rfl, rfl⟩) hHeld ?_
      simp only [List.getElem_toArray, List.getElem_cons_zero, List.getElem_cons_succ, Act.put, List.setIfInBounds_toArray, List.set_cons_zero, List.set_cons_succ]
      refine wpAnyH_take (i := 5) (v := undef) rfl (by kernel_rfl) (by kernel_rfl) (by kernel_rfl) (fun _ _ _ h => h) (Or.inr ⟨by rfl, rfl⟩) hHeld ?_
      simp only [List.getElem_toArray, List.getElem_cons_zero, List.getElem_cons_succ, Act.put, List.setIfInBounds_toArray, List.set_cons_zero, List.set_cons_succ]
      refine wpAnyH_take (i := 6) (v := undef) rfl (by kernel_rfl) (by kernel_rfl) (by kernel_rfl) (fun _ _ _ h => h) (Or.inr ⟨by rfl, rfl⟩) hHeld ?_
      simp only [List.getElem_toArray, List.getElem_cons_zero, List.getElem_cons_succ, Act.put, List.setIfInBounds_toArray, List.set_cons_zero, List.set_cons_succ]
      refine wpAnyH_take (i := 7) (v := undef) rfl (by kernel_rfl) (by kernel_rfl) (by kernel_rfl) (fun _ _ _ h => h) (Or.inr ⟨by rfl, rfl⟩) hHeld ?_
      simp only [List.getElem_toArray, List.getElem_cons_zero, List.getElem_cons_succ, Act.put, List.setIfInBounds_toArray, List.set_cons_zero, List.set_cons_succ]
      refine wpAnyH_take (i := 8) (v := undef) rfl (by kernel_rfl) (by kernel_rfl) (by kernel_rfl) (fun _ _ _ h => h) (Or.inr ⟨by rfl, rfl⟩) hHeld ?_
      simp only [List.getElem_toArray, List.getElem_cons_zero, List.getElem_cons_succ, Act.put, List.setIfInBounds_toArray, List.set_cons_zero, List.set_cons_succ]
      refine wpAnyH_take (i := 9) (v := undef) rfl (by kernel_rfl) (by kernel_rfl) (by kernel_rfl) (fun _ _ _ h => h) (Or.inr ⟨by rfl, rfl⟩) hHeld ?_
      simp only [List.getElem_toArray, List.getElem_cons_zero, List.getElem_cons_succ, Act.put, List.setIfInBounds_toArray, List.set_cons_zero, List.set_cons_succ]
      refine wpAnyH_take (i := 10) (v := undef) rfl (by kernel_rfl) (by kernel_rfl) (by kernel_rfl) (fun _ _ _ h => h) (Or.inr ⟨by rfl, rfl⟩) hHeld ?_
      simp only [List.getElem_toArray, List.getElem_cons_zero, List.getElem_cons_succ, Act.put, List.setIfInBounds_toArray, List.set_cons_zero, List.set_cons_succ]
      refine wpAnyH_take (i := 11) (v := undef) rfl (by kernel_rfl) (by kernel_rfl) (by kernel_rfl) (fun _ _ _ h => h) (Or.inr ⟨by rfl, rfl⟩) hHeld ?_
      simp only [List.getElem_toArray, List.getElem_cons_zero, List.getElem_cons_succ, Act.put, List.setIfInBounds_toArray, List.set_cons_zero, List.set_cons_succ]
      refine wpAnyH_take (i := 12) (v := undef) rfl (by kernel_rfl) (by kernel_rfl) (by kernel_rfl) (fun _ _ _ h => h) (Or.inr ⟨by rfl, rfl⟩) hHeld ?_
      simp only [List.getElem_toArray, List.getElem_cons_zero, List.getElem_cons_succ, Act.put, List.setIfInBounds_toArray, List.set_cons_zero, List.set_cons_succ]
      refine wpAnyH_take (i := 13) (v := undef) rfl (by kernel_rfl) (by kernel_rfl) (by kernel_rfl) (fun _ _ _ h => h) (Or.inr ⟨by rfl, rfl⟩) hHeld ?_
      simp only [List.getElem_toArray, List.getElem_cons_zero, List.getElem_cons_succ, Act.put, List.setIfInBounds_toArray, List.set_cons_zero, List.set_cons_succ]
      refine wpAnyH_take (i := 14) (v := undef) rfl (by kernel_rfl) (by kernel_rfl) (by kernel_rfl) (fun _ _ _ h => h) (Or.inr ⟨by rfl, rfl⟩) hHeld ?_
      simp only [List.getElem_toArray, List.getElem_cons_zero, List.getElem_cons_succ, Act.put, List.setIfInBounds_toArray, List.set_cons_zero, List.set_cons_succ]
      refine wpAnyH_take (i := 15) (v := undef) rfl (by kernel_rfl) (by kernel_rfl) (by kernel_rfl) (fun _ _ _ h => h) (Or.inr ⟨by rfl, rfl⟩) hHeld ?_
      simp only [List.getElem_toArray, List.getElem_cons_zero, List.getElem_cons_succ, Act.put, List.setIfInBounds_toArray, List.set_cons_zero, List.set_cons_succ]
      refine wpAnyH_take (i := 16) (v := .bool false) rfl (by kernel_rfl) (by kernel_rfl) (by kernel_rfl) (fun _ _ _ h => h) (Or.inl ⟨by rfl, ?_⟩) hHeld ?_
      · intro w hSw; go_split_ands; go_simp
      simp only [List.getElem_toArray, List.getElem_cons_zero, List.getElem_cons_succ, Act.put, List.setIfInBounds_toArray, List.set_cons_zero, List.set_cons_succ]
      refine wpAnyH_done (by kernel_rfl) (NoOut.normal ?_) _
      have HB6 : Hid (Below X.heap.size X X.drew) := (Below.refl _ X).drew
      have HBD : Hid (0 < pre.length → less (lastE es ((nums pre).getD (pre.length - 1) 0)) (headE es x.1) = true) := fun h => by omega
      clear hHeld
      generalize X.drew = X6 at *
      clear c2 hp0
      have HC6 : Hid _ := HCS.out.later HB6.out
      have HE6 : Hid _ := HE.out X6 HB6.out
      rcases Bool.eq_false_or_eq_true (right (chunk es x.1)) with hr | hr
      · have HGN : Hid (Good es (nums pre ++ [x.1])) := Good.snoc HG.out hr (by rw [nums_len]; exact HBD.out)
        have HR : Hid (encV (chunk es x.1) = .tuple #[.string (blk es x.1), .int .i64 0]) := by show _ = _; unfold encV; rw [hr]; rfl
        rw [HR.out] at HE6
        obtain ⟨PB, hPB⟩ : ∃ PB, PB = blk es x.1 := ⟨_, rfl⟩
        rw [← hPB] at HE6
        have HPB : Hid _ := hPB
        clear hr HR hPB
        gi_wp2_with ((try refine ⟨trivial, ?_⟩); gi_at_call 36; refine (CallsIn.inRound l (callsIn_wide.2 (show Calls _ _ _ _ _ from HE6.out))).mono ?_; rintro e X7 ⟨rfl, hb7⟩)
        have HB7 : Hid (Below X.heap.size X X7) := HB6.out.trans (hb7.mono HB6.out.size)
        have hcs7 := HCS.out.later HB7.out
        have HC7 : Hid _ := hcs7
        have hs7 := hcs7.size
        have e2 : X7.drew.cell? ⟨w.heap.size + 2, 0, none⟩ = some v := by show X7.cell? _ = _; rw [Joins.cell_of_block hcs7.b2]; rfl
        obtain ⟨t0, t1, t2, t3⟩ := HT.out X7.drew hcs7.bel.drew
        obtain ⟨t, ht⟩ : ∃ t, t = lastE es x.1 := ⟨_, rfl⟩
        rw [← ht] at t0 t1 t2 t3
        have hbb : b < w.heap.size := by
          rcases HX.out w (Below.refl _ _) with h0 | ⟨b', _, e1, h1, _⟩
          · have h1 := chunk_pos x.2; have h2 : es.length = 0 := by rw [h0]; rfl
            omega
          · cases e1; exact h1
        have hd0 : (0 : Int) ≤ (d : Int) := by omega
        have hd1 : (d : Int) < (c : Int) := by omega
        have HPT : Hid ((⟨PB, t⟩ : Part) = part es x.1) := by show _ = _; rw [HPB.out, ht]; rfl
        have hbX7 : Below w.heap.size w X7 := hcs7.bel
        have HTK : Hid (∀ Z : World, (∀ k, k < w.heap.size → Z.heap[k]? = X7.heap[k]?) → Z.cell? ⟨b, off + 8 * x.1 * 4 + d * 4, none⟩ = some (.string t.key) ∧ Z.cell? ⟨b, off + 8 * x.1 * 4 + d * 4 + 1, none⟩ = some (.int .i64 t.seq) ∧ Z.cell? ⟨b, off + 8 * x.1 * 4 + d * 4 + 2, none⟩ = some (.bool t.dead) ∧ Z.cell? ⟨b, off + 8 * x.1 * 4 + d * 4 + 3, none⟩ = some (.string t.val)) := fun Z hZ => by
          have f : ∀ o, Z.cell? ⟨b, o, none⟩ = X7.cell? ⟨b, o, none⟩ := fun o => World.cell?_of_block (hZ b hbb)
          rw [f, f, f, f]; exact ⟨t0, t1, t2, t3⟩
        have HTS : Hid (∀ Z : World, (Z.cell? ⟨b, off + 8 * x.1 * 4 + d * 4, none⟩ = some (.string t.key) ∧ Z.cell? ⟨b, off + 8 * x.1 * 4 + d * 4 + 1, none⟩ = some (.int .i64 t.seq) ∧ Z.cell? ⟨b, off + 8 * x.1 * 4 + d * 4 + 2, none⟩ = some (.bool t.dead) ∧ Z.cell? ⟨b, off + 8 * x.1 * 4 + d * 4 + 3, none⟩ = some (.string t.val)) → ∀ u, (Z.setCell ⟨w.heap.size + 2, 0, none⟩ u).cell? ⟨b, off + 8 * x.1 * 4 + d * 4, none⟩ = some (.string t.key) ∧ (Z.setCell ⟨w.heap.size + 2, 0, none⟩ u).cell? ⟨b, off + 8 * x.1 * 4 + d * 4 + 1, none⟩ = some (.int .i64 t.seq) ∧ (Z.setCell ⟨w.heap.size + 2, 0, none⟩ u).cell? ⟨b, off + 8 * x.1 * 4 + d * 4 + 2, none⟩ = some (.bool t.dead) ∧ (Z.setCell ⟨w.heap.size + 2, 0, none⟩ u).cell? ⟨b, off + 8 * x.1 * 4 + d * 4 + 3, none⟩ = some (.string t.val)) := fun Z hZ u => by
          have f : ∀ o, (Z.setCell ⟨w.heap.size + 2, 0, none⟩ u).cell? ⟨b, o, none⟩ = Z.cell? ⟨b, o, none⟩ := fun o => World.cell?_of_block (Below.heap_setCell Z ⟨w.heap.size + 2, 0, none⟩ u b (by show b ≠ w.heap.size + 2; omega))
          rw [f, f, f, f]; exact hZ
        have HT8 : Hid _ := HTK.out (X7.drew.alloc (ptObj ⟨PB, t⟩)) (fun k hk => Below.heap_alloc _ _ _ (by show k < X7.heap.size; omega))
        have HO8 : Hid ((X7.drew.alloc (ptObj ⟨PB, t⟩)).ownsRow (w.heap.size + 5) 74 5 v pre.length (ptShape.vals ((nums pre).map (part es)))) := by
          have := hcs7.own
          rw [List.length_map, nums_len] at this
          exact World.ownsRow.alloc (rows_keep (w' := X7.drew) this (fun _ _ => rfl)) _
        have HN8 : Hid _ := new_part ⟨PB, t⟩ X7.drew
        have HS8 : Hid (w.heap.size + 5 ≤ (X7.drew.alloc (ptObj ⟨PB, t⟩)).heap.size) := by show _ ≤ _; simp; omega
        have HPUT : Hid (∀ g cap Z, Z.ownsRow (w.heap.size + 5) 74 5 (.slice (some ⟨g, 0, none⟩) (pre.length + 1) cap) (pre.length + 1) (ptShape.vals ((nums pre).map (part es)) ++ ptShape.enc ⟨PB, t⟩) → (X7.drew.alloc (ptObj ⟨PB, t⟩)).grownBy Z v.ownBlock → _) := fun g cap Z h1 h2 => hcs7.put ⟨PB, t⟩ (by rw [List.length_map, nums_len]) h1 h2
        have e2a : (X7.drew.alloc (ptObj ⟨PB, t⟩)).cell? ⟨w.heap.size + 2, 0, none⟩ = some v := (World.cell?_of_block (Below.heap_alloc _ _ _ (by show w.heap.size + 2 < X7.heap.size; omega))).trans e2
        have e2b : (X7.alloc (ptObj ⟨PB, t⟩)).cell? ⟨w.heap.size + 2, 0, none⟩ = some v := e2a
        have HKF : Hid (KeepsFrom (w.heap.size + 5) X X7) := keeps_below HB7.out
        have HSM : Hid (Same2 (w.heap.size + 3) (w.heap.size + 4) X X7) := by have := HCS.out.size; exact ⟨HB7.out.block _ (by omega), HB7.out.block _ (by omega)⟩
        dsimp only [ptObj] at HT8 HO8 HN8 HS8 HPUT e2a e2b
        clear hcs7 hbX7 hb7 ht HE6 HC6 HB6 HBD hs7
        refine region_round (S := fun w' => w'.cell? ⟨b, off + 8 * x.1 * 4 + d * 4, none⟩ = some (.string t.key) ∧ w'.cell? ⟨b, off + 8 * x.1 * 4 + d * 4 + 1, none⟩ = some (.int .i64 t.seq) ∧ w'.cell? ⟨b, off + 8 * x.1 * 4 + d * 4 + 2, none⟩ = some (.bool t.dead) ∧ w'.cell? ⟨b, off + 8 * x.1 * 4 + d * 4 + 3, none⟩ = some (.string t.val)) (by kernel_rfl) (by kernel_rfl) ⟨t0, t1, t2, t3⟩ (fun hHeld => ?_)
        refine wpAnyH_take (i := 1) (v := .string PB) rfl (by kernel_rfl) (by kernel_rfl) (by kernel_rfl) (fun _ _ _ h => h) (Or.inl ⟨by rfl, ?_⟩) hHeld ?_
        · intro w hSw; go_split_ands; go_simp
        simp only [List.getElem_toArray, List.getElem_cons_zero, List.getElem_cons_succ, Act.put, List.setIfInBounds_toArray, List.set_cons_zero, List.set_cons_succ]
        refine wpAnyH_take (i := 2) (v := .slice (some ⟨b, off + 8 * x.1 * 4, none⟩) c c) rfl (by kernel_rfl) (by kernel_rfl) (by kernel_rfl) (fun _ _ _ h => h) (Or.inl ⟨by rfl, ?_⟩) hHeld ?_
        · intro w hSw; go_split_ands; go_simp
        simp only [List.getElem_toArray, List.getElem_cons_zero, List.getElem_cons_succ, Act.put, List.setIfInBounds_toArray, List.set_cons_zero, List.set_cons_succ]
        refine wpAnyH_take (i := 3) (v := .slice (some ⟨b, off + 8 * x.1 * 4, none⟩) c c) rfl (by kernel_rfl) (by kernel_rfl) (by kernel_rfl) (fun _ _ _ h => h) (Or.inl ⟨by rfl, ?_⟩) hHeld ?_
        · intro w hSw; go_split_ands; go_simp
        simp only [List.getElem_toArray, List.getElem_cons_zero, List.getElem_cons_succ, Act.put, List.setIfInBounds_toArray, List.set_cons_zero, List.set_cons_succ]
        refine wpAnyH_take (i := 4) (v := .int .i64 (c : Int)) rfl (by kernel_rfl) (by kernel_rfl) (by kernel_rfl) (fun _ _ _ h => h) (Or.inl ⟨by rfl, ?_⟩) hHeld ?_
        · intro w hSw; go_split_ands; go_simp
        simp only [List.getElem_toArray, List.getElem_cons_zero, List.getElem_cons_succ, Act.put, List.setIfInBounds_toArray, List.set_cons_zero, List.set_cons_succ]
        refine wpAnyH_take (i := 5) (v := .int .i64 (d : Int)) rfl (by kernel_rfl) (by kernel_rfl) (by kernel_rfl) (fun _ _ _ h => h) (Or.inl ⟨by rfl, ?_⟩) hHeld ?_
        · intro w hSw; go_split_ands; go_simp
        simp only [List.getElem_toArray, List.getElem_cons_zero, List.getElem_cons_succ, Act.put, List.setIfInBounds_toArray, List.set_cons_zero, List.set_cons_succ]
        refine wpAnyH_take (i := 6) (v := .pointer (some ⟨b, off + 8 * x.1 * 4 + d * 4, none⟩)) rfl (by kernel_rfl) (by kernel_rfl) (by kernel_rfl) (fun _ _ _ h => h) (Or.inl ⟨by rfl, ?_⟩) hHeld ?_
        · intro w hSw; go_split_ands; go_simp
        simp only [List.getElem_toArray, List.getElem_cons_zero, List.getElem_cons_succ, Act.put, List.setIfInBounds_toArray, List.set_cons_zero, List.set_cons_succ]
        refine wpAnyH_take (i := 7) (v := .agg #[.string t.key, .int .i64 t.seq, .bool t.dead, .string t.val]) rfl (by kernel_rfl) (by kernel_rfl) (by kernel_rfl) (fun _ _ _ h => h) (Or.inl ⟨by rfl, ?_⟩) hHeld ?_
        · intro w hSw; go_split_ands; go_simp
        simp only [List.getElem_toArray, List.getElem_cons_zero, List.getElem_cons_succ, Act.put, List.setIfInBounds_toArray, List.set_cons_zero, List.set_cons_succ]
        refine wpAnyH_take (i := 8) (v := .agg #[.string PB, .string t.key, .int .i64 t.seq, .bool t.dead, .string t.val]) rfl (by kernel_rfl) (by kernel_rfl) (by kernel_rfl) (fun _ _ _ h => h) (Or.inl ⟨by rfl, ?_⟩) hHeld ?_
        · intro w hSw; go_split_ands; go_simp
        simp only [List.getElem_toArray, List.getElem_cons_zero, List.getElem_cons_succ, Act.put, List.setIfInBounds_toArray, List.set_cons_zero, List.set_cons_succ]
        refine wpAnyH_ready (rs := [0, 9]) (by kernel_rfl) (by simp) (AllReadyH.cons rfl (fun K hK => ?_) (AllReadyH.cons rfl (fun K hK => ?_) AllReadyH.nil))
        · go_simp
          refine hK.out _ _ ⟨t0, t1, t2, t3⟩ (fun hHeld => ?_)
          clear hK K
          refine wpAnyH_ready (rs := [9]) (by kernel_rfl) (by simp) (AllReadyH.cons rfl (fun K hK => ?_) AllReadyH.nil)
          go_simp
          refine hK.out _ _ HT8.out (fun hHeld => ?_)
          clear hK K
          refine wpAnyH_ready (rs := [10]) (by kernel_rfl) (by simp) (AllReadyH.cons rfl (fun K hK => ?_) AllReadyH.nil)
          refine step_append_lies _ (by rfl) (.tmp 36) (.tmp 45) 45 (by rfl) (w.heap.size + 5) 74 i0 (.agg #[.string ⟨#[]⟩, .string ⟨#[]⟩, .int .i64 0, .bool false, .string ⟨#[]⟩]) 5 64 Tryz.underlying45 hi hz0 hz1 hz2 rfl (by decide) v pre.length (ptShape.vals ((nums pre).map (part es))) (by rfl) HO8.out ⟨X7.heap.size, 0, none⟩ 1 1 (ptShape.enc ⟨PB, t⟩) (by rfl) rfl HN8.out (ptShape.one _) (by decide) (by unfold maxLen; unfold nch at hfew'; omega) (by unfold nch at hfew'; omega) HS8.out _ rfl ?_
          intro g5 cap5 w8 hown8 hgrow8 hat8 hlt8
          obtain ⟨k1, k2, k3, k4, k5⟩ := HPUT.out g5 cap5 w8 hown8 hgrow8
          have HK : Hid _ := And.intro k3 (And.intro k4 k5)
          have s0 : w8.cell? ⟨w.heap.size + 2, 0, none⟩ = some v := by rw [Joins.cell_of_block k1]; rfl
          have s1 : w8.frozen? ⟨w.heap.size + 2, 0, none⟩ = false := Lib.frozen_of_heap k1 0
          have HTT : Hid _ := HTK.out w8 k2
          clear k1 k2 k3 k4 k5 hown8 hgrow8 hat8 hlt8 hHeld
          refine hK.out _ _ HTT.out (fun hHeld => ?_)
          clear hK K
          simp only [List.getElem_toArray, List.getElem_cons_zero, List.getElem_cons_succ, Act.put, List.setIfInBounds_toArray, List.set_cons_zero, List.set_cons_succ]
          refine wpAnyH_ready (rs := [11]) (by kernel_rfl) (by simp) (AllReadyH.cons rfl (fun K hK => ?_) AllReadyH.nil)
          go_simp
          refine hK.out _ _ (HTS.out w8 HTT.out _) (fun hHeld => ?_)
          clear hK K
          refine wpAnyH_done (by kernel_rfl) (NoOut.normal ?_) _
          gi_wp2
          refine ⟨by rw [hsz]; exact HKF.out.trans HK.out.2.1, same2_t HSM.out HK.out.2.2, ?_⟩
          show Good es (nums (pre ++ [x])) ∧ ∃ v, CS w (some ⟨b, off, none⟩) es.length ca ((nums (pre ++ [x])).map (part es)) v _
          rw [nums_snoc, List.map_append]
          refine ⟨HGN.out, .slice (some ⟨g5, 0, none⟩) (pre.length + 1) cap5, ?_⟩
          have := HK.out.1
          rw [HPT.out] at this
          exact this
        · go_simp
          refine hK.out _ _ HT8.out (fun hHeld => ?_)
          clear hK K
          refine wpAnyH_ready (rs := [0]) (by kernel_rfl) (by simp) (AllReadyH.cons rfl (fun K hK => ?_) AllReadyH.nil)
          go_simp
          refine hK.out _ _ HT8.out (fun hHeld => ?_)
          clear hK K
          refine wpAnyH_ready (rs := [10]) (by kernel_rfl) (by simp) (AllReadyH.cons rfl (fun K hK => ?_) AllReadyH.nil)
          refine step_append_lies _ (by rfl) (.tmp 36) (.tmp 45) 45 (by rfl) (w.heap.size + 5) 74 i0 (.agg #[.string ⟨#[]⟩, .string ⟨#[]⟩, .int .i64 0, .bool false, .string ⟨#[]⟩]) 5 64 Tryz.underlying45 hi hz0 hz1 hz2 rfl (by decide) v pre.length (ptShape.vals ((nums pre).map (part es))) (by rfl) HO8.out ⟨X7.heap.size, 0, none⟩ 1 1 (ptShape.enc ⟨PB, t⟩) (by rfl) rfl HN8.out (ptShape.one _) (by decide) (by unfold maxLen; unfold nch at hfew'; omega) (by unfold nch at hfew'; omega) HS8.out _ rfl ?_
          intro g5 cap5 w8 hown8 hgrow8 hat8 hlt8
          obtain ⟨k1, k2, k3, k4, k5⟩ := HPUT.out g5 cap5 w8 hown8 hgrow8
          have HK : Hid _ := And.intro k3 (And.intro k4 k5)
          have s0 : w8.cell? ⟨w.heap.size + 2, 0, none⟩ = some v := by rw [Joins.cell_of_block k1]; rfl
          have s1 : w8.frozen? ⟨w.heap.size + 2, 0, none⟩ = false := Lib.frozen_of_heap k1 0
          have HTT : Hid _ := HTK.out w8 k2
          clear k1 k2 k3 k4 k5 hown8 hgrow8 hat8 hlt8 hHeld
          refine hK.out _ _ HTT.out (fun hHeld => ?_)
          clear hK K
          simp only [List.getElem_toArray, List.getElem_cons_zero, List.getElem_cons_succ, Act.put, List.setIfInBounds_toArray, List.set_cons_zero, List.set_cons_succ]
          refine wpAnyH_ready (rs := [11]) (by kernel_rfl) (by simp) (AllReadyH.cons rfl (fun K hK => ?_) AllReadyH.nil)
          go_simp
          refine hK.out _ _ (HTS.out w8 HTT.out _) (fun hHeld => ?_)
          clear hK K
          refine wpAnyH_done (by kernel_rfl) (NoOut.normal ?_) _
          gi_wp2
          refine ⟨by rw [hsz]; exact HKF.out.trans HK.out.2.1, same2_t HSM.out HK.out.2.2, ?_⟩
          show Good es (nums (pre ++ [x])) ∧ ∃ v, CS w (some ⟨b, off, none⟩) es.length ca ((nums (pre ++ [x])).map (part es)) v _
          rw [nums_snoc, List.map_append]
          refine ⟨HGN.out, .slice (some ⟨g5, 0, none⟩) (pre.length + 1) cap5, ?_⟩
          have := HK.out.1
          rw [HPT.out] at this
          exact this
      · have HNG : Hid (¬ Good es (nums pre ++ [x.1])) := not_good_chunk hr
        have HR : Hid (encV (chunk es x.1) = .tuple #[.string ⟨#[]⟩, .int .i64 9]) := by show _ = _; unfold encV; rw [hr]; rfl
        rw [HR.out] at HE6
        have HGO : Hid (∀ X7, Below X6.heap.size X6 X7 → (X7.cell? ⟨w.heap.size, 0, none⟩ = some (.slice none 0 0) ∧ X7.cell? ⟨w.heap.size + 1, 0, none⟩ = some (.int .i64 0) ∧ X7.frozen? ⟨w.heap.size, 0, none⟩ = false ∧ X7.frozen? ⟨w.heap.size + 1, 0, none⟩ = false)) := fun X7 hb7 => by
          have h := HC6.out.later hb7
          exact ⟨by rw [Joins.cell_of_block h.b0]; rfl, by rw [Joins.cell_of_block h.b1]; rfl, Lib.frozen_of_heap h.b0 0, Lib.frozen_of_heap h.b1 0⟩
        clear hr HR
        gi_wp2_with ((try refine ⟨trivial, ?_⟩); gi_at_call 36; refine (CallsIn.inRound l (callsIn_wide.2 (show Calls _ _ _ _ _ from HE6.out))).mono ?_; rintro e X7 ⟨rfl, hb7⟩; obtain ⟨g0, g1, f0, f1⟩ := HGO.out X7 hb7)
        have HB7 := HB6.out.trans (hb7.mono HB6.out.size)
        have HC7 := (HCS.out.later HB7).gone
        refine ⟨by rw [hsz]; exact (keeps_below HB7).trans HC7.2, ⟨rfl, ?_⟩, HC7.1⟩
        rw [nums_snoc]
        exact HNG.out
    · obtain ⟨m, hm⟩ : ∃ m, m + 1 = pre.length := ⟨pre.length - 1, by omega⟩
      obtain ⟨g, pf, rfl, z0, z1, z2, z3⟩ := part_cells HPE.out (m := m) (by rw [nums_len]; omega)
      obtain ⟨y0, y1, y2, y3⟩ := HY0.out
      have hml : pre.length - 1 = m := by omega
      have HGB : Hid (less (lastE es ((nums pre).getD m 0)) (headE es x.1) = false → ¬ Good es (nums pre ++ [x.1])) := fun h => not_good_border (by rw [nums_len]; omega) (by rw [nums_len, hml]; exact h)
      have HGD : Hid (less (lastE es ((nums pre).getD m 0)) (headE es x.1) = true → 0 < pre.length → less (lastE es ((nums pre).getD (pre.length - 1) 0)) (headE es x.1) = true) := fun h _ => by rw [hml]; exact h
      have HCM : Hid (∀ Y, Calls Tryz.prog 35 #[env (lastE es ((nums pre).getD m 0)), env (headE es x.1)] Y fun e w' => e = .returned (.int .i64 (cE (lastE es ((nums pre).getD m 0)) (headE es x.1))) ∧ Below Y.heap.size Y w') := fun Y => cmpE_any _ _ Y
      have HLT : Hid _ := cE_lt (lastE es ((nums pre).getD m 0)) (headE es x.1)
      obtain ⟨n, hn⟩ : ∃ n, n = pre.length := ⟨_, rfl⟩
      rw [← hn] at c2
      have hnm : IntKind.i64.wrap ((n : Int) - 1) = (m : Int) := wrap_nat (by omega) (by unfold nch at hfew'; omega)
      have hn0 : (0 : Int) < (n : Int) := by omega
      have hn1 : decide (0 < n) = true := decide_eq_true (by omega)
      have hm0 : (0 : Int) ≤ (m : Int) := by omega
      have hm1 : (m : Int) < (n : Int) := by omega
      have hc1 : (0 : Int) < (c : Int) := by omega
      have HN : Hid (n = pre.length) := hn
      clear HPE HY0 hml hp0 hm hn hlt
      unfold env at HCM
      have HQ : Hid (∀ Y, Below X.drew.heap.size X.drew Y → Below X.heap.size X Y ∧ (Y.cell? ⟨w.heap.size + 2, 0, none⟩ = some (.slice (some ⟨g, pf, none⟩) n pc) ∧ Y.cell? ⟨g, pf + m * 5 + 1, none⟩ = some (.string (lastE es ((nums pre).getD m 0)).key) ∧ Y.cell? ⟨g, pf + m * 5 + 1 + 1, none⟩ = some (.int .i64 (lastE es ((nums pre).getD m 0)).seq) ∧ Y.cell? ⟨g, pf + m * 5 + 1 + 2, none⟩ = some (.bool (lastE es ((nums pre).getD m 0)).dead) ∧ Y.cell? ⟨g, pf + m * 5 + 1 + 3, none⟩ = some (.string (lastE es ((nums pre).getD m 0)).val) ∧ Y.cell? ⟨b, off + 8 * x.1 * 4, none⟩ = some (.string (headE es x.1).key) ∧ Y.cell? ⟨b, off + 8 * x.1 * 4 + 1, none⟩ = some (.int .i64 (headE es x.1).seq) ∧ Y.cell? ⟨b, off + 8 * x.1 * 4 + 2, none⟩ = some (.bool (headE es x.1).dead) ∧ Y.cell? ⟨b, off + 8 * x.1 * 4 + 3, none⟩ = some (.string (headE es x.1).val))) := fun Y hY => by
        have hb : Below X.heap.size X Y := (Below.refl _ X).drew.trans hY
        exact ⟨hb, cell_later hb c2, cell_later hb z0, cell_later hb z1, cell_later hb z2, cell_later hb z3, cell_later hb y0, cell_later hb y1, cell_later hb y2, cell_later hb y3⟩
      rcases Bool.eq_false_or_eq_true (less (lastE es ((nums pre).getD m 0)) (headE es x.1)) with hls | hls
      · have HBD : Hid _ := HGD.out hls
        have hge : decide (0 ≤ cE (lastE es ((nums pre).getD m 0)) (headE es x.1)) = false := decide_eq_false (by have := HLT.out; rw [hls] at this; have := of_decide_eq_true this; omega)
        clear HGB HGD HLT hls
        generalize cE (lastE es ((nums pre).getD m 0)) (headE es x.1) = q at *
        obtain ⟨z, hz⟩ : ∃ z, z = lastE es ((nums pre).getD m 0) := ⟨_, rfl⟩
        obtain ⟨y, hy⟩ : ∃ y, y = headE es x.1 := ⟨_, rfl⟩
        rw [← hz] at z0 z1 z2 z3 HQ HCM
        rw [← hy] at y0 y1 y2 y3 HQ HCM
        clear hz hy
        gi_wp2_with fail
        refine region_round (S := fun w' => w'.cell? ⟨w.heap.size + 2, 0, none⟩ = some (.slice (some ⟨g, pf, none⟩) n pc) ∧ w'.cell? ⟨g, pf + m * 5 + 1, none⟩ = some (.string z.key) ∧ w'.cell? ⟨g, pf + m * 5 + 1 + 1, none⟩ = some (.int .i64 z.seq) ∧ w'.cell? ⟨g, pf + m * 5 + 1 + 2, none⟩ = some (.bool z.dead) ∧ w'.cell? ⟨g, pf + m * 5 + 1 + 3, none⟩ = some (.string z.val) ∧ w'.cell? ⟨b, off + 8 * x.1 * 4, none⟩ = some (.string y.key) ∧ w'.cell? ⟨b, off + 8 * x.1 * 4 + 1, none⟩ = some (.int .i64 y.seq) ∧ w'.cell? ⟨b, off + 8 * x.1 * 4 + 2, none⟩ = some (.bool y.dead) ∧ w'.cell? ⟨b, off + 8 * x.1 * 4 + 3, none⟩ = some (.string y.val)) (by kernel_rfl) (by kernel_rfl) ⟨c2, z0, z1, z2, z3, y0, y1, y2, y3⟩ (fun hHeld => ?_)
        refine wpAnyH_take (i := 0) (v := .slice (some ⟨g, pf, none⟩) n pc) rfl (by kernel_rfl) (by kernel_rfl) (by kernel_rfl) (fun _ _ _ h => h) (Or.inl ⟨by rfl, ?_⟩) hHeld ?_
        · intro w hSw; go_split_ands; go_simp
        simp only [List.getElem_toArray, List.getElem_cons_zero, List.getElem_cons_succ, Act.put, List.setIfInBounds_toArray, List.set_cons_zero, List.set_cons_succ]
        refine wpAnyH_take (i := 1) (v := .int .i64 (n : Int)) rfl (by kernel_rfl) (by kernel_rfl) (by kernel_rfl) (fun _ _ _ h => h) (Or.inl ⟨by rfl, ?_⟩) hHeld ?_
        · intro w hSw; go_split_ands; go_simp
        simp only [List.getElem_toArray, List.getElem_cons_zero, List.getElem_cons_succ, Act.put, List.setIfInBounds_toArray, List.set_cons_zero, List.set_cons_succ]
        refine wpAnyH_take (i := 2) (v := .bool true) rfl (by kernel_rfl) (by kernel_rfl) (by kernel_rfl) (fun _ _ _ h => h) (Or.inl ⟨by rfl, ?_⟩) hHeld ?_
        · intro w hSw; go_split_ands; go_simp
        simp only [List.getElem_toArray, List.getElem_cons_zero, List.getElem_cons_succ, Act.put, List.setIfInBounds_toArray, List.set_cons_zero, List.set_cons_succ]
        refine wpAnyH_take (i := 3) (v := .bool true) rfl (by kernel_rfl) (by kernel_rfl) (by kernel_rfl) (fun _ _ _ h => h) (Or.inl ⟨by rfl, ?_⟩) hHeld ?_
        · intro w hSw; go_split_ands; go_simp
        simp only [List.getElem_toArray, List.getElem_cons_zero, List.getElem_cons_succ, Act.put, List.setIfInBounds_toArray, List.set_cons_zero, List.set_cons_succ]
        refine wpAnyH_take (i := 4) (v := .slice (some ⟨g, pf, none⟩) n pc) rfl (by kernel_rfl) (by kernel_rfl) (by kernel_rfl) (fun _ _ _ h => h) (Or.inl ⟨by rfl, ?_⟩) hHeld ?_
        · intro w hSw; go_split_ands; go_simp
        simp only [List.getElem_toArray, List.getElem_cons_zero, List.getElem_cons_succ, Act.put, List.setIfInBounds_toArray, List.set_cons_zero, List.set_cons_succ]
        refine wpAnyH_take (i := 5) (v := .slice (some ⟨g, pf, none⟩) n pc) rfl (by kernel_rfl) (by kernel_rfl) (by kernel_rfl) (fun _ _ _ h => h) (Or.inl ⟨by rfl, ?_⟩) hHeld ?_
        · intro w hSw; go_split_ands; go_simp
        simp only [List.getElem_toArray, List.getElem_cons_zero, List.getElem_cons_succ, Act.put, List.setIfInBounds_toArray, List.set_cons_zero, List.set_cons_succ]
        refine wpAnyH_take (i := 6) (v := .int .i64 (n : Int)) rfl (by kernel_rfl) (by kernel_rfl) (by kernel_rfl) (fun _ _ _ h => h) (Or.inl ⟨by rfl, ?_⟩) hHeld ?_
        · intro w hSw; go_split_ands; go_simp
        simp only [List.getElem_toArray, List.getElem_cons_zero, List.getElem_cons_succ, Act.put, List.setIfInBounds_toArray, List.set_cons_zero, List.set_cons_succ]
        refine wpAnyH_take (i := 7) (v := .int .i64 (m : Int)) rfl (by kernel_rfl) (by kernel_rfl) (by kernel_rfl) (fun _ _ _ h => h) (Or.inl ⟨by rfl, ?_⟩) hHeld ?_
        · intro w hSw; go_split_ands; go_simp
        simp only [List.getElem_toArray, List.getElem_cons_zero, List.getElem_cons_succ, Act.put, List.setIfInBounds_toArray, List.set_cons_zero, List.set_cons_succ]
        refine wpAnyH_take (i := 8) (v := .pointer (some ⟨g, pf + m * 5, none⟩)) rfl (by kernel_rfl) (by kernel_rfl) (by kernel_rfl) (fun _ _ _ h => h) (Or.inl ⟨by rfl, ?_⟩) hHeld ?_
        · intro w hSw; go_split_ands; go_simp
        simp only [List.getElem_toArray, List.getElem_cons_zero, List.getElem_cons_succ, Act.put, List.setIfInBounds_toArray, List.set_cons_zero, List.set_cons_succ]
        refine wpAnyH_take (i := 9) (v := .pointer (some ⟨g, pf + m * 5 + 1, none⟩)) rfl (by kernel_rfl) (by kernel_rfl) (by kernel_rfl) (fun _ _ _ h => h) (Or.inl ⟨by rfl, ?_⟩) hHeld ?_
        · intro w hSw; go_split_ands; go_simp
        simp only [List.getElem_toArray, List.getElem_cons_zero, List.getElem_cons_succ, Act.put, List.setIfInBounds_toArray, List.set_cons_zero, List.set_cons_succ]
        refine wpAnyH_take (i := 10) (v := .agg #[.string z.key, .int .i64 z.seq, .bool z.dead, .string z.val]) rfl (by kernel_rfl) (by kernel_rfl) (by kernel_rfl) (fun _ _ _ h => h) (Or.inl ⟨by rfl, ?_⟩) hHeld ?_
        · intro w hSw; go_split_ands; go_simp
        simp only [List.getElem_toArray, List.getElem_cons_zero, List.getElem_cons_succ, Act.put, List.setIfInBounds_toArray, List.set_cons_zero, List.set_cons_succ]
        refine wpAnyH_take (i := 11) (v := .slice (some ⟨b, off + 8 * x.1 * 4, none⟩) c c) rfl (by kernel_rfl) (by kernel_rfl) (by kernel_rfl) (fun _ _ _ h => h) (Or.inl ⟨by rfl, ?_⟩) hHeld ?_
        · intro w hSw; go_split_ands; go_simp
        simp only [List.getElem_toArray, List.getElem_cons_zero, List.getElem_cons_succ, Act.put, List.setIfInBounds_toArray, List.set_cons_zero, List.set_cons_succ]
        refine wpAnyH_take (i := 12) (v := .pointer (some ⟨b, off + 8 * x.1 * 4, none⟩)) rfl (by kernel_rfl) (by kernel_rfl) (by kernel_rfl) (fun _ _ _ h => h) (Or.inl ⟨by rfl, ?_⟩) hHeld ?_
        · intro w hSw; go_split_ands; go_simp
        simp only [List.getElem_toArray, List.getElem_cons_zero, List.getElem_cons_succ, Act.put, List.setIfInBounds_toArray, List.set_cons_zero, List.set_cons_succ]
        refine wpAnyH_take (i := 13) (v := .agg #[.string y.key, .int .i64 y.seq, .bool y.dead, .string y.val]) rfl (by kernel_rfl) (by kernel_rfl) (by kernel_rfl) (fun _ _ _ h => h) (Or.inl ⟨by rfl, ?_⟩) hHeld ?_
        · intro w hSw; go_split_ands; go_simp
        simp only [List.getElem_toArray, List.getElem_cons_zero, List.getElem_cons_succ, Act.put, List.setIfInBounds_toArray, List.set_cons_zero, List.set_cons_succ]
        refine wpAnyH_ready (rs := [14]) (by kernel_rfl) (by simp) (AllReadyH.cons rfl (fun K hK => ?_) AllReadyH.nil)
        go_simp
        refine (show Calls _ _ _ _ _ from HCM.out _).mono ?_
        rintro e X6 ⟨rfl, hb6⟩
        have hq6 := HQ.out X6 hb6
        refine hK.out _ _ hq6.2 (fun hHeld => ?_)
        clear hK K
        refine wpAnyH_take (i := 15) (v := .bool false) rfl (by kernel_rfl) (by kernel_rfl) (by kernel_rfl) (fun _ _ _ h => h) (Or.inl ⟨by rfl, ?_⟩) hHeld ?_
        · intro w hSw; go_split_ands; go_simp
        simp only [List.getElem_toArray, List.getElem_cons_zero, List.getElem_cons_succ, Act.put, List.setIfInBounds_toArray, List.set_cons_zero, List.set_cons_succ]
        refine wpAnyH_take (i := 16) (v := .bool false) rfl (by kernel_rfl) (by kernel_rfl) (by kernel_rfl) (fun _ _ _ h => h) (Or.inl ⟨by rfl, ?_⟩) hHeld ?_
        · intro w hSw; go_split_ands; go_simp
        simp only [List.getElem_toArray, List.getElem_cons_zero, List.getElem_cons_succ, Act.put, List.setIfInBounds_toArray, List.set_cons_zero, List.set_cons_succ]
        refine wpAnyH_done (by kernel_rfl) (NoOut.normal ?_) _
        have HB6 : Hid (Below X.heap.size X X6) := hq6.1
        clear hHeld hq6 hb6 HQ HCM c2 z0 z1 z2 z3 y0 y1 y2 y3 hge
        have HC6 : Hid _ := HCS.out.later HB6.out
        have HE6 : Hid _ := HE.out X6 HB6.out
        rcases Bool.eq_false_or_eq_true (right (chunk es x.1)) with hr | hr
        · have HGN : Hid (Good es (nums pre ++ [x.1])) := Good.snoc HG.out hr (by rw [nums_len]; exact HBD.out)
          have HR : Hid (encV (chunk es x.1) = .tuple #[.string (blk es x.1), .int .i64 0]) := by show _ = _; unfold encV; rw [hr]; rfl
          rw [HR.out] at HE6
          obtain ⟨PB, hPB⟩ : ∃ PB, PB = blk es x.1 := ⟨_, rfl⟩
          rw [← hPB] at HE6
          have HPB : Hid _ := hPB
          clear hr HR hPB
          gi_wp2_with ((try refine ⟨trivial, ?_⟩); gi_at_call 36; refine (CallsIn.inRound l (callsIn_wide.2 (show Calls _ _ _ _ _ from HE6.out))).mono ?_; rintro e X7 ⟨rfl, hb7⟩)
          have HB7 : Hid (Below X.heap.size X X7) := HB6.out.trans (hb7.mono HB6.out.size)
          have hcs7 := HCS.out.later HB7.out
          have HC7 : Hid _ := hcs7
          have hs7 := hcs7.size
          have e2 : X7.drew.cell? ⟨w.heap.size + 2, 0, none⟩ = some v := by show X7.cell? _ = _; rw [Joins.cell_of_block hcs7.b2]; rfl
          obtain ⟨t0, t1, t2, t3⟩ := HT.out X7.drew hcs7.bel.drew
          obtain ⟨t, ht⟩ : ∃ t, t = lastE es x.1 := ⟨_, rfl⟩
          rw [← ht] at t0 t1 t2 t3
          have hbb : b < w.heap.size := by
            rcases HX.out w (Below.refl _ _) with h0 | ⟨b', _, e1, h1, _⟩
            · have h1 := chunk_pos x.2; have h2 : es.length = 0 := by rw [h0]; rfl
              omega
            · cases e1; exact h1
          have hd0 : (0 : Int) ≤ (d : Int) := by omega
          have hd1 : (d : Int) < (c : Int) := by omega
          have HPT : Hid ((⟨PB, t⟩ : Part) = part es x.1) := by show _ = _; rw [HPB.out, ht]; rfl
          have hbX7 : Below w.heap.size w X7 := hcs7.bel
          have HTK : Hid (∀ Z : World, (∀ k, k < w.heap.size → Z.heap[k]? = X7.heap[k]?) → Z.cell? ⟨b, off + 8 * x.1 * 4 + d * 4, none⟩ = some (.string t.key) ∧ Z.cell? ⟨b, off + 8 * x.1 * 4 + d * 4 + 1, none⟩ = some (.int .i64 t.seq) ∧ Z.cell? ⟨b, off + 8 * x.1 * 4 + d * 4 + 2, none⟩ = some (.bool t.dead) ∧ Z.cell? ⟨b, off + 8 * x.1 * 4 + d * 4 + 3, none⟩ = some (.string t.val)) := fun Z hZ => by
            have f : ∀ o, Z.cell? ⟨b, o, none⟩ = X7.cell? ⟨b, o, none⟩ := fun o => World.cell?_of_block (hZ b hbb)
            rw [f, f, f, f]; exact ⟨t0, t1, t2, t3⟩
          have HTS : Hid (∀ Z : World, (Z.cell? ⟨b, off + 8 * x.1 * 4 + d * 4, none⟩ = some (.string t.key) ∧ Z.cell? ⟨b, off + 8 * x.1 * 4 + d * 4 + 1, none⟩ = some (.int .i64 t.seq) ∧ Z.cell? ⟨b, off + 8 * x.1 * 4 + d * 4 + 2, none⟩ = some (.bool t.dead) ∧ Z.cell? ⟨b, off + 8 * x.1 * 4 + d * 4 + 3, none⟩ = some (.string t.val)) → ∀ u, (Z.setCell ⟨w.heap.size + 2, 0, none⟩ u).cell? ⟨b, off + 8 * x.1 * 4 + d * 4, none⟩ = some (.string t.key) ∧ (Z.setCell ⟨w.heap.size + 2, 0, none⟩ u).cell? ⟨b, off + 8 * x.1 * 4 + d * 4 + 1, none⟩ = some (.int .i64 t.seq) ∧ (Z.setCell ⟨w.heap.size + 2, 0, none⟩ u).cell? ⟨b, off + 8 * x.1 * 4 + d * 4 + 2, none⟩ = some (.bool t.dead) ∧ (Z.setCell ⟨w.heap.size + 2, 0, none⟩ u).cell? ⟨b, off + 8 * x.1 * 4 + d * 4 + 3, none⟩ = some (.string t.val)) := fun Z hZ u => by
            have f : ∀ o, (Z.setCell ⟨w.heap.size + 2, 0, none⟩ u).cell? ⟨b, o, none⟩ = Z.cell? ⟨b, o, none⟩ := fun o => World.cell?_of_block (Below.heap_setCell Z ⟨w.heap.size + 2, 0, none⟩ u b (by show b ≠ w.heap.size + 2; omega))
            rw [f, f, f, f]; exact hZ
          have HT8 : Hid _ := HTK.out (X7.drew.alloc (ptObj ⟨PB, t⟩)) (fun k hk => Below.heap_alloc _ _ _ (by show k < X7.heap.size; omega))
          have HO8 : Hid ((X7.drew.alloc (ptObj ⟨PB, t⟩)).ownsRow (w.heap.size + 5) 74 5 v pre.length (ptShape.vals ((nums pre).map (part es)))) := by
            have := hcs7.own
            rw [List.length_map, nums_len] at this
            exact World.ownsRow.alloc (rows_keep (w' := X7.drew) this (fun _ _ => rfl)) _
          have HN8 : Hid _ := new_part ⟨PB, t⟩ X7.drew
          have HS8 : Hid (w.heap.size + 5 ≤ (X7.drew.alloc (ptObj ⟨PB, t⟩)).heap.size) := by show _ ≤ _; simp; omega
          have HPUT : Hid (∀ g cap Z, Z.ownsRow (w.heap.size + 5) 74 5 (.slice (some ⟨g, 0, none⟩) (pre.length + 1) cap) (pre.length + 1) (ptShape.vals ((nums pre).map (part es)) ++ ptShape.enc ⟨PB, t⟩) → (X7.drew.alloc (ptObj ⟨PB, t⟩)).grownBy Z v.ownBlock → _) := fun g cap Z h1 h2 => hcs7.put ⟨PB, t⟩ (by rw [List.length_map, nums_len]) h1 h2
          have e2a : (X7.drew.alloc (ptObj ⟨PB, t⟩)).cell? ⟨w.heap.size + 2, 0, none⟩ = some v := (World.cell?_of_block (Below.heap_alloc _ _ _ (by show w.heap.size + 2 < X7.heap.size; omega))).trans e2
          have e2b : (X7.alloc (ptObj ⟨PB, t⟩)).cell? ⟨w.heap.size + 2, 0, none⟩ = some v := e2a
          have HKF : Hid (KeepsFrom (w.heap.size + 5) X X7) := keeps_below HB7.out
          have HSM : Hid (Same2 (w.heap.size + 3) (w.heap.size + 4) X X7) := by have := HCS.out.size; exact ⟨HB7.out.block _ (by omega), HB7.out.block _ (by omega)⟩
          dsimp only [ptObj] at HT8 HO8 HN8 HS8 HPUT e2a e2b
          clear hcs7 hbX7 hb7 ht HE6 HC6 HB6 HBD hs7
          refine region_round (S := fun w' => w'.cell? ⟨b, off + 8 * x.1 * 4 + d * 4, none⟩ = some (.string t.key) ∧ w'.cell? ⟨b, off + 8 * x.1 * 4 + d * 4 + 1, none⟩ = some (.int .i64 t.seq) ∧ w'.cell? ⟨b, off + 8 * x.1 * 4 + d * 4 + 2, none⟩ = some (.bool t.dead) ∧ w'.cell? ⟨b, off + 8 * x.1 * 4 + d * 4 + 3, none⟩ = some (.string t.val)) (by kernel_rfl) (by kernel_rfl) ⟨t0, t1, t2, t3⟩ (fun hHeld => ?_)
          refine wpAnyH_take (i := 1) (v := .string PB) rfl (by kernel_rfl) (by kernel_rfl) (by kernel_rfl) (fun _ _ _ h => h) (Or.inl ⟨by rfl, ?_⟩) hHeld ?_
          · intro w hSw; go_split_ands; go_simp
          simp only [List.getElem_toArray, List.getElem_cons_zero, List.getElem_cons_succ, Act.put, List.setIfInBounds_toArray, List.set_cons_zero, List.set_cons_succ]
          refine wpAnyH_take (i := 2) (v := .slice (some ⟨b, off + 8 * x.1 * 4, none⟩) c c) rfl (by kernel_rfl) (by kernel_rfl) (by kernel_rfl) (fun _ _ _ h => h) (Or.inl ⟨by rfl, ?_⟩) hHeld ?_
          · intro w hSw; go_split_ands; go_simp
          simp only [List.getElem_toArray, List.getElem_cons_zero, List.getElem_cons_succ, Act.put, List.setIfInBounds_toArray, List.set_cons_zero, List.set_cons_succ]
          refine wpAnyH_take (i := 3) (v := .slice (some ⟨b, off + 8 * x.1 * 4, none⟩) c c) rfl (by kernel_rfl) (by kernel_rfl) (by kernel_rfl) (fun _ _ _ h => h) (Or.inl ⟨by rfl, ?_⟩) hHeld ?_
          · intro w hSw; go_split_ands; go_simp
          simp only [List.getElem_toArray, List.getElem_cons_zero, List.getElem_cons_succ, Act.put, List.setIfInBounds_toArray, List.set_cons_zero, List.set_cons_succ]
          refine wpAnyH_take (i := 4) (v := .int .i64 (c : Int)) rfl (by kernel_rfl) (by kernel_rfl) (by kernel_rfl) (fun _ _ _ h => h) (Or.inl ⟨by rfl, ?_⟩) hHeld ?_
          · intro w hSw; go_split_ands; go_simp
          simp only [List.getElem_toArray, List.getElem_cons_zero, List.getElem_cons_succ, Act.put, List.setIfInBounds_toArray, List.set_cons_zero, List.set_cons_succ]
          refine wpAnyH_take (i := 5) (v := .int .i64 (d : Int)) rfl (by kernel_rfl) (by kernel_rfl) (by kernel_rfl) (fun _ _ _ h => h) (Or.inl ⟨by rfl, ?_⟩) hHeld ?_
          · intro w hSw; go_split_ands; go_simp
          simp only [List.getElem_toArray, List.getElem_cons_zero, List.getElem_cons_succ, Act.put, List.setIfInBounds_toArray, List.set_cons_zero, List.set_cons_succ]
          refine wpAnyH_take (i := 6) (v := .pointer (some ⟨b, off + 8 * x.1 * 4 + d * 4, none⟩)) rfl (by kernel_rfl) (by kernel_rfl) (by kernel_rfl) (fun _ _ _ h => h) (Or.inl ⟨by rfl, ?_⟩) hHeld ?_
          · intro w hSw; go_split_ands; go_simp
          simp only [List.getElem_toArray, List.getElem_cons_zero, List.getElem_cons_succ, Act.put, List.setIfInBounds_toArray, List.set_cons_zero, List.set_cons_succ]
          refine wpAnyH_take (i := 7) (v := .agg #[.string t.key, .int .i64 t.seq, .bool t.dead, .string t.val]) rfl (by kernel_rfl) (by kernel_rfl) (by kernel_rfl) (fun _ _ _ h => h) (Or.inl ⟨by rfl, ?_⟩) hHeld ?_
          · intro w hSw; go_split_ands; go_simp
          simp only [List.getElem_toArray, List.getElem_cons_zero, List.getElem_cons_succ, Act.put, List.setIfInBounds_toArray, List.set_cons_zero, List.set_cons_succ]
          refine wpAnyH_take (i := 8) (v := .agg #[.string PB, .string t.key, .int .i64 t.seq, .bool t.dead, .string t.val]) rfl (by kernel_rfl) (by kernel_rfl) (by kernel_rfl) (fun _ _ _ h => h) (Or.inl ⟨by rfl, ?_⟩) hHeld ?_
          · intro w hSw; go_split_ands; go_simp
          simp only [List.getElem_toArray, List.getElem_cons_zero, List.getElem_cons_succ, Act.put, List.setIfInBounds_toArray, List.set_cons_zero, List.set_cons_succ]
          refine wpAnyH_ready (rs := [0, 9]) (by kernel_rfl) (by simp) (AllReadyH.cons rfl (fun K hK => ?_) (AllReadyH.cons rfl (fun K hK => ?_) AllReadyH.nil))
          · go_simp
            refine hK.out _ _ ⟨t0, t1, t2, t3⟩ (fun hHeld => ?_)
            clear hK K
            refine wpAnyH_ready (rs := [9]) (by kernel_rfl) (by simp) (AllReadyH.cons rfl (fun K hK => ?_) AllReadyH.nil)
            go_simp
            refine hK.out _ _ HT8.out (fun hHeld => ?_)
            clear hK K
            refine wpAnyH_ready (rs := [10]) (by kernel_rfl) (by simp) (AllReadyH.cons rfl (fun K hK => ?_) AllReadyH.nil)
            refine step_append_lies _ (by rfl) (.tmp 36) (.tmp 45) 45 (by rfl) (w.heap.size + 5) 74 i0 (.agg #[.string ⟨#[]⟩, .string ⟨#[]⟩, .int .i64 0, .bool false, .string ⟨#[]⟩]) 5 64 Tryz.underlying45 hi hz0 hz1 hz2 rfl (by decide) v pre.length (ptShape.vals ((nums pre).map (part es))) (by rfl) HO8.out ⟨X7.heap.size, 0, none⟩ 1 1 (ptShape.enc ⟨PB, t⟩) (by rfl) rfl HN8.out (ptShape.one _) (by decide) (by unfold maxLen; unfold nch at hfew'; omega) (by unfold nch at hfew'; omega) HS8.out _ rfl ?_
            intro g5 cap5 w8 hown8 hgrow8 hat8 hlt8
            obtain ⟨k1, k2, k3, k4, k5⟩ := HPUT.out g5 cap5 w8 hown8 hgrow8
            have HK : Hid _ := And.intro k3 (And.intro k4 k5)
            have s0 : w8.cell? ⟨w.heap.size + 2, 0, none⟩ = some v := by rw [Joins.cell_of_block k1]; rfl
            have s1 : w8.frozen? ⟨w.heap.size + 2, 0, none⟩ = false := Lib.frozen_of_heap k1 0
            have HTT : Hid _ := HTK.out w8 k2
            clear k1 k2 k3 k4 k5 hown8 hgrow8 hat8 hlt8 hHeld
            refine hK.out _ _ HTT.out (fun hHeld => ?_)
            clear hK K
            simp only [List.getElem_toArray, List.getElem_cons_zero, List.getElem_cons_succ, Act.put, List.setIfInBounds_toArray, List.set_cons_zero, List.set_cons_succ]
            refine wpAnyH_ready (rs := [11]) (by kernel_rfl) (by simp) (AllReadyH.cons rfl (fun K hK => ?_) AllReadyH.nil)
            go_simp
            refine hK.out _ _ (HTS.out w8 HTT.out _) (fun hHeld => ?_)
            clear hK K
            refine wpAnyH_done (by kernel_rfl) (NoOut.normal ?_) _
            gi_wp2
            refine ⟨by rw [hsz]; exact HKF.out.trans HK.out.2.1, same2_t HSM.out HK.out.2.2, ?_⟩
            show Good es (nums (pre ++ [x])) ∧ ∃ v, CS w (some ⟨b, off, none⟩) es.length ca ((nums (pre ++ [x])).map (part es)) v _
            rw [nums_snoc, List.map_append]
            refine ⟨HGN.out, .slice (some ⟨g5, 0, none⟩) (pre.length + 1) cap5, ?_⟩
            have := HK.out.1
            rw [HPT.out] at this
            exact this
          · go_simp
            refine hK.out _ _ HT8.out (fun hHeld => ?_)
            clear hK K
            refine wpAnyH_ready (rs := [0]) (by kernel_rfl) (by simp) (AllReadyH.cons rfl (fun K hK => ?_) AllReadyH.nil)
            go_simp
            refine hK.out _ _ HT8.out (fun hHeld => ?_)
            clear hK K
            refine wpAnyH_ready (rs := [10]) (by kernel_rfl) (by simp) (AllReadyH.cons rfl (fun K hK => ?_) AllReadyH.nil)
            refine step_append_lies _ (by rfl) (.tmp 36) (.tmp 45) 45 (by rfl) (w.heap.size + 5) 74 i0 (.agg #[.string ⟨#[]⟩, .string ⟨#[]⟩, .int .i64 0, .bool false, .string ⟨#[]⟩]) 5 64 Tryz.underlying45 hi hz0 hz1 hz2 rfl (by decide) v pre.length (ptShape.vals ((nums pre).map (part es))) (by rfl) HO8.out ⟨X7.heap.size, 0, none⟩ 1 1 (ptShape.enc ⟨PB, t⟩) (by rfl) rfl HN8.out (ptShape.one _) (by decide) (by unfold maxLen; unfold nch at hfew'; omega) (by unfold nch at hfew'; omega) HS8.out _ rfl ?_
            intro g5 cap5 w8 hown8 hgrow8 hat8 hlt8
            obtain ⟨k1, k2, k3, k4, k5⟩ := HPUT.out g5 cap5 w8 hown8 hgrow8
            have HK : Hid _ := And.intro k3 (And.intro k4 k5)
            have s0 : w8.cell? ⟨w.heap.size + 2, 0, none⟩ = some v := by rw [Joins.cell_of_block k1]; rfl
            have s1 : w8.frozen? ⟨w.heap.size + 2, 0, none⟩ = false := Lib.frozen_of_heap k1 0
            have HTT : Hid _ := HTK.out w8 k2
            clear k1 k2 k3 k4 k5 hown8 hgrow8 hat8 hlt8 hHeld
            refine hK.out _ _ HTT.out (fun hHeld => ?_)
            clear hK K
            simp only [List.getElem_toArray, List.getElem_cons_zero, List.getElem_cons_succ, Act.put, List.setIfInBounds_toArray, List.set_cons_zero, List.set_cons_succ]
            refine wpAnyH_ready (rs := [11]) (by kernel_rfl) (by simp) (AllReadyH.cons rfl (fun K hK => ?_) AllReadyH.nil)
            go_simp
            refine hK.out _ _ (HTS.out w8 HTT.out _) (fun hHeld => ?_)
            clear hK K
            refine wpAnyH_done (by kernel_rfl) (NoOut.normal ?_) _
            gi_wp2
            refine ⟨by rw [hsz]; exact HKF.out.trans HK.out.2.1, same2_t HSM.out HK.out.2.2, ?_⟩
            show Good es (nums (pre ++ [x])) ∧ ∃ v, CS w (some ⟨b, off, none⟩) es.length ca ((nums (pre ++ [x])).map (part es)) v _
            rw [nums_snoc, List.map_append]
            refine ⟨HGN.out, .slice (some ⟨g5, 0, none⟩) (pre.length + 1) cap5, ?_⟩
            have := HK.out.1
            rw [HPT.out] at this
            exact this
        · have HNG : Hid (¬ Good es (nums pre ++ [x.1])) := not_good_chunk hr
          have HR : Hid (encV (chunk es x.1) = .tuple #[.string ⟨#[]⟩, .int .i64 9]) := by show _ = _; unfold encV; rw [hr]; rfl
          rw [HR.out] at HE6
          have HGO : Hid (∀ X7, Below X6.heap.size X6 X7 → (X7.cell? ⟨w.heap.size, 0, none⟩ = some (.slice none 0 0) ∧ X7.cell? ⟨w.heap.size + 1, 0, none⟩ = some (.int .i64 0) ∧ X7.frozen? ⟨w.heap.size, 0, none⟩ = false ∧ X7.frozen? ⟨w.heap.size + 1, 0, none⟩ = false)) := fun X7 hb7 => by
            have h := HC6.out.later hb7
            exact ⟨by rw [Joins.cell_of_block h.b0]; rfl, by rw [Joins.cell_of_block h.b1]; rfl, Lib.frozen_of_heap h.b0 0, Lib.frozen_of_heap h.b1 0⟩
          clear hr HR
          gi_wp2_with ((try refine ⟨trivial, ?_⟩); gi_at_call 36; refine (CallsIn.inRound l (callsIn_wide.2 (show Calls _ _ _ _ _ from HE6.out))).mono ?_; rintro e X7 ⟨rfl, hb7⟩; obtain ⟨g0, g1, f0, f1⟩ := HGO.out X7 hb7)
          have HB7 := HB6.out.trans (hb7.mono HB6.out.size)
          have HC7 := (HCS.out.later HB7).gone
          refine ⟨by rw [hsz]; exact (keeps_below HB7).trans HC7.2, ⟨rfl, ?_⟩, HC7.1⟩
          rw [nums_snoc]
          exact HNG.out
      · have HN2 : Hid _ := HGB.out hls
        have hge : decide (0 ≤ cE (lastE es ((nums pre).getD m 0)) (headE es x.1)) = true := decide_eq_true (by have := HLT.out; rw [hls] at this; have := of_decide_eq_false this; omega)
        clear HGB HGD HLT hls
        generalize cE (lastE es ((nums pre).getD m 0)) (headE es x.1) = q at *
        obtain ⟨z, hz⟩ : ∃ z, z = lastE es ((nums pre).getD m 0) := ⟨_, rfl⟩
        obtain ⟨y, hy⟩ : ∃ y, y = headE es x.1 := ⟨_, rfl⟩
        rw [← hz] at z0 z1 z2 z3 HQ HCM
        rw [← hy] at y0 y1 y2 y3 HQ HCM
        clear hz hy
        gi_wp2_with fail
        refine region_round (S := fun w' => w'.cell? ⟨w.heap.size + 2, 0, none⟩ = some (.slice (some ⟨g, pf, none⟩) n pc) ∧ w'.cell? ⟨g, pf + m * 5 + 1, none⟩ = some (.string z.key) ∧ w'.cell? ⟨g, pf + m * 5 + 1 + 1, none⟩ = some (.int .i64 z.seq) ∧ w'.cell? ⟨g, pf + m * 5 + 1 + 2, none⟩ = some (.bool z.dead) ∧ w'.cell? ⟨g, pf + m * 5 + 1 + 3, none⟩ = some (.string z.val) ∧ w'.cell? ⟨b, off + 8 * x.1 * 4, none⟩ = some (.string y.key) ∧ w'.cell? ⟨b, off + 8 * x.1 * 4 + 1, none⟩ = some (.int .i64 y.seq) ∧ w'.cell? ⟨b, off + 8 * x.1 * 4 + 2, none⟩ = some (.bool y.dead) ∧ w'.cell? ⟨b, off + 8 * x.1 * 4 + 3, none⟩ = some (.string y.val)) (by kernel_rfl) (by kernel_rfl) ⟨c2, z0, z1, z2, z3, y0, y1, y2, y3⟩ (fun hHeld => ?_)
        refine wpAnyH_take (i := 0) (v := .slice (some ⟨g, pf, none⟩) n pc) rfl (by kernel_rfl) (by kernel_rfl) (by kernel_rfl) (fun _ _ _ h => h) (Or.inl ⟨by rfl, ?_⟩) hHeld ?_
        · intro w hSw; go_split_ands; go_simp
        simp only [List.getElem_toArray, List.getElem_cons_zero, List.getElem_cons_succ, Act.put, List.setIfInBounds_toArray, List.set_cons_zero, List.set_cons_succ]
        refine wpAnyH_take (i := 1) (v := .int .i64 (n : Int)) rfl (by kernel_rfl) (by kernel_rfl) (by kernel_rfl) (fun _ _ _ h => h) (Or.inl ⟨by rfl, ?_⟩) hHeld ?_
        · intro w hSw; go_split_ands; go_simp
        simp only [List.getElem_toArray, List.getElem_cons_zero, List.getElem_cons_succ, Act.put, List.setIfInBounds_toArray, List.set_cons_zero, List.set_cons_succ]
        refine wpAnyH_take (i := 2) (v := .bool true) rfl (by kernel_rfl) (by kernel_rfl) (by kernel_rfl) (fun _ _ _ h => h) (Or.inl ⟨by rfl, ?_⟩) hHeld ?_
        · intro w hSw; go_split_ands; go_simp
        simp only [List.getElem_toArray, List.getElem_cons_zero, List.getElem_cons_succ, Act.put, List.setIfInBounds_toArray, List.set_cons_zero, List.set_cons_succ]
        refine wpAnyH_take (i := 3) (v := .bool true) rfl (by kernel_rfl) (by kernel_rfl) (by kernel_rfl) (fun _ _ _ h => h) (Or.inl ⟨by rfl, ?_⟩) hHeld ?_
        · intro w hSw; go_split_ands; go_simp
        simp only [List.getElem_toArray, List.getElem_cons_zero, List.getElem_cons_succ, Act.put, List.setIfInBounds_toArray, List.set_cons_zero, List.set_cons_succ]
        refine wpAnyH_take (i := 4) (v := .slice (some ⟨g, pf, none⟩) n pc) rfl (by kernel_rfl) (by kernel_rfl) (by kernel_rfl) (fun _ _ _ h => h) (Or.inl ⟨by rfl, ?_⟩) hHeld ?_
        · intro w hSw; go_split_ands; go_simp
        simp only [List.getElem_toArray, List.getElem_cons_zero, List.getElem_cons_succ, Act.put, List.setIfInBounds_toArray, List.set_cons_zero, List.set_cons_succ]
        refine wpAnyH_take (i := 5) (v := .slice (some ⟨g, pf, none⟩) n pc) rfl (by kernel_rfl) (by kernel_rfl) (by kernel_rfl) (fun _ _ _ h => h) (Or.inl ⟨by rfl, ?_⟩) hHeld ?_
        · intro w hSw; go_split_ands; go_simp
        simp only [List.getElem_toArray, List.getElem_cons_zero, List.getElem_cons_succ, Act.put, List.setIfInBounds_toArray, List.set_cons_zero, List.set_cons_succ]
        refine wpAnyH_take (i := 6) (v := .int .i64 (n : Int)) rfl (by kernel_rfl) (by kernel_rfl) (by kernel_rfl) (fun _ _ _ h => h) (Or.inl ⟨by rfl, ?_⟩) hHeld ?_
        · intro w hSw; go_split_ands; go_simp
        simp only [List.getElem_toArray, List.getElem_cons_zero, List.getElem_cons_succ, Act.put, List.setIfInBounds_toArray, List.set_cons_zero, List.set_cons_succ]
        refine wpAnyH_take (i := 7) (v := .int .i64 (m : Int)) rfl (by kernel_rfl) (by kernel_rfl) (by kernel_rfl) (fun _ _ _ h => h) (Or.inl ⟨by rfl, ?_⟩) hHeld ?_
        · intro w hSw; go_split_ands; go_simp
        simp only [List.getElem_toArray, List.getElem_cons_zero, List.getElem_cons_succ, Act.put, List.setIfInBounds_toArray, List.set_cons_zero, List.set_cons_succ]
        refine wpAnyH_take (i := 8) (v := .pointer (some ⟨g, pf + m * 5, none⟩)) rfl (by kernel_rfl) (by kernel_rfl) (by kernel_rfl) (fun _ _ _ h => h) (Or.inl ⟨by rfl, ?_⟩) hHeld ?_
        · intro w hSw; go_split_ands; go_simp
        simp only [List.getElem_toArray, List.getElem_cons_zero, List.getElem_cons_succ, Act.put, List.setIfInBounds_toArray, List.set_cons_zero, List.set_cons_succ]
        refine wpAnyH_take (i := 9) (v := .pointer (some ⟨g, pf + m * 5 + 1, none⟩)) rfl (by kernel_rfl) (by kernel_rfl) (by kernel_rfl) (fun _ _ _ h => h) (Or.inl ⟨by rfl, ?_⟩) hHeld ?_
        · intro w hSw; go_split_ands; go_simp
        simp only [List.getElem_toArray, List.getElem_cons_zero, List.getElem_cons_succ, Act.put, List.setIfInBounds_toArray, List.set_cons_zero, List.set_cons_succ]
        refine wpAnyH_take (i := 10) (v := .agg #[.string z.key, .int .i64 z.seq, .bool z.dead, .string z.val]) rfl (by kernel_rfl) (by kernel_rfl) (by kernel_rfl) (fun _ _ _ h => h) (Or.inl ⟨by rfl, ?_⟩) hHeld ?_
        · intro w hSw; go_split_ands; go_simp
        simp only [List.getElem_toArray, List.getElem_cons_zero, List.getElem_cons_succ, Act.put, List.setIfInBounds_toArray, List.set_cons_zero, List.set_cons_succ]
        refine wpAnyH_take (i := 11) (v := .slice (some ⟨b, off + 8 * x.1 * 4, none⟩) c c) rfl (by kernel_rfl) (by kernel_rfl) (by kernel_rfl) (fun _ _ _ h => h) (Or.inl ⟨by rfl, ?_⟩) hHeld ?_
        · intro w hSw; go_split_ands; go_simp
        simp only [List.getElem_toArray, List.getElem_cons_zero, List.getElem_cons_succ, Act.put, List.setIfInBounds_toArray, List.set_cons_zero, List.set_cons_succ]
        refine wpAnyH_take (i := 12) (v := .pointer (some ⟨b, off + 8 * x.1 * 4, none⟩)) rfl (by kernel_rfl) (by kernel_rfl) (by kernel_rfl) (fun _ _ _ h => h) (Or.inl ⟨by rfl, ?_⟩) hHeld ?_
        · intro w hSw; go_split_ands; go_simp
        simp only [List.getElem_toArray, List.getElem_cons_zero, List.getElem_cons_succ, Act.put, List.setIfInBounds_toArray, List.set_cons_zero, List.set_cons_succ]
        refine wpAnyH_take (i := 13) (v := .agg #[.string y.key, .int .i64 y.seq, .bool y.dead, .string y.val]) rfl (by kernel_rfl) (by kernel_rfl) (by kernel_rfl) (fun _ _ _ h => h) (Or.inl ⟨by rfl, ?_⟩) hHeld ?_
        · intro w hSw; go_split_ands; go_simp
        simp only [List.getElem_toArray, List.getElem_cons_zero, List.getElem_cons_succ, Act.put, List.setIfInBounds_toArray, List.set_cons_zero, List.set_cons_succ]
        refine wpAnyH_ready (rs := [14]) (by kernel_rfl) (by simp) (AllReadyH.cons rfl (fun K hK => ?_) AllReadyH.nil)
        go_simp
        refine (show Calls _ _ _ _ _ from HCM.out _).mono ?_
        rintro e w6 ⟨rfl, hb6⟩
        have hq6 := HQ.out w6 hb6
        refine hK.out _ _ hq6.2 (fun hHeld => ?_)
        clear hK K
        refine wpAnyH_take (i := 15) (v := .bool true) rfl (by kernel_rfl) (by kernel_rfl) (by kernel_rfl) (fun _ _ _ h => h) (Or.inl ⟨by rfl, ?_⟩) hHeld ?_
        · intro w hSw; go_split_ands; go_simp
        simp only [List.getElem_toArray, List.getElem_cons_zero, List.getElem_cons_succ, Act.put, List.setIfInBounds_toArray, List.set_cons_zero, List.set_cons_succ]
        refine wpAnyH_take (i := 16) (v := .bool true) rfl (by kernel_rfl) (by kernel_rfl) (by kernel_rfl) (fun _ _ _ h => h) (Or.inl ⟨by rfl, ?_⟩) hHeld ?_
        · intro w hSw; go_split_ands; go_simp
        simp only [List.getElem_toArray, List.getElem_cons_zero, List.getElem_cons_succ, Act.put, List.setIfInBounds_toArray, List.set_cons_zero, List.set_cons_succ]
        refine wpAnyH_done (by kernel_rfl) (NoOut.normal ?_) _
        have HC6 : Hid _ := HCS.out.later hq6.1
        have g0 : w6.cell? ⟨w.heap.size, 0, none⟩ = some (.slice none 0 0) := by rw [Joins.cell_of_block HC6.out.b0]; rfl
        have g1 : w6.cell? ⟨w.heap.size + 1, 0, none⟩ = some (.int .i64 0) := by rw [Joins.cell_of_block HC6.out.b1]; rfl
        have f0 : w6.frozen? ⟨w.heap.size, 0, none⟩ = false := Lib.frozen_of_heap HC6.out.b0 0
        have f1 : w6.frozen? ⟨w.heap.size + 1, 0, none⟩ = false := Lib.frozen_of_heap HC6.out.b1 0
        have HW6 : Hid (Below X.heap.size X w6) := hq6.1
        clear hHeld hq6 hb6 HQ HCM c2 z0 z1 z2 z3 y0 y1 y2 y3 hge
        gi_wp2
        have HGN := HC6.out.gone
        refine ⟨by rw [hsz]; exact (keeps_below HW6.out).trans HGN.2, ⟨rfl, ?_⟩, HGN.1⟩
        rw [nums_snoc]
        exact HN2.out
  case done =>
    rintro D ys X hD hS ⟨hgd, v, hcs⟩ hK
    rw [hS] at hgd hcs
    have HR : Hid (right es = true) := good_right hgd
    have HCS : Hid _ := hcs
    have c2 : X.cell? ⟨w.heap.size + 2, 0, none⟩ = some v := by rw [Joins.cell_of_block hcs.b2]; rfl
    have c0 : X.cell? ⟨w.heap.size, 0, none⟩ = some (.slice none 0 0) := by rw [Joins.cell_of_block hcs.b0]; rfl
    have c1 : X.cell? ⟨w.heap.size + 1, 0, none⟩ = some (.int .i64 0) := by rw [Joins.cell_of_block hcs.b1]; rfl
    have f0 : X.frozen? ⟨w.heap.size, 0, none⟩ = false := Lib.frozen_of_heap hcs.b0 0
    have f1 : X.frozen? ⟨w.heap.size + 1, 0, none⟩ = false := Lib.frozen_of_heap hcs.b1 0
    clear hgd hcs
    obtain ⟨po, pc, hv, _⟩ := HCS.out.elems
    have HV : Hid _ := hv
    subst hv
    gi_wp2
    obtain ⟨hK', q0, q1, q2, q3⟩ := HCS.out.finish hK (by omega) _ rfl
    rw [List.length_map, List.length_range] at hK' q0 q1 q2 q3
    refine ⟨by simp, .inl ⟨_, _, rfl, run_takeDeferred hK', ?_⟩⟩
    refine ⟨.tuple #[.slice po (nch es) pc, .int .i64 0], ?_, .inl ⟨HR.out, _, rfl, ?_⟩, q3⟩
    · simp [results, Tryz.f14, go_sem, q0, q1]
    · have hl : (parts es).length = nch es := by simp [parts]
      rw [hl]; exact q2
  case stop =>
    rintro D c pre X hD ⟨k, hk, hS⟩ ⟨⟨rfl, hng⟩, hgo⟩ hK
    rw [hS] at hng
    have HR : Hid (right es = false) := by
      rcases Bool.eq_false_or_eq_true (right es) with h | h
      · exact absurd (right_good h hk) hng
      · exact h
    gi_wp2
    obtain ⟨q0, q1, q3⟩ := hgo.finish hK (by omega)
    refine ⟨by simp, .inl ⟨_, _, rfl, run_takeDeferred hK, ?_⟩⟩
    refine ⟨.tuple #[.slice none 0 0, .int .i64 9], ?_, .inr ⟨HR.out, rfl⟩, q3⟩
    simp [results, Tryz.f14, go_sem, q0, q1]
end Go.Proofs.YtedjohkdfchocaaGreat.Tb
