/-
  Layer 11: the example that each statement looks at first.
-/
import Derived.Test.YtjfanbemihheiaaDoorQManApplyWalk
import Derived.Test.YtjfanbemihheiaaDoorQManSame
import Derived.Test.YtjfanbemihheiaaDoorQManName
namespace Go.Proofs.YtjfanbemihheiaaDoor.Ma
open Go.RowKit Cm
set_option linter.unusedVariables false

def ed1 : Ed := ⟨[(0, 1)], [], 2, 3, 4⟩
def ed2 : Ed := ⟨[(1, 3)], [1], 2, 4, 4⟩
theorem app_lives : ∃ u, app Ve.zero [ed1, ed2] = some u ∧ u.sort.files = [(1, 3)] := by
  have h1 : okE Ve.zero ed1 = true := by decide +kernel
  have h2 : okE (nxt Ve.zero ed1) ed2 = true := by decide +kernel
  refine ⟨nxt (nxt Ve.zero ed1) ed2, by rw [app_cons, one_is h1]; show app _ _ = _; rw [app_cons, one_is h2]; rfl, ?_⟩
  have h3 : (nxt (nxt Ve.zero ed1) ed2).files = [(1, 3)] := by decide +kernel
  show srt _ = _
  rw [h3]
  exact (srt_unique (l := [(1, 3)]) (by simp) (.refl _)).symm
/-- Elements in a block that is known whole. -/
theorem elems_block {α : Type} {F : Shape α} {w : World} {g : Nat} {xs : List α} {cs : Array Value} {t : TypeId} {fr : Nat × Nat} (h : w.heap[g]? = some (.cells cs t fr)) (hc : cs.toList = F.vals xs) : ElemsAt F w (some ⟨g, 0, none⟩) xs := by
  refine .inr ⟨g, 0, rfl, lt_of_block h, fun i hi j u hu => ?_⟩
  have hj : j < F.sz := by rw [← F.len xs[i]]; exact (List.getElem?_eq_some_iff.1 hu).1
  rw [cell_of_row w g (0 + i * F.sz + j) cs t fr h, Nat.zero_add, ← Array.getElem?_toList, hc, F.vals_get xs i hi j hj]
  exact hu
theorem cells_block {w : World} {g : Nat} {cs : Array Value} {t : TypeId} {fr : Nat × Nat} (h : w.heap[g]? = some (.cells cs t fr)) : CellsAt w (some ⟨g, 0, none⟩) cs.toList :=
  .inr ⟨g, 0, rfl, lt_of_block h, fun j hj => by rw [cell_of_row w g (0 + j) cs t fr h, Nat.zero_add]; simp⟩
theorem small_ok {i : Int} (h : 0 ≤ i ∧ i ≤ 4) : OkI i := by unfold OkI; omega
theorem ed1_ok : ed1.Ok' := ⟨fun f hf => by simp [ed1] at hf; subst hf; exact ⟨small_ok (by omega), small_ok (by omega)⟩, fun n hn => by simp [ed1] at hn, small_ok (by decide), small_ok (by decide), small_ok (by decide)⟩
theorem ed2_ok : ed2.Ok' := ⟨fun f hf => by simp [ed2] at hf; subst hf; exact ⟨small_ok (by omega), small_ok (by omega)⟩, fun n hn => by simp [ed2] at hn; subst hn; exact small_ok (by omega), small_ok (by decide), small_ok (by decide), small_ok (by decide)⟩
set_option maxRecDepth 100000 in
set_option maxHeartbeats 2000000 in
theorem lives_any (w : World) : Calls Tryd.prog 5 #[] w fun e w' => e = .returned (.bool true) ∧ Below w.heap.size w w' := by
  obtain ⟨w1, hw1⟩ : ∃ w1, w1 = w.alloc (.cells #[.int .i64 0, .int .i64 1] 28) := ⟨_, rfl⟩
  obtain ⟨w2, hw2⟩ : ∃ w2, w2 = w1.alloc (.cells #[.int .i64 1, .int .i64 3] 28) := ⟨_, rfl⟩
  obtain ⟨w3, hw3⟩ : ∃ w3, w3 = w2.alloc (.cells #[.int .i64 1] 3) := ⟨_, rfl⟩
  obtain ⟨xs, hxs⟩ : ∃ xs : List Ei, xs = [⟨some ⟨w.heap.size, 0, none⟩, 1, none, 0, ed1⟩, ⟨some ⟨w.heap.size + 1, 0, none⟩, 1, some ⟨w.heap.size + 1 + 1, 0, none⟩, 1, ed2⟩] := ⟨_, rfl⟩
  obtain ⟨w4, hw4⟩ : ∃ w4, w4 = w3.alloc (.cells #[.slice (some ⟨w.heap.size, 0, none⟩) 1 1, .slice none 0 0, .int .i64 2, .int .i64 3, .int .i64 4, .slice (some ⟨w.heap.size + 1, 0, none⟩) 1 1, .slice (some ⟨w.heap.size + 1 + 1, 0, none⟩) 1 1, .int .i64 2, .int .i64 4, .int .i64 4] 36) := ⟨_, rfl⟩
  have s1 : w1.heap.size = w.heap.size + 1 := by rw [hw1]; simp
  have s2 : w2.heap.size = w.heap.size + 2 := by rw [hw2]; simp; omega
  have s3 : w3.heap.size = w.heap.size + 3 := by rw [hw3]; simp; omega
  have b1 : Below w.heap.size w w1 := by rw [hw1]; exact (Below.refl _ _).alloc (Nat.le_refl _) _
  have b12 : Below w1.heap.size w1 w2 := by rw [hw2]; exact (Below.refl _ _).alloc (Nat.le_refl _) _
  have b23 : Below w2.heap.size w2 w3 := by rw [hw3]; exact (Below.refl _ _).alloc (Nat.le_refl _) _
  have b34 : Below w3.heap.size w3 w4 := by rw [hw4]; exact (Below.refl _ _).alloc (Nat.le_refl _) _
  have b24 := b23.trans (b34.mono b23.size)
  have b14 := b12.trans (b24.mono b12.size)
  have hb4 := b1.trans (b14.mono b1.size)
  have h1 : w4.heap[w.heap.size]? = some (.cells #[.int .i64 0, .int .i64 1] 28 (0, 0)) := (b14.block _ (by omega)).trans (by rw [hw1]; exact heap_alloc_new w _)
  have h2 : w4.heap[w.heap.size + 1]? = some (.cells #[.int .i64 1, .int .i64 3] 28 (0, 0)) := (b24.block _ (by omega)).trans (by rw [hw2, ← s1]; exact heap_alloc_new w1 _)
  have h3 : w4.heap[w.heap.size + 1 + 1]? = some (.cells #[.int .i64 1] 3 (0, 0)) := (b34.block _ (by omega)).trans (by rw [hw3, ← s1, show w1.heap.size + 1 = w2.heap.size by omega]; exact heap_alloc_new w2 _)
  have h4 : w4.heap[w.heap.size + 1 + 1 + 1]? = some (.cells #[.slice (some ⟨w.heap.size, 0, none⟩) 1 1, .slice none 0 0, .int .i64 2, .int .i64 3, .int .i64 4, .slice (some ⟨w.heap.size + 1, 0, none⟩) 1 1, .slice (some ⟨w.heap.size + 1 + 1, 0, none⟩) 1 1, .int .i64 2, .int .i64 4, .int .i64 4] 36 (0, 0)) := by rw [hw4, show w.heap.size + 1 + 1 + 1 = w3.heap.size by omega]; exact heap_alloc_new w3 _
  have hx : ElemsAt eiShape w4 (some ⟨w.heap.size + 1 + 1 + 1, 0, none⟩) xs := elems_block h4 (by rw [hxs]; rfl)
  have hei : ∀ x ∈ xs, EiAt w4 x := by
    intro x hm
    rw [hxs] at hm
    rcases List.mem_cons.1 hm with rfl | hm
    · exact ⟨elems_block h1 rfl, .inl rfl, fun e => (by cases e), fun _ => rfl, ed1_ok, by show 1 + 0 ≤ 100000000000; omega⟩
    · obtain rfl := List.mem_singleton.1 hm
      exact ⟨elems_block h2 rfl, cells_block h3, fun e => (by cases e), fun e => (by cases e), ed2_ok, by show 1 + 1 ≤ 100000000000; omega⟩
  have hes : xs.map (·.e) = [ed1, ed2] := by rw [hxs]; rfl
  have hap := apply_any none 0 Ve.zero (some ⟨w.heap.size + 1 + 1 + 1, 0, none⟩) 2 xs w4 (.inl rfl) (fun f hf => by cases hf) hx hei (by rw [hes]; decide) (by rw [hxs]; show 2 ≤ 100000000000; omega)
  rw [hes, show xs.length = 2 by rw [hxs]; rfl] at hap
  have HA : Hid _ := hap
  have hw4' : (((w.alloc (.cells #[.int .i64 0, .int .i64 1] 28)).alloc (.cells #[.int .i64 1, .int .i64 3] 28)).alloc (.cells #[.int .i64 1] 3)).alloc (.cells #[.slice (some ⟨w.heap.size, 0, none⟩) 1 1, .slice none 0 0, .int .i64 2, .int .i64 3, .int .i64 4, .slice (some ⟨w.heap.size + 1, 0, none⟩) 1 1, .slice (some ⟨w.heap.size + 1 + 1, 0, none⟩) 1 1, .int .i64 2, .int .i64 4, .int .i64 4] 36) = w4 := by rw [hw4, hw3, hw2, hw1]
  have HB4 : Hid (Below w.heap.size w w4) := hb4
  clear s1 s2 s3 b1 b12 b23 b34 b24 b14 hb4 h1 h2 h3 h4 hx hei hes hap hw1 hw2 hw3 hw4 hxs
  unfold veV Ve.zero at HA
  go_enter Tryd.func5, Tryd.ntmps5
  go_wp2_with fail
  refine (show Calls _ _ _ _ _ from HA.out).mono ?_
  rintro e w5 (⟨u, f, hu, rfl, hf, hb5⟩ | ⟨hn, _⟩)
  · obtain ⟨u', hu', hfl⟩ := app_lives
    have hue : u = u' := Option.some.inj (hu.symm.trans hu')
    subst hue
    unfold VerAt at hf
    rw [hfl] at hf
    obtain ⟨ao, cap, rfl, _, _, _, hel⟩ := own_rows (F := fiShape) hf
    have HE : Hid (ElemsAt fiShape w5 ao [(1, 3)]) := hel
    have HB5 : Hid (Below w.heap.size w w5) := HB4.out.trans (hb5.mono HB4.out.size)
    unfold veV
    clear hu hu' hfl hf hel hb5 hw4' HA
    have HSF : Hid (∀ a b c : Int, Calls Tryd.prog 10 #[.slice ao 1 cap, .slice (some ⟨w5.heap.size + 1, 0, none⟩) 1 1] ((w5.alloc (.cells #[.slice ao 1 cap, .int .i64 a, .int .i64 b, .int .i64 c] 24)).alloc (.cells #[.int .i64 1, .int .i64 3] 28)) fun e w' => e = .returned (.bool true) ∧ Below w.heap.size w w') := fun a b c => by
      have hb1 : Below w5.heap.size w5 (w5.alloc (.cells #[.slice ao 1 cap, .int .i64 a, .int .i64 b, .int .i64 c] 24)) := (Below.refl _ _).alloc (Nat.le_refl _) _
      have hb2 := hb1.alloc (by simp) (.cells #[.int .i64 1, .int .i64 3] 28)
      have hn := heap_alloc_new (w5.alloc (.cells #[.slice ao 1 cap, .int .i64 a, .int .i64 b, .int .i64 c] 24)) (.cells #[.int .i64 1, .int .i64 3] 28)
      rw [World.size_alloc] at hn
      refine (sameFiles_any ao (some ⟨w5.heap.size + 1, 0, none⟩) cap 1 [(1, 3)] _ (HE.out.later hb2) (elems_block hn rfl) (by decide)).mono ?_
      rintro e w' ⟨rfl, n, rfl⟩
      have := HB5.out.trans (hb2.mono HB5.out.size)
      exact ⟨rfl, ⟨this.os, this.tape, this.output, this.size, this.block⟩⟩
    go_wp2_with fail
    refine (show Calls _ _ _ _ _ from HSF.out _ _ _).mono ?_
    rintro e w6 ⟨rfl, hb6⟩
    have HB6 : Hid (Below w.heap.size w w6) := hb6
    clear HSF hb6
    go_wp2_with (go_at_call 11; refine (table_12 _).mono ?_; rintro e w7 ⟨rfl, rfl⟩)
    go_ret
    exact ⟨rfl, HB6.out⟩
  · obtain ⟨u', hu', _⟩ := app_lives
    change app Ve.zero _ = none at hn
    rw [hu'] at hn; cases hn
end Go.Proofs.YtjfanbemihheiaaDoor.Ma
