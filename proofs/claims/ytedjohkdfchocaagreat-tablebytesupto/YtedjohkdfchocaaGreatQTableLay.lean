/-
  The texts TableLay.
-/
import Derived.Test.YtedjohkdfchocaaGreatQTableBuilder
import Derived.Test.YtedjohkdfchocaaGreatQTableCutPut
import Derived.Test.YtedjohkdfchocaaGreatQBlockPut
import Derived.Test.YtedjohkdfchocaaGreatPart3

/-
  Package table: 'lay' seals the blocks one behind the other and writes the index; what it holds in memory.
-/
namespace Go.Proofs.YtedjohkdfchocaaGreat.Tb
open Go.RowKit Cm Mm Bk
open Pk (WrAt Step enc enc_len text)
open Fr (framesB str)
set_option linter.unusedVariables false

/-! ### How long they are -/
theorem take_chunk (es : List En) (k : Nat) : es.take (8 * (k + 1)) = es.take (8 * k) ++ chunk es k := by
  rw [Nat.mul_succ, List.take_add]; rfl
theorem mem_bytes {es : List En} {e : En} (h : e ∈ es) : e.key.size + e.val.size ≤ bytesE es := by
  induction es with
  | nil => cases h
  | cons x es ih =>
    rw [bytesE_cons]
    rcases List.mem_cons.1 h with rfl | h
    · unfold sizeE; omega
    · have := ih h; omega
theorem lastK_bytes {es : List En} {k : Nat} (h : k < nch es) : (lastK es k).size ≤ bytesE (chunk es k) := by
  have h1 := chunk_pos h
  have h2 := chunk_len es k
  have hl : (chunk es k).length - 1 < (chunk es k).length := by omega
  unfold lastK
  rw [getD_lt _ _ _ hl]
  have := mem_bytes (List.getElem_mem hl)
  omega
theorem index_len (es : List En) (k : Nat) (hk : k ≤ nch es) : (index es k).length ≤ 10 + 20 * k + bytesE (es.take (8 * k)) := by
  induction k with
  | zero => rw [index_zero]; have := (enc_len (nch es)).2; omega
  | succ k ih =>
    have h1 := ih (by omega)
    have h2 := lastK_bytes (k := k) (es := es) (by omega)
    have h3 := (text_len (bs (lastK es k))).1
    rw [bs_len] at h3
    have h4 := (enc_len (place es k)).2
    rw [index_succ, List.length_append, List.length_append, take_chunk, bytesE_append]
    omega
theorem place_len (es : List En) (k : Nat) (hk : k ≤ nch es) : place es k ≤ bytesE (es.take (8 * k)) + 346 * k := by
  induction k with
  | zero => exact Nat.zero_le _
  | succ k ih =>
    have h1 := ih (by omega)
    have h2 := block_len (chunk es k)
    have h3 := chunk_len es k
    have h4 : place es (k + 1) = place es k + (8 + (block (chunk es k)).length) := by
      unfold place
      rw [range_blk, framesB_snoc1, List.length_append, Fr.framesB_len [blk es k]]
      simp [total, blk, Fr.str_size]
    rw [h4, take_chunk, bytesE_append]
    omega
/-! ### In memory -/
section
variable {w w' : World} {base b c : Nat} {r s s' : Option Nat} {bs : List UInt8}
theorem BuAt.step (h : BuAt w base b r bs) (k : Step c w s w' s') (hbc : b ≠ c) (hbs : some b ≠ s) (hrc : r ≠ some c) (hrs : r = none ∨ r ≠ s) : BuAt w' base b r bs :=
  h.keep (k.kept.block b h.lt hbc hbs) (fun j hj => k.kept.block j (h.row j hj).2.1 (fun e => hrc (by rw [hj, e])) (fun e => by
    rcases hrs with h0 | h0
    · rw [h0] at hj; cases hj
    · exact h0 (by rw [hj, e])))
end
/-- The builder, in the first block, holds the bytes f; the writer, in the next one, the bytes i. -/
structure LS (w : World) (f i : List UInt8) (r1 r2 : Option Nat) (X : World) : Prop where
  bel : Below w.heap.size w X
  bu : BuAt X w.heap.size w.heap.size r1 f
  wr : WrAt X w.heap.size (w.heap.size + 1) r2 i
  far : r1 = none ∨ r1 ≠ r2
section
variable {w X Y : World} {f f' i i' : List UInt8} {r1 r1' r2 r2' : Option Nat}
theorem LS.later (h : LS w f i r1 r2 X) (hb : Below X.heap.size X Y) : LS w f i r1 r2 Y :=
  ⟨h.bel.trans (hb.mono h.bel.size), h.bu.keep (hb.block _ h.bu.lt) (fun k hk => hb.block _ (h.bu.row k hk).2.1), h.wr.keep (hb.block _ h.wr.lt) (fun k hk => hb.block _ (h.wr.row_ge k hk).2.1), h.far⟩
theorem bu_far {base b : Nat} (h : BuAt X base b r1 f) {k : Nat} (hk : ∀ cs, X.heap[k]? ≠ some (.cells cs 5 (0, 0))) : r1 ≠ some k := fun e => by
  obtain ⟨p, v, _, _, hown, hv⟩ := h
  rcases hown.2 with ⟨rfl, _⟩ | ⟨g, cap, cur, rfl, _, hcg, _⟩
  · rw [← hv] at e; cases e
  · rw [← hv] at e
    cases e
    exact hk _ hcg
theorem wr_far {base b : Nat} (h : WrAt X base b r2 i) {k : Nat} (hk : ∀ cs, X.heap[k]? ≠ some (.cells cs 5 (0, 0))) : r2 ≠ some k := fun e => by
  obtain ⟨v, _, hown, hv⟩ := h
  rcases hown.2 with ⟨rfl, _⟩ | ⟨g, cap, cur, rfl, _, hcg, _⟩
  · rw [← hv] at e; cases e
  · rw [← hv] at e
    cases e
    exact hk _ hcg
theorem LS.notrow (h : LS w f i r1 r2 X) : (∀ cs, X.heap[w.heap.size]? ≠ some (.cells cs 5 (0, 0))) ∧ ∀ cs, X.heap[w.heap.size + 1]? ≠ some (.cells cs 5 (0, 0)) := by
  obtain ⟨p, v, _, hb, _⟩ := h.bu
  obtain ⟨u, hu, _⟩ := h.wr
  refine ⟨fun cs e => ?_, fun cs e => ?_⟩
  · rw [hb] at e; simp [buObj] at e
  · rw [hu] at e; simp at e
theorem LS.wput (h : LS w f i r1 r2 X) (hs : Step (w.heap.size + 1) X r2 Y r2') (hw : WrAt Y w.heap.size (w.heap.size + 1) r2' i') : LS w f i' r1 r2' Y := by
  have hn := h.notrow
  refine ⟨h.bel.trans (hs.below h.bel.size (by omega) (fun k hk => (h.wr.row_ge k hk).1)), h.bu.step hs (by omega) (fun e => wr_far h.wr hn.1 e.symm) (bu_far h.bu hn.2) h.far, hw, ?_⟩
  rcases hs.row with e | ⟨g, e, hg⟩
  · rw [e]; exact h.far
  · rcases h.far with h0 | _
    · exact .inl h0
    · refine .inr (fun e2 => ?_)
      have := (h.bu.row g (e2.trans e)).2.1
      omega
theorem LS.bput (h : LS w f i r1 r2 X) (hs : Step w.heap.size X r1 Y r1') (hb : BuAt Y w.heap.size w.heap.size r1' f') : LS w f' i r1' r2 Y := by
  have hn := h.notrow
  refine ⟨h.bel.trans (hs.below h.bel.size (Nat.le_refl _) (fun k hk => (h.bu.row k hk).1)), hb, h.wr.step hs (by omega) (fun e => bu_far h.bu hn.2 e.symm) (wr_far h.wr hn.1) ?_, ?_⟩
  · rcases h.far with h0 | h0
    · rcases hr : r2 with _ | k
      · exact .inl rfl
      · exact .inr (by rw [h0]; simp)
    · exact .inr (fun e => h0 e.symm)
  · rcases hs.row with e | ⟨g, e, hg⟩
    · rw [e]; exact h.far
    · refine .inr (fun e2 => ?_)
      have := (h.wr.row_ge g (e2.symm.trans e)).2.1
      omega
theorem LS.drop (h : LS w f i r1 r2 X) (hr : Rest r1 X Y) : WrAt Y w.heap.size (w.heap.size + 1) r2 i ∧ Below w.heap.size w Y := by
  obtain ⟨h1, h2, h3, h4, h5⟩ := hr
  have hn := h.notrow
  refine ⟨h.wr.keep (h5 _ h.wr.lt (fun e => bu_far h.bu hn.2 e.symm)) (fun k hk => h5 k (h.wr.row_ge k hk).2.1 (fun e => ?_)), h.bel.trans ⟨h1, h2, h3, h4, fun k hk => h5 k (Nat.lt_of_lt_of_le hk h.bel.size) (fun e => ?_)⟩⟩
  · rcases h.far with h0 | h0
    · rw [h0] at e; cases e
    · exact h0 (by rw [hk, e])
  · have := (h.bu.row k e.symm).1
    omega
end
theorem ls_new (w : World) : LS w [] [] none none ((w.alloc (buObj (.pointer none) (.slice none 0 0))).alloc (.cells #[.slice none 0 0] 125)) := by
  obtain ⟨X, hX⟩ : ∃ X, X = w.alloc (buObj (.pointer none) (.slice none 0 0)) := ⟨_, rfl⟩
  have hs : X.heap.size = w.heap.size + 1 := by rw [hX]; simp
  rw [← hX]
  have hw := Pk.new_wr X w.heap.size
  rw [hs] at hw
  refine ⟨?_, ⟨.pointer none, .slice none 0 0, .inl rfl, ?_, World.ownsRow_nil _ _ _ _, rfl⟩, hw, .inl rfl⟩
  · rw [hX]; exact ((Below.refl _ _).alloc (Nat.le_refl _) _).alloc (by simp) _
  · exact (Below.heap_alloc _ _ _ (by omega)).trans (by rw [hX]; exact heap_alloc_new w _)
end Go.Proofs.YtedjohkdfchocaaGreat.Tb
