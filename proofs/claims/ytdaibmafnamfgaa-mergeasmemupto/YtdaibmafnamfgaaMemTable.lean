/-
  Package mem: a table in memory, told by its versions; what keeps it.
-/
import Derived.Test.YtdaibmafnamfgaaMemTower
import Derived.Test.YtdaibmafnamfgaaMemOwn
namespace Go.Proofs.Ytdaibmafnamfgaa.Mm
open Go.RowKit Cm
set_option linter.unusedVariables false

section
variable {w w' : World} {S T : Nat → Prop} {b hb n m turn : Nat} {hv : Value} {hs : List Int} {ns : List Nd}
/-- Whatever turns the table's own block alone leaves its towers. -/
theorem Skip.beside (h : Skip w S hb ns) (ht : w.heap[b]? = some (tabObj n m hb hv turn)) (hk : ∀ k, k < w.heap.size → k ≠ b → w'.heap[k]? = w.heap[k]?) : Skip w' S hb ns := by
  have htp : ∀ j c, w.heap[j]? = some (.cells c 70 (0, 0)) → j ≠ b := fun j c hj => by
    rintro rfl
    have := ht.symm.trans hj
    simp [tabObj] at this
  have htn : ∀ j e1 n1 l1, w.heap[j]? = some (nodeObj e1 n1 l1) → j ≠ b := fun j e1 n1 l1 hj => by
    rintro rfl
    have := ht.symm.trans hj
    simp [tabObj, nodeObj] at this
  obtain ⟨csh, hl1, _⟩ := h.links
  have hcl := h.chain.lt
  have hct := h.chain.types
  refine ⟨h.links.keep (hk hb (lt_of_block hl1) (htp _ _ hl1)), h.chain.keep fun x hx => ?_, h.blks, h.nbs, h.ownb, h.ownn, h.ownh⟩
  obtain ⟨⟨l1, t1⟩, c1, t2⟩ := hct x hx
  exact ⟨hk _ (hcl x hx).1 (htn _ _ _ _ t1), hk _ (hcl x hx).2 (htp _ _ t2)⟩
/-- A table's parts. -/
structure Parts (w : World) (S : Nat → Prop) (b hb n m turn : Nat) (hv : Value) (hs : List Int) (ns : List Nd) : Prop where
  tab : w.heap[b]? = some (tabObj n m hb hv turn)
  own : S b
  skip : Skip w S hb ns
  hts : Hts w S hv hs turn
theorem Parts.beside {n' m' : Nat} (h : Parts w S b hb n m turn hv hs ns) (ht : w'.heap[b]? = some (tabObj n' m' hb hv turn)) (hc : Chg (fun k => k = b) w w') : Parts w' S b hb n' m' turn hv hs ns :=
  ⟨ht, h.own, h.skip.beside h.tab fun k hk hn => hc.block k hk hn, h.hts.keep fun k hk => hc.block k (h.hts.row.lt k hk).2 fun e1 => h.hts.far (show w.heap[b]? = some (.cells _ _ _) from h.tab) (by decide) (by rw [← e1]; exact hk)⟩
theorem Parts.keep (h : Parts w S b hb n m turn hv hs ns) (hk : ∀ k, S k → k < w.heap.size → w'.heap[k]? = w.heap[k]?) : Parts w' S b hb n m turn hv hs ns :=
  ⟨(hk b h.own (lt_of_block h.tab)).trans h.tab, h.own, h.skip.keep hk, h.hts.keep fun k e => hk k (h.hts.own k e) (h.hts.row.lt k e).2⟩
theorem Parts.below (h : Parts w S b hb n m turn hv hs ns) (hB : Below w.heap.size w w') : Parts w' S b hb n m turn hv hs ns := h.keep fun k _ hk => hB.block k hk
theorem Parts.mono (h : Parts w S b hb n m turn hv hs ns) (hT : ∀ k, S k → k < w.heap.size → T k) : Parts w T b hb n m turn hv hs ns :=
  ⟨h.tab, hT b h.own (lt_of_block h.tab), h.skip.mono hT, h.hts.row, fun k e => hT k (h.hts.own k e) (h.hts.row.lt k e).2, h.hts.pos, h.hts.small, h.hts.ok⟩
/-- Block b is a table of these versions; it owns S. -/
def Tab (w : World) (S : Nat → Prop) (b : Nat) (vs : List En) : Prop :=
  ∃ hb turn hv hs ns, Parts w S b hb vs.length (bytesE vs) turn hv hs ns ∧ ns.map Nd.e = vs ∧ (∀ x ∈ ns, 1 ≤ x.h) ∧ Sorted vs ∧ AllOk vs
variable {vs : List En}
theorem Tab.keep (h : Tab w S b vs) (hk : ∀ k, S k → k < w.heap.size → w'.heap[k]? = w.heap[k]?) : Tab w' S b vs := by
  obtain ⟨hb, turn, hv, hs, ns, h1, h2⟩ := h
  exact ⟨hb, turn, hv, hs, ns, h1.keep hk, h2⟩
theorem Tab.mono (h : Tab w S b vs) (hT : ∀ k, S k → k < w.heap.size → T k) : Tab w T b vs := by
  obtain ⟨hb, turn, hv, hs, ns, h1, h2⟩ := h
  exact ⟨hb, turn, hv, hs, ns, h1.mono hT, h2⟩
theorem Tab.below (h : Tab w S b vs) (hb : Below w.heap.size w w') : Tab w' S b vs := h.keep fun k _ hk => hb.block k hk
theorem Tab.chg (h : Tab w S b vs) (hc : Chg T w w') (hd : ∀ k, S k → ¬ T k) : Tab w' S b vs := h.keep fun k hs hk => hc.block k hk (hd k hs)
theorem Tab.sorted (h : Tab w S b vs) : Sorted vs := by
  obtain ⟨hb, turn, hv, hs, ns, h1, h2, h3, h4, h5⟩ := h
  exact h4
theorem Tab.ok (h : Tab w S b vs) : AllOk vs := by
  obtain ⟨hb, turn, hv, hs, ns, h1, h2, h3, h4, h5⟩ := h
  exact h5
theorem Tab.cells (h : Tab w S b vs) : w.cell? ⟨b, 0, none⟩ = some (.int .i64 vs.length) ∧ w.cell? ⟨b, 1, none⟩ = some (.int .i64 (bytesE vs : Nat)) ∧ b < w.heap.size ∧ S b := by
  obtain ⟨hb, turn, hv, hs, ns, h1, _⟩ := h
  obtain ⟨c0, c1, _⟩ := tab_cells h1.tab
  exact ⟨c0, c1, lt_of_block h1.tab, h1.own⟩
end
/-- A version put into its place. -/
def putOne (vs : List En) (y : En) : List En := pre vs y.key y.seq ++ y :: without y.key y.seq (post vs y.key y.seq)
theorem putOne_clean (vs : List En) (x : En) : putOne vs (clean x) = addOne vs x := by unfold putOne addOne; rw [clean_key, clean_seq]
theorem Sorted.put {vs : List En} (h : Sorted vs) (y : En) : Sorted (putOne vs y) := by
  have h0 := h
  rw [← pre_post vs y.key y.seq] at h
  obtain ⟨h1, h2, h3⟩ := h.append
  have hn := post_not (k := y.key) (s := y.seq) h0
  unfold putOne Sorted
  rw [List.pairwise_append, List.pairwise_cons]
  refine ⟨h1, ⟨fun e he => without_less h2 hn e he, List.Pairwise.sublist without_sub h2⟩, fun a ha b hb => ?_⟩
  rcases List.mem_cons.1 hb with rfl | hb
  · exact pre_ahead a ha
  · exact h3 a ha b (without_sub.subset hb)
theorem AllOk.put {vs : List En} (h : AllOk vs) {y : En} (hy : y.ok) : AllOk (putOne vs y) := by
  intro e he
  unfold putOne at he
  rcases List.mem_append.1 he with he | he
  · exact h e ((List.takeWhile_sublist _).subset he)
  · rcases List.mem_cons.1 he with rfl | he
    · exact hy
    · exact h e ((List.dropWhile_sublist _).subset (without_sub.subset he))
end Go.Proofs.Ytdaibmafnamfgaa.Mm
