/-
  Package mem: 'put' puts a version into its place.
-/
import Derived.Test.YtdaibmafnamfgaaMemTable
namespace Go.Proofs.Ytdaibmafnamfgaa.Mm
open Go.RowKit Cm
set_option linter.unusedVariables false

/-- What 'put' has ahead of its test: the parts, the version's box, the way's. -/
structure Found (w : World) (S : Nat → Prop) (b hb n m turn : Nat) (hv : Value) (hs : List Int) (ns : List Nd) (y : En) (c g : Nat) (X : World) : Prop where
  parts : Parts X S b hb n m turn hv hs ns
  box : X.heap[c]? = some (entObj y)
  way : X.heap[g]? = some (wayObj ⟨b, 2, hb⟩ (preN ns y.key y.seq))
  chg : Chg S w X
theorem Found.beside {w X Y : World} {S : Nat → Prop} {b hb n m n' m' turn : Nat} {hv : Value} {hs : List Int} {ns : List Nd} {y : En} {c g : Nat} (h : Found w S b hb n m turn hv hs ns y c g X) (ht : Y.heap[b]? = some (tabObj n' m' hb hv turn)) (hc : Chg (fun k => k = b) X Y) : Found w S b hb n' m' turn hv hs ns y c g Y := by
  refine ⟨h.parts.beside ht hc, (hc.block c (lt_of_block h.box) ?_).trans h.box, (hc.block g (lt_of_block h.way) ?_).trans h.way, h.chg.then (hc.mono fun k _ e => by rw [e]; exact h.parts.own)⟩
  · rintro rfl
    have := h.parts.tab.symm.trans h.box
    simp [tabObj, entObj] at this
  · rintro rfl
    have := h.parts.tab.symm.trans h.way
    simp [tabObj, wayObj] at this
theorem Found.drew {w X : World} {S : Nat → Prop} {b hb n m turn : Nat} {hv : Value} {hs : List Int} {ns : List Nd} {y : En} {c g : Nat} (h : Found w S b hb n m turn hv hs ns y c g X) (j : Nat) : Found w S b hb n m turn hv hs ns y c g (X.drewN j) :=
  ⟨h.parts.keep fun _ _ _ => rfl, h.box, h.way, h.chg.then (Chg.drew _ _ _)⟩

/-- The link from a level's last tower. -/
theorem Skip.next {w : World} {S : Nat → Prop} {b hb n m turn k : Nat} {hv : Value} {pre r : List Nd} (h : Skip w S hb (pre ++ r)) (ht : w.heap[b]? = some (tabObj n m hb hv turn)) (hk : k < 8) : w.cell? ⟨(lastAt k ⟨b, 2, hb⟩ pre).nb, k, none⟩ = some (ptr (first k r)) := by
  rcases lastAt_cases k ⟨b, 2, hb⟩ pre with ⟨hl, hle⟩ | ⟨pa, x, pb, rfl, hl, hkn, hle⟩
  · rw [hl]
    have := h.links.cell k hk
    rw [first_append, first_none hle] at this
    exact this
  · rw [hl]
    obtain ⟨len, h1, h2⟩ := h.node (a := pa) (x := x) (c := pb ++ r) (by simp)
    have := h2.cell k hkn
    rw [first_append, first_none hle] at this
    exact this
/-- Where the walk of a table meets the first that isn't ahead. -/
theorem Found.first {w X : World} {S : Nat → Prop} {b hb n m turn : Nat} {hv : Value} {hs : List Int} {ns : List Nd} {y : En} {c g : Nat} (h : Found w S b hb n m turn hv hs ns y c g X) (hh : ∀ x ∈ ns, 1 ≤ x.h) :
    X.cell? ⟨g, 0, none⟩ = some (lastAt 0 ⟨b, 2, hb⟩ (preN ns y.key y.seq)).val ∧ (∃ l2, X.cell? ⟨(lastAt 0 ⟨b, 2, hb⟩ (preN ns y.key y.seq)).blk, (lastAt 0 ⟨b, 2, hb⟩ (preN ns y.key y.seq)).off + 4, none⟩ = some (.slice (some ⟨(lastAt 0 ⟨b, 2, hb⟩ (preN ns y.key y.seq)).nb, 0, none⟩) l2 l2) ∧ 0 < l2) ∧
    X.cell? ⟨(lastAt 0 ⟨b, 2, hb⟩ (preN ns y.key y.seq)).nb, 0, none⟩ = some (ptr (postN ns y.key y.seq).head?) := by
  have hsk : Skip X S hb (preN ns y.key y.seq ++ postN ns y.key y.seq) := by rw [← preN_postN]; exact h.parts.skip
  obtain ⟨l2, h1, h2, _⟩ := hsk.last h.parts.tab (k := 0) (by decide)
  have h3 := hsk.next h.parts.tab (k := 0) (by decide)
  rw [first_zero fun x hx => hh x (by rw [preN_postN ns y.key y.seq]; exact List.mem_append.2 (.inr hx))] at h3
  exact ⟨way_cell h.way (by decide), ⟨l2, h1, h2⟩, h3⟩

/-- What 'put' comes to. -/
def Ends (w : World) (S : Nat → Prop) (b hb : Nat) (hv : Value) (hs : List Int) (ns : List Nd) (y : En) (w' : World) : Prop :=
  (∃ n' m' turn' ns', Parts w' S b hb n' m' turn' hv hs ns' ∧ ns'.map Nd.e = putOne (ns.map Nd.e) y ∧ n' = ns'.length ∧ m' = bytesE (ns'.map Nd.e) ∧ (∀ x ∈ ns', 1 ≤ x.h)) ∧ Chg S w w'
/-- A new tower. -/
theorem ends_new {w X X' : World} {S : Nat → Prop} {b hb turn turn' : Nat} {hv : Value} {hs : List Int} {ns : List Nd} {y : En} {c g x nb h : Nat} (hf : Found w S b hb (ns.length + 1) (bytesE (ns.map Nd.e) + sizeE y) turn hv hs ns y c g X) (hh : ∀ x ∈ ns, 1 ≤ x.h)
    (hno : ∀ z r, postN ns y.key y.seq = z :: r → ¬ (z.e.key = y.key ∧ z.e.seq = y.seq)) (h1 : 1 ≤ h) (hsk : Skip X' S hb (preN ns y.key y.seq ++ ⟨x, nb, h, y⟩ :: postN ns y.key y.seq)) (ht : X'.heap[b]? = some (tabObj (ns.length + 1) (bytesE (ns.map Nd.e) + sizeE y) hb hv turn')) (hht : Hts X' S hv hs turn') (hc : Chg S X X') : Ends w S b hb hv hs ns y X' := by
  have hl : ns.length = (preN ns y.key y.seq).length + (postN ns y.key y.seq).length := by rw [← List.length_append, ← preN_postN]
  have hm : bytesE (ns.map Nd.e) = bytesE ((preN ns y.key y.seq).map Nd.e) + bytesE ((postN ns y.key y.seq).map Nd.e) := by rw [← bytesE_append, ← List.map_append, ← preN_postN]
  refine ⟨⟨_, _, turn', _, ⟨ht, hf.parts.own, hsk, hht⟩, ?_, by simp; omega, by rw [List.map_append, List.map_cons, bytesE_append, bytesE_cons, hm]; show _ + sizeE y = _ + (sizeE y + _); omega, fun z hz => ?_⟩, hf.chg.then hc⟩
  · unfold putOne
    rw [List.map_append, List.map_cons, preN_map, postN_map]
    congr 2
    rw [← postN_map]
    cases hq : postN ns y.key y.seq with
    | nil => rfl
    | cons z r => rw [List.map_cons, without_cons, if_neg (hno z r hq)]
  · rcases List.mem_append.1 hz with hz | hz
    · exact hh z (by rw [preN_postN ns y.key y.seq]; exact List.mem_append.2 (.inl hz))
    · rcases List.mem_cons.1 hz with rfl | hz
      · exact h1
      · exact hh z (by rw [preN_postN ns y.key y.seq]; exact List.mem_append.2 (.inr hz))
/-- In another's place. -/
theorem ends_turn {w X : World} {S : Nat → Prop} {b hb turn : Nat} {hv : Value} {hs : List Int} {ns : List Nd} {y : En} {c g m : Nat} {z : Nd} {r : List Nd} (hf : Found w S b hb ns.length m turn hv hs ns y c g X) (hh : ∀ x ∈ ns, 1 ≤ x.h)
    (hq : postN ns y.key y.seq = z :: r) (he : z.e.key = y.key ∧ z.e.seq = y.seq) (hm : m + sizeE z.e = bytesE (ns.map Nd.e) + sizeE y) :
    Ends w S b hb hv hs ns y ((((X.setCell ⟨z.blk, 0, none⟩ (.string y.key)).setCell ⟨z.blk, 1, none⟩ (.int .i64 y.seq)).setCell ⟨z.blk, 2, none⟩ (.bool y.dead)).setCell ⟨z.blk, 3, none⟩ (.string y.val)) := by
  have hns := preN_postN ns y.key y.seq
  rw [hq] at hns
  have hsk := hf.parts.skip
  rw [hns] at hsk
  have hnode := hsk.node (a := preN ns y.key y.seq) (x := z) (c := r) rfl
  obtain ⟨len, hz1, _⟩ := hnode
  have hz2 : ((((X.setCell ⟨z.blk, 0, none⟩ (.string y.key)).setCell ⟨z.blk, 1, none⟩ (.int .i64 y.seq)).setCell ⟨z.blk, 2, none⟩ (.bool y.dead)).setCell ⟨z.blk, 3, none⟩ (.string y.val)).heap[z.blk]? = some (nodeObj y z.nb len) := by
    unfold nodeObj at hz1
    rw [Joins.block_setCell (Joins.block_setCell (Joins.block_setCell (Joins.block_setCell hz1 _) _) _)]
    rfl
  have hk : ∀ j, j ≠ z.blk → ((((X.setCell ⟨z.blk, 0, none⟩ (.string y.key)).setCell ⟨z.blk, 1, none⟩ (.int .i64 y.seq)).setCell ⟨z.blk, 2, none⟩ (.bool y.dead)).setCell ⟨z.blk, 3, none⟩ (.string y.val)).heap[j]? = X.heap[j]? := fun j hj => by
    rw [Below.heap_setCell _ _ _ _ (by simpa using hj), Below.heap_setCell _ _ _ _ (by simpa using hj), Below.heap_setCell _ _ _ _ (by simpa using hj), Below.heap_setCell _ _ _ _ (by simpa using hj)]
  have hSz : S z.blk := hf.parts.skip.ownb z (by rw [hns]; simp)
  have hbz : b ≠ z.blk := by
    rintro rfl
    have := hf.parts.tab.symm.trans hz1
    simp [tabObj, nodeObj] at this
  have hl : ns.length = (preN ns y.key y.seq).length + (r.length + 1) := by
    have := congrArg List.length hns
    simpa using this
  have hmm : bytesE (ns.map Nd.e) = bytesE ((preN ns y.key y.seq).map Nd.e) + (sizeE z.e + bytesE (r.map Nd.e)) := by
    have := congrArg (fun l => bytesE (l.map Nd.e)) hns
    simpa [bytesE_append, bytesE_cons] using this
  refine ⟨⟨ns.length, m, turn, preN ns y.key y.seq ++ ⟨z.blk, z.nb, z.h, y⟩ :: r, ⟨(hk b hbz).trans hf.parts.tab, hf.parts.own, hsk.turn hz2 hz1 hk, ?_⟩, ?_, by simp; omega, by rw [List.map_append, List.map_cons, bytesE_append, bytesE_cons]; show m = _ + (sizeE y + _); omega, fun x hx => ?_⟩, ?_⟩
  · exact hf.parts.hts.keep fun k hk2 => hk k fun e1 => hf.parts.hts.far (show X.heap[z.blk]? = some (.cells _ _ _) from hz1) (by decide) (by rw [← e1]; exact hk2)
  · unfold putOne
    rw [List.map_append, List.map_cons, preN_map, ← postN_map, hq, List.map_cons, without_cons, if_pos he]
  · rcases List.mem_append.1 hx with hx | hx
    · exact hh x (by rw [hns]; simp [hx])
    · rcases List.mem_cons.1 hx with rfl | hx
      · exact hh z (by rw [hns]; simp)
      · exact hh x (by rw [hns]; simp [hx])
  · exact (((hf.chg.then (Chg.set _ _ _ _ hSz)).then (Chg.set _ _ _ _ hSz)).then (Chg.set _ _ _ _ hSz)).then (Chg.set _ _ _ _ hSz)
end Go.Proofs.Ytdaibmafnamfgaa.Mm
