/-
  Layer 6 in memory: a tower more, level by level; a version in another's place.
-/
import Derived.Test.YtdaibmafnamfgaaMemHeap
namespace Go.Proofs.Ytdaibmafnamfgaa.Mm
open Go.RowKit Cm
set_option linter.unusedVariables false

section
variable {w w' w2 : World} {S : Nat → Prop} {b hb : Nat}
theorem Chain.other {a t1 t2 : List Nd} (hc : Chain w t1 a) (hf : ∀ n ∈ a, w2.heap[n.blk]? = w.heap[n.blk]? ∧ w2.heap[n.nb]? = w.heap[n.nb]?) (he : ∀ n ∈ a, ∀ r l, l < n.h → ptr (first l (r ++ t2)) = ptr (first l (r ++ t1))) : Chain w2 t2 a := by
  induction a with
  | nil => trivial
  | cons n a ih =>
    obtain ⟨⟨len, h1, h2⟩, h3⟩ := hc
    have f := hf n List.mem_cons_self
    exact ⟨⟨len, f.1.trans h1, h2.other f.2 fun l hl => he n List.mem_cons_self a l hl⟩, ih h3 (fun m hm => hf m (List.mem_cons_of_mem _ hm)) (fun m hm => he m (List.mem_cons_of_mem _ hm))⟩
theorem links_set {nb h len k x nx : Nat} {e : En} {a post : List Nd} {cs : Array Value} (hl : LinksAt w nb h len (a ++ ⟨x, nx, k, e⟩ :: post)) (hc : w.heap[nb]? = some (.cells cs 70 (0, 0)))
    (h2 : w2.heap[nb]? = some (.cells (cs.setIfInBounds k (.pointer (some ⟨x, 0, none⟩))) 70 (0, 0))) (ha : ∀ m ∈ a, m.h ≤ k) (hk : k < h) : LinksAt w2 nb h len (a ++ ⟨x, nx, k + 1, e⟩ :: post) := by
  obtain ⟨cs', h1, h3, h4, h5⟩ := hl
  obtain rfl : cs = cs' := by rw [hc] at h1; simpa using h1
  refine ⟨_, h2, by simpa using h3, h4, fun l hl => ?_⟩
  by_cases e1 : l = k
  · subst e1
    rw [Array.getElem?_setIfInBounds_self, if_pos (by omega), first_append, first_none ha, first_cons, if_pos (Nat.lt_succ_self _)]
    rfl
  · rw [Array.getElem?_setIfInBounds_ne (fun e2 => e1 e2.symm), first_other e1]
    exact h5 l hl
theorem node_ne {a c len nb : Nat} {e : En} {cs : Array Value} (h1 : w.heap[a]? = some (nodeObj e nb len)) (h2 : w.heap[c]? = some (.cells cs 70 (0, 0))) : a ≠ c := by
  rintro rfl
  rw [h1] at h2
  simp [nodeObj] at h2
theorem Chain.types {tail ns : List Nd} (h : Chain w tail ns) : ∀ n ∈ ns, (∃ len, w.heap[n.blk]? = some (nodeObj n.e n.nb len)) ∧ ∃ cs, w.heap[n.nb]? = some (.cells cs 70 (0, 0)) := by
  induction ns with
  | nil => intro n hn; simp at hn
  | cons m ns ih =>
    obtain ⟨⟨len, h1, cs, h2, _⟩, h3⟩ := h
    intro n hn
    rcases List.mem_cons.1 hn with rfl | hn
    · exact ⟨⟨len, h1⟩, cs, h2⟩
    · exact ih h3 n hn
theorem nodup_mid {α : Type} {a c : List α} {x : α} (h : (a ++ x :: c).Nodup) : x ∉ a ∧ x ∉ c ∧ ∀ y ∈ a, y ∉ c := by
  rw [List.nodup_append] at h
  obtain ⟨h1, h2, h3⟩ := h
  rw [List.nodup_cons] at h2
  exact ⟨fun hx => h3 x hx x List.mem_cons_self rfl, h2.1, fun y hy hc => h3 y hy y (List.mem_cons_of_mem _ hc) rfl⟩

/-- One level more. -/
theorem Skip.step {x nb k len : Nat} {e : En} {pre post : List Nd} (h : Skip w S hb (pre ++ ⟨x, nb, k, e⟩ :: post)) (hx : w.heap[x]? = some (nodeObj e nb len)) (hk : k < len) (hk8 : k < 8) :
    Skip ((w.setCell ⟨nb, k, none⟩ (ptr (first k post))).setCell ⟨(lastAt k ⟨b, 2, hb⟩ pre).nb, k, none⟩ (.pointer (some ⟨x, 0, none⟩))) S hb (pre ++ ⟨x, nb, k + 1, e⟩ :: post) ∧ S nb ∧ S (lastAt k ⟨b, 2, hb⟩ pre).nb ∧
    w.cell? ⟨(lastAt k ⟨b, 2, hb⟩ pre).nb, k, none⟩ = some (ptr (first k post)) ∧ (lastAt k ⟨b, 2, hb⟩ pre).nb ≠ nb ∧ (∃ cs, w.heap[(lastAt k ⟨b, 2, hb⟩ pre).nb]? = some (.cells cs 70 (0, 0))) ∧ ∃ cs, w.heap[nb]? = some (.cells cs 70 (0, 0)) ∧ cs.size = len := by
  have hch := h.chain
  rw [Chain.append, List.append_nil] at hch
  obtain ⟨hpre, hnew, hpost⟩ := hch
  obtain ⟨len', hn1, hn2⟩ := hnew
  obtain rfl : len = len' := by have := hx.symm.trans hn1; simpa [nodeObj] using this
  replace hn2 : LinksAt w nb k len post := by rw [List.append_nil] at hn2; exact hn2
  obtain ⟨csn, n1, n2, n3, n4⟩ := hn2
  have n1 : w.heap[nb]? = some (.cells csn 70 (0, 0)) := n1
  have hnd := h.nbs
  rw [List.nodup_cons, List.map_append, List.map_cons] at hnd
  obtain ⟨hhb, hnd⟩ := hnd
  obtain ⟨d1, d2, d3⟩ := nodup_mid hnd
  have d1 : nb ∉ pre.map Nd.nb := d1
  have d2 : nb ∉ post.map Nd.nb := d2
  have hhb1 : ∀ n ∈ pre, n.nb ≠ hb := fun n hn e1 => hhb (List.mem_append.2 (.inl (List.mem_map.2 ⟨n, hn, e1⟩)))
  have hhb2 : ∀ n ∈ post, n.nb ≠ hb := fun n hn e1 => hhb (List.mem_append.2 (.inr (List.mem_cons_of_mem _ (List.mem_map.2 ⟨n, hn, e1⟩))))
  have hhb3 : nb ≠ hb := fun e1 => hhb (List.mem_append.2 (.inr (by rw [← e1]; exact List.mem_cons_self)))
  have htp := hpre.types
  have htq := hpost.types
  have hSn : S nb := h.ownn ⟨x, nb, k, e⟩ (by simp)
  have hmaps : ∀ {P : Nd → Nat} (hP : P ⟨x, nb, k + 1, e⟩ = P ⟨x, nb, k, e⟩), (pre ++ ⟨x, nb, k + 1, e⟩ :: post).map P = (pre ++ ⟨x, nb, k, e⟩ :: post).map P := fun hP => by simp [hP]
  have hown : ∀ n ∈ pre ++ ⟨x, nb, k + 1, e⟩ :: post, S n.blk ∧ S n.nb := fun n hn => by
    rcases List.mem_append.1 hn with hn | hn
    · exact ⟨h.ownb n (List.mem_append.2 (.inl hn)), h.ownn n (List.mem_append.2 (.inl hn))⟩
    · rcases List.mem_cons.1 hn with rfl | hn
      · exact ⟨h.ownb ⟨x, nb, k, e⟩ (by simp), hSn⟩
      · exact ⟨h.ownb n (by simp [hn]), h.ownn n (by simp [hn])⟩
  -- the links' block that is turned
  have key : ∀ (q : Nat) (csq : Array Value), w.heap[q]? = some (.cells csq 70 (0, 0)) → q ≠ nb →
      ((w.setCell ⟨nb, k, none⟩ (ptr (first k post))).setCell ⟨q, k, none⟩ (.pointer (some ⟨x, 0, none⟩))).heap[q]? = some (.cells (csq.setIfInBounds k (.pointer (some ⟨x, 0, none⟩))) 70 (0, 0)) ∧
      ((w.setCell ⟨nb, k, none⟩ (ptr (first k post))).setCell ⟨q, k, none⟩ (.pointer (some ⟨x, 0, none⟩))).heap[nb]? = some (.cells (csn.setIfInBounds k (ptr (first k post))) 70 (0, 0)) ∧
      ∀ j, j ≠ nb → j ≠ q → ((w.setCell ⟨nb, k, none⟩ (ptr (first k post))).setCell ⟨q, k, none⟩ (.pointer (some ⟨x, 0, none⟩))).heap[j]? = w.heap[j]? := fun q csq hq hqn => by
    have g1 : (w.setCell ⟨nb, k, none⟩ (ptr (first k post))).heap[q]? = some (.cells csq 70 (0, 0)) := (Below.heap_setCell _ _ _ _ (by simpa using hqn)).trans hq
    have g2 := Joins.block_setCell n1 (i := k) (ptr (first k post))
    refine ⟨Joins.block_setCell g1 _, (Below.heap_setCell _ _ _ _ (by simpa using fun e1 => hqn e1.symm)).trans g2, fun j h1 h2 => ?_⟩
    rw [Below.heap_setCell _ _ _ _ (by simpa using h2), Below.heap_setCell _ _ _ _ (by simpa using h1)]
  -- the new tower's own links, and those behind it
  have rest : ∀ (W : World) (q : Nat) (csq : Array Value), w.heap[q]? = some (.cells csq 70 (0, 0)) → W.heap[nb]? = some (.cells (csn.setIfInBounds k (ptr (first k post))) 70 (0, 0)) → (∀ j, j ≠ nb → j ≠ q → W.heap[j]? = w.heap[j]?) → (∀ n ∈ post, n.nb ≠ q) →
      NodeAt W ⟨x, nb, k + 1, e⟩ post ∧ Chain W [] post := fun W q csq hq hb1 hfar hqp => by
    refine ⟨⟨len, (hfar x (node_ne hx n1) (node_ne hx hq)).trans hx, _, hb1, by simpa using n2, hk, fun l hl => ?_⟩, hpost.keep fun n hn => ?_⟩
    · have hl : l < k + 1 := hl
      by_cases e1 : l = k
      · subst e1
        rw [Array.getElem?_setIfInBounds_self, if_pos (by omega)]
      · rw [Array.getElem?_setIfInBounds_ne (fun e2 => e1 e2.symm)]
        exact n4 l (by show l < k; omega)
    · obtain ⟨⟨l1, t1⟩, c1, t2⟩ := htq n hn
      exact ⟨hfar _ (node_ne t1 n1) (node_ne t1 hq), hfar _ (fun e1 => d2 (by rw [← e1]; exact List.mem_map.2 ⟨n, hn, rfl⟩)) (hqp n hn)⟩
  rcases lastAt_cases k ⟨b, 2, hb⟩ pre with ⟨hl, hle⟩ | ⟨pa, n, pb, rfl, hl, hkn, hle⟩
  · rw [hl]
    show Skip ((w.setCell ⟨nb, k, none⟩ (ptr (first k post))).setCell ⟨hb, k, none⟩ _) S hb _ ∧ S nb ∧ S hb ∧ w.cell? ⟨hb, k, none⟩ = _ ∧ hb ≠ nb ∧ (∃ cs, w.heap[hb]? = _) ∧ _
    have hlk := h.links
    have hcell := hlk.cell k hk8
    rw [first_append, first_none hle, first_cons, if_neg (Nat.lt_irrefl _)] at hcell
    obtain ⟨csq, q1, _⟩ := h.links
    obtain ⟨k1, k2, k3⟩ := key hb csq q1 (fun e1 => hhb3 e1.symm)
    obtain ⟨r1, r2⟩ := rest _ hb csq q1 k2 k3 hhb2
    refine ⟨⟨links_set hlk q1 k1 hle hk8, ?_, by rw [hmaps (P := Nd.blk) rfl]; exact h.blks, by rw [hmaps (P := Nd.nb) rfl]; exact h.nbs, fun n hn => (hown n hn).1, fun n hn => (hown n hn).2, h.ownh⟩, hSn, h.ownh, hcell, fun e1 => hhb3 e1.symm, ⟨csq, q1⟩, csn, n1, n2⟩
    rw [Chain.append, List.append_nil]
    refine ⟨hpre.other (fun m hm => ?_) (fun m hm r l hl => first_other (by have := hle m hm; omega) r post x nb e), ?_⟩
    · obtain ⟨⟨l1, t1⟩, c1, t2⟩ := htp m hm
      exact ⟨k3 _ (node_ne t1 n1) (node_ne t1 q1), k3 _ (fun e1 => d1 (by rw [← e1]; exact List.mem_map.2 ⟨m, hm, rfl⟩)) (hhb1 m hm)⟩
    · show NodeAt _ _ (post ++ []) ∧ _
      rw [List.append_nil]; exact ⟨r1, r2⟩
  · rw [hl]
    show Skip ((w.setCell ⟨nb, k, none⟩ (ptr (first k post))).setCell ⟨n.nb, k, none⟩ _) S hb _ ∧ S nb ∧ S n.nb ∧ w.cell? ⟨n.nb, k, none⟩ = _ ∧ n.nb ≠ nb ∧ (∃ cs, w.heap[n.nb]? = _) ∧ _
    have hnm : n ∈ pa ++ n :: pb := by simp
    obtain ⟨⟨ln, t1⟩, csq, q1⟩ := htp n hnm
    rw [Chain.append] at hpre
    obtain ⟨hpa, hn, hpb⟩ := hpre
    obtain ⟨ln', t1', hlk⟩ := hn
    obtain rfl : ln = ln' := by have := t1.symm.trans t1'; simpa [nodeObj] using this
    have hcell := hlk.cell k hkn
    rw [first_append, first_none hle, first_cons, if_neg (Nat.lt_irrefl _)] at hcell
    have hnnb : n.nb ≠ nb := fun e1 => d1 (by rw [← e1]; exact List.mem_map.2 ⟨n, hnm, rfl⟩)
    obtain ⟨k1, k2, k3⟩ := key n.nb csq q1 hnnb
    have hnd2 : (pa.map Nd.nb ++ n.nb :: pb.map Nd.nb).Nodup := by
      have := (List.nodup_append.1 hnd).1
      simpa using this
    obtain ⟨f1, f2, f3⟩ := nodup_mid hnd2
    obtain ⟨r1, r2⟩ := rest _ n.nb csq q1 k2 k3 (fun m hm e1 => d3 n.nb (List.mem_map.2 ⟨n, hnm, rfl⟩) (by rw [← e1]; exact List.mem_map.2 ⟨m, hm, rfl⟩))
    have hfr : ∀ m ∈ pa ++ n :: pb, n.nb ≠ m.nb → ((w.setCell ⟨nb, k, none⟩ (ptr (first k post))).setCell ⟨n.nb, k, none⟩ (.pointer (some ⟨x, 0, none⟩))).heap[m.blk]? = w.heap[m.blk]? ∧ ((w.setCell ⟨nb, k, none⟩ (ptr (first k post))).setCell ⟨n.nb, k, none⟩ (.pointer (some ⟨x, 0, none⟩))).heap[m.nb]? = w.heap[m.nb]? := fun m hm hne => by
      obtain ⟨⟨l1, u1⟩, c1, u2⟩ := htp m hm
      exact And.intro (k3 _ (node_ne u1 n1) (node_ne u1 q1)) (k3 _ (fun e1 => d1 (by rw [← e1]; exact List.mem_map.2 ⟨m, hm, rfl⟩)) (fun e1 => hne e1.symm))
    have hall : ∀ (r : List Nd) (l : Nat), ptr (first l (r ++ (n :: pb ++ ⟨x, nb, k + 1, e⟩ :: post))) = ptr (first l (r ++ (n :: pb ++ ⟨x, nb, k, e⟩ :: post))) := fun r l => by
      rw [← List.append_assoc, ← List.append_assoc]
      by_cases e1 : l = k
      · exact first_seen ⟨n, by simp, by omega⟩ _ _
      · exact first_other e1 _ post x nb e
    refine ⟨⟨?_, ?_, by rw [hmaps (P := Nd.blk) rfl]; exact h.blks, by rw [hmaps (P := Nd.nb) rfl]; exact h.nbs, fun n hn => (hown n hn).1, fun n hn => (hown n hn).2, h.ownh⟩, hSn, (hown n (by simp)).2, hcell, hnnb, ⟨csq, q1⟩, csn, n1, n2⟩
    · obtain ⟨csh, g1, _⟩ := h.links
      refine h.links.other (k3 hb (fun e1 => hhb3 e1.symm) (fun e1 => hhb1 n hnm e1.symm)) fun l hl => ?_
      have := hall pa l
      simpa only [List.append_assoc] using this
    · rw [Chain.append, List.append_nil, Chain.append]
      refine ⟨⟨hpa.other (fun m hm => hfr m (by simp [hm]) (fun e1 => f1 (by rw [e1]; exact List.mem_map.2 ⟨m, hm, rfl⟩))) (fun m hm r l hl => hall r l), ⟨ln, ?_, links_set hlk q1 k1 hle hkn⟩, hpb.other (fun m hm => hfr m (by simp [hm]) (fun e1 => f2 (by rw [e1]; exact List.mem_map.2 ⟨m, hm, rfl⟩))) (fun m hm r l hl => first_other (by have := hle m hm; omega) r post x nb e)⟩, ?_⟩
      · exact (k3 _ (node_ne t1 n1) (node_ne t1 q1)).trans t1
      · show NodeAt _ _ (post ++ []) ∧ _
        rw [List.append_nil]; exact ⟨r1, r2⟩

/-- A tower that is seen on no level yet. -/
theorem Skip.born {x nb len : Nat} {e : En} {pre post : List Nd} (h : Skip w S hb (pre ++ post)) (hx : w.heap[x]? = some (nodeObj e nb len)) {cs : Array Value} (hn : w.heap[nb]? = some (.cells cs 70 (0, 0))) (hcs : cs.size = len)
    (hxb : ∀ n ∈ pre ++ post, n.blk ≠ x) (hnb : ∀ n ∈ pre ++ post, n.nb ≠ nb) (hh : nb ≠ hb) (hSx : S x) (hSn : S nb) : Skip w S hb (pre ++ ⟨x, nb, 0, e⟩ :: post) := by
  have hf : ∀ (l : Nat) (r : List Nd), first l (r ++ ⟨x, nb, 0, e⟩ :: post) = first l (r ++ post) := fun l r => by
    rw [first_append, first_append, first_cons, if_neg (Nat.not_lt_zero _)]
  have hch := h.chain
  rw [Chain.append, List.append_nil] at hch
  refine ⟨h.links.other rfl fun l _ => by rw [hf], ?_, ?_, ?_, fun n hn => ?_, fun n hn => ?_, h.ownh⟩
  · rw [Chain.append, List.append_nil]
    exact ⟨hch.1.other (fun n _ => ⟨rfl, rfl⟩) fun n _ r l _ => by rw [hf], ⟨len, hx, cs, hn, hcs, Nat.zero_le _, fun l hl => absurd hl (Nat.not_lt_zero _)⟩, hch.2⟩
  · have hp : (⟨x, nb, 0, e⟩ :: (pre ++ post)).Perm (pre ++ ⟨x, nb, 0, e⟩ :: post) := List.perm_middle.symm
    refine ((hp.map Nd.blk).nodup_iff).1 (List.nodup_cons.2 ⟨fun hm => ?_, h.blks⟩)
    obtain ⟨n, h1, h2⟩ := List.mem_map.1 hm
    exact hxb n h1 h2
  · have hp : (⟨x, nb, 0, e⟩ :: (pre ++ post)).Perm (pre ++ ⟨x, nb, 0, e⟩ :: post) := List.perm_middle.symm
    have hnd := List.nodup_cons.1 h.nbs
    refine List.nodup_cons.2 ⟨fun hm => ?_, ((hp.map Nd.nb).nodup_iff).1 (List.nodup_cons.2 ⟨fun hm => ?_, hnd.2⟩)⟩
    · rcases List.mem_cons.1 (((hp.map Nd.nb).mem_iff).2 hm) with e1 | e1
      · exact hh e1.symm
      · exact hnd.1 e1
    · obtain ⟨n, h1, h2⟩ := List.mem_map.1 hm
      exact hnb n h1 h2
  · rcases List.mem_append.1 hn with hn | hn
    · exact h.ownb n (by simp [hn])
    · rcases List.mem_cons.1 hn with rfl | hn
      · exact hSx
      · exact h.ownb n (by simp [hn])
  · rcases List.mem_append.1 hn with hn | hn
    · exact h.ownn n (by simp [hn])
    · rcases List.mem_cons.1 hn with rfl | hn
      · exact hSn
      · exact h.ownn n (by simp [hn])
/-- A version in another's place. -/
theorem Skip.turn {n : Nd} {e : En} {pre post : List Nd} (h : Skip w S hb (pre ++ n :: post)) {len : Nat} (hn : w'.heap[n.blk]? = some (nodeObj e n.nb len)) (hlen : w.heap[n.blk]? = some (nodeObj n.e n.nb len)) (hk : ∀ j, j ≠ n.blk → w'.heap[j]? = w.heap[j]?) : Skip w' S hb (pre ++ ⟨n.blk, n.nb, n.h, e⟩ :: post) := by
  have hch := h.chain
  rw [Chain.append, List.append_nil] at hch
  obtain ⟨hpre, hnew, hpost⟩ := hch
  have hb1 := h.blks
  rw [List.map_append, List.map_cons] at hb1
  obtain ⟨d1, d2, d3⟩ := nodup_mid hb1
  have hlk : ∀ {j : Nat} {cs : Array Value}, w.heap[j]? = some (.cells cs 70 (0, 0)) → w'.heap[j]? = w.heap[j]? := fun hj => hk _ (fun e1 => node_ne hlen hj e1.symm)
  have hs : ∀ (l : Nat) (r : List Nd), ptr (first l (r ++ ⟨n.blk, n.nb, n.h, e⟩ :: post)) = ptr (first l (r ++ n :: post)) := fun l r => ptr_same (n := n) (n' := ⟨n.blk, n.nb, n.h, e⟩) rfl rfl l r post
  have ht := hpre.types
  have hq := hpost.types
  obtain ⟨ln, u1, u2⟩ := hnew
  obtain rfl : len = ln := by have := hlen.symm.trans u1; simpa [nodeObj] using this
  refine ⟨?_, ?_, by simpa using h.blks, by simpa using h.nbs, fun m hm => ?_, fun m hm => ?_, h.ownh⟩
  · obtain ⟨cs, g1, _⟩ := h.links
    exact h.links.other (hlk g1) fun l _ => hs l pre
  · rw [Chain.append, List.append_nil]
    refine ⟨hpre.other (fun m hm => ?_) fun m _ r l _ => hs l r, ⟨len, hn, ?_⟩, hpost.keep fun m hm => ?_⟩
    · obtain ⟨⟨l1, t1⟩, c1, t2⟩ := ht m hm
      exact ⟨hk _ (fun e1 => d1 (List.mem_map.2 ⟨m, hm, e1⟩)), hlk t2⟩
    · obtain ⟨cs, g1, _⟩ := id u2
      show LinksAt w' n.nb n.h len (post ++ [])
      exact u2.keep (hlk g1)
    · obtain ⟨⟨l1, t1⟩, c1, t2⟩ := hq m hm
      exact ⟨hk _ (fun e1 => d2 (List.mem_map.2 ⟨m, hm, e1⟩)), hlk t2⟩
  · rcases List.mem_append.1 hm with hm | hm
    · exact h.ownb m (by simp [hm])
    · rcases List.mem_cons.1 hm with rfl | hm
      · exact h.ownb n (by simp)
      · exact h.ownb m (by simp [hm])
  · rcases List.mem_append.1 hm with hm | hm
    · exact h.ownn m (by simp [hm])
    · rcases List.mem_cons.1 hm with rfl | hm
      · exact h.ownn n (by simp)
      · exact h.ownn m (by simp [hm])
end
end Go.Proofs.Ytdaibmafnamfgaa.Mm
