/-
  The texts MemLists, MemCalls, MemNew.
-/
import Derived.Test.YtedjohkdfchocaaQMemPutWalk

/-
  Package mem: the versions behind a tower; all of them; those from a key on.
-/
namespace Go.Proofs.Ytedjohkdfchocaa.Mm
open Go.RowKit Cm
set_option linter.unusedVariables false

theorem idx_way (a0 a1 a2 a3 a4 a5 a6 a7 : Option Addr) (W : World) : (Instr.index 90 (.agg #[.pointer a0, .pointer a1, .pointer a2, .pointer a3, .pointer a4, .pointer a5, .pointer a6, .pointer a7]) (.int .i64 0)).run Try.prog W = .ok (.pointer a0) W := by kernel_rfl

set_option maxRecDepth 100000 in
set_option maxHeartbeats 2000000 in
theorem behind_any (p : Pos) (h : Nat) (ns : List Nd) (w : World) (hp : PosAt w p h ns) (h1 : 1 ≤ h) (hc : Chain w [] ns) (hh : ∀ x ∈ ns, 1 ≤ x.h) (hl : ns.length ≤ 1000000000000) :
    Calls Try.prog 39 #[p.val] w fun e w' => ∃ v, e = .returned v ∧ w'.ownsRow w.heap.size 44 4 v ns.length (enShape.vals (ns.map Nd.e)) ∧ Below w.heap.size w w' := by
  obtain ⟨i0, hi, hz0, hz1, hz2⟩ := info_parts infoEn
  obtain ⟨len, c4, hlen, _, _, hcell⟩ := hp
  have cn := hcell 0 (by omega)
  rw [first_zero hh] at cn
  have hl0 : (0 : Int) < (len : Int) := by omega
  have HN : Hid (∀ wr, Below w.heap.size w wr → ∀ a x c, ns = a ++ x :: c → NodeAt wr x c ∧ 1 ≤ x.h ∧ (∀ y ∈ c, 1 ≤ y.h)) := fun wr hb a x c e => by
    have hch := hc
    rw [e, Chain.append] at hch
    have hn : NodeAt w x c := by have := hch.2.1; rwa [List.append_nil] at this
    obtain ⟨l3, q1, q2⟩ := id hn
    obtain ⟨cs, q3, _⟩ := q2
    exact ⟨hn.keep (hb.block _ (lt_of_block q1)) (hb.block _ (lt_of_block q3)), hh x (by rw [e]; simp), fun y hy => hh y (by rw [e]; simp [hy])⟩
  clear hcell hc hh hlen
  unfold Pos.val
  unfold ptr at cn
  go_enter Try.func39, Try.ntmps39
  go_wp2
  go_loopg [3, 4] ns.length (fun g v n wr => ∃ (a c : List Nd), Hid (ns = a ++ c) ∧ c.length = g ∧ n = ptr c.head? ∧ Hid (wr.ownsRow w.heap.size 44 4 v a.length (enShape.vals (a.map Nd.e))) ∧ Hid (Below w.heap.size w wr))
  case atStart => exact ⟨[], ns, hid_rfl, rfl, rfl, World.ownsRow_nil _ _ _ _, Below.refl _ _⟩
  case round =>
    obtain ⟨a, c, HE, hcg, rfl, HO, HB⟩ := hrel
    cases c with
    | nil =>
      have ea : a = ns := by have := HE.out; simpa using this.symm
      subst ea
      unfold ptr
      simp only [List.head?_nil, Option.map_none]
      go_wp2
      go_ret
      exact ⟨_, rfl, HO.out, HB.out⟩
    | cons x c =>
      obtain ⟨hn, hx1, hc1⟩ := HN.out wr HB.out a x c HE.out
      obtain ⟨z0, z1, z2, z3, _⟩ := hn.cells
      have HNw : Hid (∀ w5, Below w.heap.size w w5 → _) := fun w5 h5 => HN.out w5 h5 a x c HE.out
      have hal : a.length + 1 ≤ 1000000000000 := by have := congrArg List.length HE.out; simp at this; omega
      have hbs := HB.out.size
      have HEn : Hid (ns = (a ++ [x]) ++ c) := by rw [HE.out]; simp [Hid]
      have helm : ElemsAt enShape (wr.alloc (.cells #[.string x.e.key, .int .i64 x.e.seq, .bool x.e.dead, .string x.e.val] 44)) (some ⟨wr.heap.size, 0, none⟩) [x.e] := elems1 x.e
      unfold ptr
      simp only [List.head?_cons, Option.map_some]
      clear hn HN HE
      go_wp2_with (at_builtin; refine wpList_append_rows (F := enShape) _ rfl _ _ 23 rfl w.heap.size 44 i0 _ 48 Try.underlying23 hi hz0 hz1 hz2 rfl _ a.length (a.map Nd.e) rfl (World.ownsRow.alloc HO.out _) (some ⟨wr.heap.size, 0, none⟩) 1 1 [x.e] rfl (by simp) rfl helm ?c1 ?c2 ?c3 ?_)
      case c1 => unfold maxLen; omega
      case c2 => omega
      case c3 => simp; omega
      intro v5 w5 hown5 hgrow5 hat5
      have HB5 : Hid (Below w.heap.size w w5) := (HB.out.alloc hbs _).grown hgrow5 (by simp; omega) (fun k hk => (World.ownsRow.lt HO.out k hk).1)
      have HO5 : Hid (w5.ownsRow w.heap.size 44 4 v5 (a ++ [x]).length (enShape.vals ((a ++ [x]).map Nd.e))) := by rw [List.length_append, List.map_append]; exact hown5
      obtain ⟨hn5, _, _⟩ := HNw.out w5 HB5.out
      obtain ⟨len5, d4, hlen5, _, _, hcell5⟩ := hn5.pos
      have dn := hcell5 0 (by omega)
      rw [first_zero hc1] at dn
      have hl5 : (0 : Int) < (len5 : Int) := by omega
      unfold Nd.pos at d4 dn
      unfold ptr at dn
      simp only [Nat.zero_add] at d4 dn
      clear hown5 hgrow5 hat5 hn5 hcell5 HNw HO HB z0 z1 z2 z3 helm
      go_wp2
      go_roundg c.length
      case measure => simp at hcg; omega
      case rel => exact ⟨a ++ [x], c, HEn, rfl, rfl, HO5, HB5⟩

/-- A table's lists. -/
theorem allS {S : Nat → Prop} {b : Nat} {vs : List En} (w : World) (h : Tab w S b vs) (hl : vs.length ≤ 1000000000000) :
    Calls Try.prog 10 #[.pointer (some ⟨b, 0, none⟩)] w fun e w' => ∃ v, e = .returned v ∧ w'.ownsRow w.heap.size 44 4 v vs.length (enShape.vals vs) ∧ Below w.heap.size w w' := by
  obtain ⟨hb, turn, hv, hs, ns, h1, rfl, h3, h4, h5⟩ := h
  have HB : Hid _ := behind_any ⟨b, 2, hb⟩ 8 ns w (h1.skip.pos h1.tab (a := []) (c := ns) rfl) (by decide) h1.skip.chain h3 (by simpa using hl)
  unfold Pos.val at HB
  rw [List.length_map]
  clear h1 h3 h4 h5 hl
  go_enter Try.func10, Try.ntmps10
  go_wp2_with fail
  refine (show Calls _ _ _ _ _ from HB.out).mono ?_
  rintro r w1 ⟨v, rfl, ho, hb1⟩
  go_wp2
  go_ret
  exact ⟨v, rfl, ho, hb1⟩
set_option maxRecDepth 100000 in
theorem fromS {S : Nat → Prop} {b : Nat} {vs : List En} (k : ByteArray) (w : World) (h : Tab w S b vs) (hl : vs.length ≤ 1000000000000) :
    Calls Try.prog 19 #[.pointer (some ⟨b, 0, none⟩), .string k] w fun e w' => ∃ v, e = .returned v ∧ w'.ownsRow w.heap.size 44 4 v (fromE vs k).length (enShape.vals (fromE vs k)) ∧ Below w.heap.size w w' := by
  obtain ⟨hb, turn, hv, hs, ns, h1, rfl, h3, h4, h5⟩ := h
  have hmap : (postN ns k 9223372036854775807).map Nd.e = fromE (ns.map Nd.e) k := by rw [postN_map, post_max h5]
  have hlen : (postN ns k 9223372036854775807).length = (fromE (ns.map Nd.e) k).length := by rw [← hmap, List.length_map]
  have hle : (postN ns k 9223372036854775807).length ≤ 1000000000000 := by
    have := congrArg List.length (preN_postN ns k 9223372036854775807)
    simp at this hl
    omega
  have HF : Hid _ := find_any (S := S) k 9223372036854775807 w h1.tab h1.skip h4
  have hpos : ∀ w1, Below w.heap.size w w1 → ∃ hh, 1 ≤ hh ∧ PosAt w1 (lastAt 0 ⟨b, 2, hb⟩ (preN ns k 9223372036854775807)) hh (postN ns k 9223372036854775807) ∧ Chain w1 [] (postN ns k 9223372036854775807) := fun w1 hb1 => by
    have hP := h1.below hb1
    have hch := hP.skip.chain
    rw [preN_postN ns k 9223372036854775807, Chain.append] at hch
    rcases List.eq_nil_or_concat (preN ns k 9223372036854775807) with e | ⟨a, x, e⟩
    · have := hP.skip.pos hP.tab (a := []) (c := ns) rfl
      rw [preN_postN ns k 9223372036854775807, e] at this
      refine ⟨8, by decide, ?_, hch.2⟩
      rw [e]; exact this
    · rw [List.concat_eq_append] at e
      have hx : 1 ≤ x.h := h3 x (by rw [preN_postN ns k 9223372036854775807, e]; simp)
      have hn := hP.skip.node (a := a) (x := x) (c := postN ns k 9223372036854775807) (by have := preN_postN ns k 9223372036854775807; rw [e] at this; simpa using this)
      refine ⟨x.h, hx, ?_, hch.2⟩
      rw [e, lastAt_snoc (by omega)]
      exact hn.pos
  have HB : Hid (∀ w1, Below w.heap.size w w1 → Calls Try.prog 39 #[(lastAt 0 ⟨b, 2, hb⟩ (preN ns k 9223372036854775807)).val] w1 fun e w' => ∃ v, e = .returned v ∧ w'.ownsRow w.heap.size 44 4 v (fromE (ns.map Nd.e) k).length (enShape.vals (fromE (ns.map Nd.e) k)) ∧ Below w.heap.size w w') := fun w1 hb1 => by
    obtain ⟨hh, q1, q2, q3⟩ := hpos w1 hb1
    refine (behind_any _ hh _ w1 q2 q1 q3 (fun x hx => h3 x (by rw [preN_postN ns k 9223372036854775807]; exact List.mem_append.2 (.inr hx))) hle).mono ?_
    rintro r w2 ⟨v, rfl, ho, hb2⟩
    rw [hmap, hlen] at ho
    have hs := hb1.size
    exact ⟨v, rfl, Joins.ownsRow_le ho hs, hb1.trans (hb2.mono hs)⟩
  unfold wayV Pos.val at HF
  unfold Pos.val at HB
  clear h1 h3 h4 h5 hl hpos hmap hlen hle
  generalize lastAt 0 ⟨b, 2, hb⟩ (preN ns k 9223372036854775807) = L0 at *
  have hix := idx_way
  go_enter Try.func19, Try.ntmps19
  go_wp2_with fail
  refine (show Calls _ _ _ _ _ from HF.out).mono ?_
  rintro r w1 ⟨rfl, hb1⟩
  go_wp2_with fail
  refine (show Calls _ _ _ _ _ from HB.out w1 hb1).mono ?_
  rintro r w2 ⟨v, rfl, ho, hb2⟩
  go_wp2
  go_ret
  exact ⟨v, rfl, ho, hb2⟩
end Go.Proofs.Ytedjohkdfchocaa.Mm

/-
  Package mem: versions added, a version found.
-/
namespace Go.Proofs.Ytedjohkdfchocaa.Mm
open Go.RowKit Cm
set_option linter.unusedVariables false

theorem putS {S : Nat → Prop} {b : Nat} {vs : List En} (y : En) (w : World) (h : Tab w S b vs) (hS : ∀ k, w.heap.size ≤ k → S k) (hy : y.ok) (hl : vs.length ≤ 100000000000) (hm : bytesE vs ≤ 100000000000) (hz : sizeE y ≤ 100000000000) :
    Calls Try.prog 31 #[.pointer (some ⟨b, 0, none⟩), env y] w fun r w' => r = .returned (.tuple #[]) ∧ Tab w' S b (putOne vs y) ∧ Chg S w w' := by
  obtain ⟨hb, turn, hv, hs, ns, h1, rfl, h3, h4, h5⟩ := h
  rw [List.length_map] at h1 hl
  refine (put_walk S b hb turn hv hs ns y w h1 h4 h3 hS hl hm hz).mono ?_
  rintro r w' ⟨rfl, ⟨n', m', turn', ns', q1, q2, rfl, rfl, q5⟩, q6⟩
  refine ⟨rfl, ⟨hb, turn', hv, hs, ns', ?_, q2, q5, h4.put y, h5.put hy⟩, q6⟩
  rw [← q2, List.length_map]
  exact q1

set_option maxRecDepth 100000 in
set_option maxHeartbeats 1000000 in
theorem addS {S : Nat → Prop} {b : Nat} {vs : List En} (ao : Option Addr) (cap : Nat) (xs : List En) (w : World) (h : Tab w S b vs) (hS : ∀ k, w.heap.size ≤ k → S k) (hx : ElemsAt enShape w ao xs) (hap : xs ≠ [] → ∀ ad, ao = some ad → ¬ S ad.block) (hok : AllOk xs)
    (hl : vs.length + xs.length ≤ 100000000000) (hm : bytesE vs + bytesE xs ≤ 100000000000) :
    Calls Try.prog 8 #[.pointer (some ⟨b, 0, none⟩), .slice ao xs.length cap] w fun r w' => r = .returned (.tuple #[]) ∧ Tab w' S b (addAll vs xs) ∧ Chg S w w' := by
  have HX : Hid (∀ wr, Chg S w wr → ElemsAt enShape wr ao xs) := fun wr hc => by
    by_cases h0 : xs = []
    · exact .inl h0
    · exact hx.keep (fun a e hlt => hc.block _ hlt (hap h0 a e)) hc.size
  have hxl : xs.length ≤ 100000000000 := by omega
  have HT : Hid (Tab w S b vs) := h
  have HP : Hid (∀ wr k, k < xs.length → Chg S w wr → Tab wr S b (addAll vs (xs.take k)) → Calls Try.prog 31 #[.pointer (some ⟨b, 0, none⟩), env (clean (xs.getD k En.zero))] wr fun r w' => r = .returned (.tuple #[]) ∧ Tab w' S b (addAll vs (xs.take (k + 1))) ∧ Chg S wr w') := fun wr k hk hc ht => by
    have hl1 := addAll_len vs (xs.take k)
    have hb1 := bytes_at hk
    have hz := sizeE_clean (xs.getD k En.zero)
    have hle : (xs.take k).length ≤ xs.length := by rw [List.length_take]; omega
    have := putS (clean (xs.getD k En.zero)) wr ht (fun j hj => hS j (Nat.le_trans hc.size hj)) (clean_ok (hok _ (by rw [getD_lt _ _ _ hk]; exact List.getElem_mem hk))) (by omega) (by omega) (by omega)
    rw [putOne_clean, ← addAll_snoc, ← take_at hk] at this
    exact this
  have HO : Hid (∀ wr k, k < xs.length → Calls Try.prog 32 #[env (xs.getD k En.zero)] wr fun r w' => r = .returned (env (clean (xs.getD k En.zero))) ∧ Below wr.heap.size wr w') := fun wr k hk => own_any _ wr (by have := bytes_at hk; omega)
  clear h hx hap hok hl hm
  unfold env at HP HO
  go_enter Try.func8, Try.ntmps8
  go_wp2
  go_loopw [8] (fun i wr => ∃ k : Nat, k ≤ xs.length ∧ i = .int .i64 k ∧ Hid (Tab wr S b (addAll vs (xs.take k))) ∧ Hid (Chg S w wr)) (fun i _ => xs.length - (intOf i).toNat)
  case atStart => exact ⟨0, by omega, rfl, HT, Chg.refl _ _⟩
  case round =>
    obtain ⟨k, hk, rfl, HTk, HC⟩ := hrel
    by_cases hlt : k < xs.length
    · obtain ⟨pb, off, rfl, c0, c1, c2, c3⟩ := elem_cells (HX.out wr HC.out) hlt
      have HPk : Hid (∀ wq, Below wr.heap.size wr wq → _) := fun wq hq => HP.out wq k hlt (HC.out.then (Chg.of_below hq)) (Tab.below HTk.out hq)
      have HOk : Hid (∀ wq, _) := fun wq => HO.out wq k hlt
      have HCk : Hid (∀ wq wz, Below wr.heap.size wr wq → Chg S wq wz → Chg S w wz) := fun wq wz h1 h2 => (HC.out.then (Chg.of_below h1)).then h2
      generalize xs.getD k En.zero = y at *
      generalize clean y = y' at *
      have hk0 : (0 : Int) ≤ (k : Int) := by omega
      have hk1 : (k : Int) < (xs.length : Int) := by omega
      clear HP HO HTk HC
      go_wp2_with fail
      refine (show Calls _ _ _ _ _ from HOk.out _).mono ?_
      rintro r w2 ⟨rfl, hb2⟩
      have hbq : Below wr.heap.size wr w2 := ((Below.refl _ _).alloc (Nat.le_refl _) _).trans (hb2.mono (by simp))
      have HPq : Hid _ := HPk.out w2 hbq
      have HCq : Hid (∀ wz, Chg S w2 wz → Chg S w wz) := fun wz hz => HCk.out w2 wz hbq hz
      clear hb2 hbq HPk HCk HOk
      go_wp2_with fail
      refine (show Calls _ _ _ _ _ from HPq.out).mono ?_
      rintro r w3 ⟨rfl, ht3, hc3⟩
      have HT3 : Hid _ := ht3
      have HC3 : Hid _ := HCq.out w3 hc3
      clear ht3 hc3 HPq HCq
      go_wp2
      go_roundw
      case rel => exact ⟨k + 1, by omega, by go_num, HT3, HC3⟩
      case measure => simp [intOf]; omega
    · obtain rfl : k = xs.length := by omega
      rw [List.take_length] at HTk
      go_wp2
      go_end0
      exact ⟨rfl, HTk.out, HC.out⟩
def foundV (o : Option En) : Value := .tuple #[env (o.getD En.zero), .bool o.isSome]
set_option maxRecDepth 100000 in
set_option maxHeartbeats 1000000 in
theorem getS {S : Nat → Prop} {b : Nat} {vs : List En} (k : ByteArray) (s : Int) (w : World) (h : Tab w S b vs) :
    Calls Try.prog 17 #[.pointer (some ⟨b, 0, none⟩), .string k, .int .i64 s] w fun r w' => r = .returned (foundV (getE vs k s)) ∧ Below w.heap.size w w' := by
  rw [← getP_eq h.sorted]
  obtain ⟨hb, turn, hv, hs, ns, h1, rfl, h3, h4, h5⟩ := h
  have hP1 := h1.below ((Below.refl _ _).alloc (Nat.le_refl _) (entObj En.zero))
  have HF : Hid _ := find_any (S := S) k s (w.alloc (entObj En.zero)) hP1.tab hP1.skip h4
  have HX : Hid (∀ w1, Below (w.alloc (entObj En.zero)).heap.size (w.alloc (entObj En.zero)) w1 → w1.heap[w.heap.size]? = some (entObj En.zero) ∧ (∃ l2, w1.cell? ⟨(lastAt 0 ⟨b, 2, hb⟩ (preN ns k s)).blk, (lastAt 0 ⟨b, 2, hb⟩ (preN ns k s)).off + 4, none⟩ = some (.slice (some ⟨(lastAt 0 ⟨b, 2, hb⟩ (preN ns k s)).nb, 0, none⟩) l2 l2) ∧ 0 < l2) ∧
      w1.cell? ⟨(lastAt 0 ⟨b, 2, hb⟩ (preN ns k s)).nb, 0, none⟩ = some (ptr (postN ns k s).head?) ∧ ∀ z r, postN ns k s = z :: r → w1.cell? ⟨z.blk, 0, none⟩ = some (.string z.e.key) ∧ w1.cell? ⟨z.blk, 1, none⟩ = some (.int .i64 z.e.seq) ∧ w1.cell? ⟨z.blk, 2, none⟩ = some (.bool z.e.dead) ∧ w1.cell? ⟨z.blk, 3, none⟩ = some (.string z.e.val)) := fun w1 hb1 => by
    have hP := hP1.below hb1
    have hsk := hP.skip
    rw [preN_postN ns k s] at hsk
    obtain ⟨l2, q1, q2, _⟩ := hsk.last hP.tab (k := 0) (by decide)
    have q3 := hsk.next hP.tab (k := 0) (by decide)
    rw [first_zero fun x hx => h3 x (by rw [preN_postN ns k s]; exact List.mem_append.2 (.inr hx))] at q3
    refine ⟨(hb1.block _ (by simp)).trans (heap_alloc_new w _), ⟨l2, q1, q2⟩, q3, fun z r e => ?_⟩
    rw [e] at hsk
    obtain ⟨z0, z1, z2, z3, _⟩ := (hsk.node (a := preN ns k s) (x := z) (c := r) rfl).cells
    exact ⟨z0, z1, z2, z3⟩
  have HG : Hid (getP (ns.map Nd.e) k s = match postN ns k s with | [] => none | z :: _ => if z.e.key = k then some z.e else none) := by
    show _ = _
    unfold getP
    rw [← postN_map]
    cases postN ns k s <;> rfl
  unfold wayV entObj En.zero Pos.val at HF
  unfold entObj En.zero at HX
  have hix := idx_way
  have HBe : Hid (∀ w1 v0 v1 v2 v3, Below (w.alloc (.cells #[.string ⟨#[]⟩, .int .i64 0, .bool false, .string ⟨#[]⟩] 44)).heap.size (w.alloc (.cells #[.string ⟨#[]⟩, .int .i64 0, .bool false, .string ⟨#[]⟩] 44)) w1 → Below w.heap.size w ((((w1.setCell ⟨w.heap.size, 0, none⟩ v0).setCell ⟨w.heap.size, 1, none⟩ v1).setCell ⟨w.heap.size, 2, none⟩ v2).setCell ⟨w.heap.size, 3, none⟩ v3)) := fun w1 v0 v1 v2 v3 hb1 =>
    ((((((Below.refl _ _).alloc (Nat.le_refl _) _).trans (hb1.mono (by simp))).setCell (by simp) _).setCell (by simp) _).setCell (by simp) _).setCell (by simp) _
  clear h1 hP1 h3 h4 h5
  generalize lastAt 0 ⟨b, 2, hb⟩ (preN ns k s) = L0 at *
  generalize getP (ns.map Nd.e) k s = G at *
  cases hq : postN ns k s with
  | nil =>
    rw [hq] at HX HG
    have hG : G = none := HG.out
    subst hG
    go_enter Try.func17, Try.ntmps17
    go_wp2_with fail
    refine (show Calls _ _ _ _ _ from HF.out).mono ?_
    rintro r1 w1 ⟨rfl, hb1⟩
    obtain ⟨hbx, ⟨l2, y2, y3⟩, y4, y5⟩ := HX.out w1 hb1
    have hl2 : (0 : Int) < (l2 : Int) := by omega
    obtain ⟨b0, b1, b2, b3, bf⟩ := ent_cells (e := En.zero) hbx
    unfold En.zero at b0 b1 b2 b3
    have f0 := bf 0
    have f1 := bf 1
    have f2 := bf 2
    have f3 := bf 3
    obtain ⟨g0, g1, g2, g3⟩ := ent_set (e := En.zero) hbx ⟨#[]⟩ 0 false ⟨#[]⟩
    have HBq : Hid _ := HBe.out w1 (.string ⟨#[]⟩) (.int .i64 0) (.bool false) (.string ⟨#[]⟩) hb1
    unfold ptr at y4
    simp only [List.head?_nil, Option.map_none] at y4
    clear HX HF HBe hbx hb1 bf y5 hq HG
    go_wp2
    refine bodyPost_ret (by simp [results, Try.results17, go_sem, g0, g1, g2, g3]; try rfl) rfl ?_
    exact ⟨by rfl, HBq.out⟩
  | cons z r =>
    rw [hq] at HX HG
    have hbk := beq_toList z.e.key k
    by_cases hk : z.e.key = k
    · have hG : G = some z.e := by have := HG.out; simpa [hk] using this
      subst hG
      rw [decide_eq_true hk] at hbk
      go_enter Try.func17, Try.ntmps17
      go_wp2_with fail
      refine (show Calls _ _ _ _ _ from HF.out).mono ?_
      rintro r1 w1 ⟨rfl, hb1⟩
      obtain ⟨hbx, ⟨l2, y2, y3⟩, y4, y5⟩ := HX.out w1 hb1
      have hl2 : (0 : Int) < (l2 : Int) := by omega
      obtain ⟨b0, b1, b2, b3, bf⟩ := ent_cells (e := En.zero) hbx
      unfold En.zero at b0 b1 b2 b3
      have f0 := bf 0
      have f1 := bf 1
      have f2 := bf 2
      have f3 := bf 3
      obtain ⟨g0, g1, g2, g3⟩ := ent_set (e := En.zero) hbx z.e.key z.e.seq z.e.dead z.e.val
      have HBq : Hid _ := HBe.out w1 (.string z.e.key) (.int .i64 z.e.seq) (.bool z.e.dead) (.string z.e.val) hb1
      unfold ptr at y4
      simp only [List.head?_cons, Option.map_some] at y4
      obtain ⟨z0, z1, z2, z3⟩ := y5 z r rfl
      clear HX HF HBe hbx hb1 bf y5 hq HG hk
      go_wp2
      refine bodyPost_ret (by simp [results, Try.results17, go_sem, g0, g1, g2, g3]; try rfl) rfl ?_
      exact ⟨by rfl, HBq.out⟩
    · have hG : G = none := by have := HG.out; simpa [hk] using this
      subst hG
      rw [decide_eq_false hk] at hbk
      go_enter Try.func17, Try.ntmps17
      go_wp2_with fail
      refine (show Calls _ _ _ _ _ from HF.out).mono ?_
      rintro r1 w1 ⟨rfl, hb1⟩
      obtain ⟨hbx, ⟨l2, y2, y3⟩, y4, y5⟩ := HX.out w1 hb1
      have hl2 : (0 : Int) < (l2 : Int) := by omega
      obtain ⟨b0, b1, b2, b3, bf⟩ := ent_cells (e := En.zero) hbx
      unfold En.zero at b0 b1 b2 b3
      have f0 := bf 0
      have f1 := bf 1
      have f2 := bf 2
      have f3 := bf 3
      obtain ⟨g0, g1, g2, g3⟩ := ent_set (e := En.zero) hbx ⟨#[]⟩ 0 false ⟨#[]⟩
      have HBq : Hid _ := HBe.out w1 (.string ⟨#[]⟩) (.int .i64 0) (.bool false) (.string ⟨#[]⟩) hb1
      unfold ptr at y4
      simp only [List.head?_cons, Option.map_some] at y4
      obtain ⟨z0, z1, z2, z3⟩ := y5 z r rfl
      clear HX HF HBe hbx hb1 bf y5 hq HG hk
      go_wp2
      refine bodyPost_ret (by simp [results, Try.results17, go_sem, g0, g1, g2, g3]; try rfl) rfl ?_
      exact ⟨by rfl, HBq.out⟩
end Go.Proofs.Ytedjohkdfchocaa.Mm

/-
  Package mem: a new table.
-/
namespace Go.Proofs.Ytedjohkdfchocaa.Mm
open Go.RowKit Cm
set_option linter.unusedVariables false

theorem infoInt : (Try.prog.info? 3).map (fun i => (i.zero, i.size, i.bytes)) = some (some (.int .i64 0), 1, 8) := by kernel_rfl
def nilLinks : Array Value := #[.pointer none, .pointer none, .pointer none, .pointer none, .pointer none, .pointer none, .pointer none, .pointer none]
theorem make8 (W : World) : (Instr.makeSlice 45 (.int .i64 8) (.int .i64 8)).run Try.prog W = .ok (.slice (some ⟨W.heap.size, 0, none⟩) 8 8) (W.alloc (.cells nilLinks 88)) := by
  obtain ⟨i, hi, hz, hsz, hby⟩ := info_parts infoPN
  have := run_make (P := Try.prog) W 45 88 i (.pointer none) Try.underlying45 hi hz .i64 .i64 8 8 (by omega) (Int.le_refl _) (by rw [hby]; omega) (by omega)
  rw [this, hsz, show madeCells (Value.pointer none).cells ((8 : Int).toNat * 1) = nilLinks by kernel_rfl]
  rfl
theorem own_form1 {w : World} {B n : Nat} {e : TypeId} {v : Value} {vs : List Value} (h : w.ownsRow B e 1 v n vs) (hn : 0 < n) : ∃ g cap, v = .slice (some ⟨g, 0, none⟩) n cap ∧ B ≤ g ∧ g < w.heap.size := by
  rcases h.2 with ⟨rfl, h0⟩ | ⟨g, cap, cur, rfl, hB, hg, _⟩
  · omega
  · exact ⟨g, cap, rfl, hB, lt_of_block hg⟩
theorem cellsI1 {w : World} (k : Int) : CellsAt (w.alloc (.cells #[.int .i64 k] 3)) (some ⟨w.heap.size, 0, none⟩) [.int .i64 k] := .inr ⟨w.heap.size, 0, rfl, by simp, fun j hj => by
    obtain rfl : j = 0 := (by simpa using hj)
    rw [Joins.cell_of_block (heap_alloc_new w _)]; rfl⟩
/-- A table that is being made. -/
structure Made (w : World) (hv : Value) (hs : List Int) (X : World) : Prop where
  tab : X.heap[w.heap.size + 1]? = some (tabObj 0 0 w.heap.size hv 0)
  links : X.heap[w.heap.size]? = some (.cells nilLinks 88 (0, 0))
  row : X.ownsRow (w.heap.size + 2) 3 1 hv hs.length (hs.map (Value.int .i64))
  bel : Below w.heap.size w X
  ok : ∀ h ∈ hs, 1 ≤ h ∧ h ≤ 8
theorem Made.tabS {w X : World} {hv : Value} {hs : List Int} (h : Made w hv hs X) (hn : 0 < hs.length) (hl : hs.length ≤ 1000000000000) : Tab X (fun k => w.heap.size ≤ k) (w.heap.size + 1) [] := by
  refine ⟨w.heap.size, 0, hv, hs, [], ⟨h.tab, by show _ ≤ _; omega, ⟨⟨nilLinks, h.links, rfl, Nat.le_refl _, fun l hl => ?_⟩, trivial, List.nodup_nil, by simp, fun n hn => (by simp at hn), fun n hn => (by simp at hn), Nat.le_refl _⟩, ⟨Joins.ownsRow_le h.row (Nat.zero_le _), fun k hk => by have := (h.row.lt k hk).1; show _ ≤ _; omega, hn, hl, h.ok⟩⟩, rfl, (fun x hx => by simp at hx), sorted_nil, (fun e he => by simp at he)⟩
  have : l = 0 ∨ l = 1 ∨ l = 2 ∨ l = 3 ∨ l = 4 ∨ l = 5 ∨ l = 6 ∨ l = 7 := by omega
  rcases this with rfl | rfl | rfl | rfl | rfl | rfl | rfl | rfl <;> rfl
theorem Made.start (w : World) : Made w (.slice none 0 0) [] ((w.alloc (.cells nilLinks 88)).alloc (tabObj 0 0 w.heap.size (.slice none 0 0) 0)) := by
  refine ⟨?_, by rw [Below.heap_alloc _ _ _ (by simp)]; exact heap_alloc_new w _, World.ownsRow_nil _ _ _ _, ((Below.refl _ _).alloc (Nat.le_refl _) _).alloc (by simp) _, fun h hh => by simp at hh⟩
  have := heap_alloc_new (w.alloc (.cells nilLinks 88)) (tabObj 0 0 w.heap.size (.slice none 0 0) 0)
  simpa using this
/-- One height more. -/
theorem Made.more {w X Y : World} {hv hv' : Value} {hs : List Int} {x : Int} (h : Made w hv hs X) (hrow : Y.ownsRow (w.heap.size + 2) 3 1 hv' (hs.length + 1) (hs.map (Value.int .i64) ++ [.int .i64 x])) (hk : ∀ k, k < w.heap.size + 2 → Y.heap[k]? = X.heap[k]?) (hb : Below w.heap.size w Y) (hx : 1 ≤ x ∧ x ≤ 8) : Made w hv' (hs ++ [x]) (Y.setCell ⟨w.heap.size + 1, 7, none⟩ hv') := by
  have ht := (hk (w.heap.size + 1) (by omega)).trans h.tab
  refine ⟨?_, ?_, ?_, hb.setCell (by simp) _, fun z hz => ?_⟩
  · rw [Joins.block_setCell (show Y.heap[w.heap.size + 1]? = some (.cells _ _ _) from ht)]; rfl
  · rw [Below.heap_setCell _ _ _ _ (by simp), hk _ (by omega)]; exact h.links
  · rw [List.length_append, List.map_append]
    exact own_keep hrow fun k hk2 => Below.heap_setCell _ _ _ _ (by have := (hrow.lt k hk2).1; simp; omega)
  · rcases List.mem_append.1 hz with hz | hz
    · exact h.ok z hz
    · simp at hz; subst hz; exact hx

theorem hgt_ok (x : Int) : 1 ≤ wrap64 (1 + wrap64 ((IntKind.u64.wrap x).tmod 8)) ∧ wrap64 (1 + wrap64 ((IntKind.u64.wrap x).tmod 8)) ≤ 8 := by
  have h0 : 0 ≤ IntKind.u64.wrap x := by simp [IntKind.wrap, IntKind.bits, IntKind.signed]; omega
  have h1 : (IntKind.u64.wrap x).tmod 8 = IntKind.u64.wrap x % 8 := Int.tmod_eq_emod_of_nonneg h0
  rw [h1]
  generalize IntKind.u64.wrap x = y at *
  unfold wrap64
  omega
theorem own_lit1 (w : World) (B : Nat) (h : B ≤ w.heap.size) (x : Int) : (w.alloc (.cells #[.int .i64 x] 3)).ownsRow B 3 1 (.slice (some ⟨w.heap.size, 0, none⟩) 1 1) 1 [.int .i64 x] :=
  ⟨by simp, .inr ⟨w.heap.size, 1, #[.int .i64 x], rfl, h, heap_alloc_new w _, by simp, by simp [maxLen], by simp, by simp⟩⟩
set_option maxRecDepth 100000 in
set_option maxHeartbeats 1000000 in
theorem newS (ao : Option Addr) (cap : Nat) (hs : List Int) (w : World) (hc : CellsAt w ao (hs.map (Value.int .i64))) (hok : ∀ h ∈ hs, -9223372036854775808 ≤ h ∧ h ≤ 9223372036854775807) (hl : hs.length ≤ 1000000000000) :
    Calls Try.prog 7 #[.slice ao hs.length cap] w fun r w' => r = .returned (.pointer (some ⟨w.heap.size + 1, 0, none⟩)) ∧ Tab w' (fun k => w.heap.size ≤ k) (w.heap.size + 1) [] ∧ Below w.heap.size w w' := by
  obtain ⟨i0, hi, hz0, hz1, hz2⟩ := info_parts infoInt
  have HM : Hid _ := Made.start w
  have HC : Hid (∀ wr, Below w.heap.size w wr → CellsAt wr ao (hs.map (Value.int .i64))) := fun wr hb => hc.below hb
  have hmk := make8
  unfold tabObj at HM
  clear hc
  go_enter Try.func7, Try.ntmps7
  go_wp2
  go_loopw [12] (fun i wr => ∃ (k : Nat) (hv : Value) (xs : List Int), k ≤ hs.length ∧ i = .int .i64 k ∧ xs.length = k ∧ Hid (Made w hv xs wr)) (fun i _ => hs.length - (intOf i).toNat)
  case atStart => exact ⟨0, _, [], by omega, rfl, rfl, HM⟩
  case round =>
    obtain ⟨k, hv, xs, hk, rfl, hxl, HMk⟩ := hrel
    subst hxl
    obtain ⟨hao, hcap, rfl⟩ : ∃ a c, hv = .slice a xs.length c := by
      rcases HMk.out.row.2 with ⟨e, e2⟩ | ⟨g, c, cur, e, _⟩
      · rw [e2]; exact ⟨_, _, e⟩
      · exact ⟨_, _, e⟩
    by_cases hlt : xs.length < hs.length
    · have hx : (hs.map (Value.int .i64))[xs.length]? = some (.int .i64 (hs.getD xs.length 0)) := by simp [hlt]
      have hmem : hs.getD xs.length 0 ∈ hs := by rw [getD_lt _ _ _ hlt]; exact List.getElem_mem hlt
      obtain ⟨lo, hi'⟩ := hok _ hmem
      rcases HC.out wr HMk.out.bel with h0 | ⟨pb, off, rfl, hbl, hcells⟩
      · have : hs.length = 0 := by have := congrArg List.length h0; simpa using this
        omega
      have hck := hcells xs.length (by simpa using hlt)
      rw [hx] at hck
      generalize hs.getD xs.length 0 = x at *
      obtain ⟨_, _, c7, _, fz⟩ := tab_cells HMk.out.tab
      have f7 := fz 7
      have hbs := HMk.out.bel.size
      have hts := lt_of_block HMk.out.tab
      have hk0 : (0 : Int) ≤ (xs.length : Int) := by omega
      have hk1 : (xs.length : Int) < (hs.length : Int) := by omega
      clear hcells hx hmem hbl fz HM HC hmk
      go_wp2_with (at_builtin; refine wpList_append_any _ rfl _ _ 22 rfl (w.heap.size + 2) 3 i0 (.int .i64 0) 8 Try.underlying22 hi hz0 hz1 hz2 rfl (.slice hao xs.length hcap) xs.length (xs.map (Value.int .i64)) rfl (World.ownsRow.alloc HMk.out.row _) (some ⟨wr.heap.size, 0, none⟩) 1 1 _ rfl (by simp) rfl (cellsI1 _) ?c0 ?c1 ?c2 ?c3 ?_)
      case c0 => intro u hu; simp at hu; subst hu; rfl
      case c1 => unfold maxLen; omega
      case c2 => omega
      case c3 => simp; omega
      intro v5 w5 hown5 hgrow5 hat5
      have hE := hgt_ok x
      generalize wrap64 (1 + wrap64 ((IntKind.u64.wrap x).tmod 8)) = y at *
      obtain ⟨g5, c5, rfl, hg5, hgl5⟩ := own_form1 hown5 (by omega)
      have hk5 : ∀ j, j < w.heap.size + 2 → w5.heap[j]? = wr.heap[j]? := fun j hj => (hgrow5.block j (by simp; omega) (fun e => by have := (HMk.out.row.lt j e.symm).1; omega)).trans (Below.heap_alloc _ _ _ (by omega))
      have HB5 : Below w.heap.size w w5 := (HMk.out.bel.alloc hbs _).grown hgrow5 (by simp; omega) (fun k hk => by have := (HMk.out.row.lt k hk).1; omega)
      have HM5 : Hid _ := HMk.out.more hown5 hk5 HB5 hE
      obtain ⟨_, _, d7, _, dz⟩ := tab_cells ((hk5 (w.heap.size + 1) (by omega)).trans HMk.out.tab)
      have g7 := dz 7
      clear hown5 hgrow5 hat5 hk5 HB5 dz HMk c7 f7 hck
      go_wp2
      go_roundw
      case rel => exact ⟨xs.length + 1, _, xs ++ [y], by omega, by go_num, by simp, HM5⟩
      case measure => simp [intOf]; omega
    · obtain ⟨_, _, c7, _, fz⟩ := tab_cells HMk.out.tab
      have f7 := fz 7
      have hts := lt_of_block HMk.out.tab
      have hbs := HMk.out.bel.size
      by_cases h0 : xs = []
      · subst h0
        have HM5 : Hid (Made w (.slice (some ⟨wr.heap.size, 0, none⟩) 1 1) ([] ++ [1]) ((wr.alloc (.cells #[.int .i64 1] 3)).setCell ⟨w.heap.size + 1, 7, none⟩ (.slice (some ⟨wr.heap.size, 0, none⟩) 1 1))) :=
          HMk.out.more (own_lit1 wr (w.heap.size + 2) (by omega) 1) (fun j hj => Below.heap_alloc _ _ _ (by omega)) (HMk.out.bel.alloc hbs _) (by omega)
        have HR : Hid (Tab ((wr.alloc (.cells #[.int .i64 1] 3)).setCell ⟨w.heap.size + 1, 7, none⟩ (.slice (some ⟨wr.heap.size, 0, none⟩) 1 1)) (fun k => w.heap.size ≤ k) (w.heap.size + 1) [] ∧ Below w.heap.size w ((wr.alloc (.cells #[.int .i64 1] 3)).setCell ⟨w.heap.size + 1, 7, none⟩ (.slice (some ⟨wr.heap.size, 0, none⟩) 1 1))) := ⟨HM5.out.tabS (by simp) (by simp), HM5.out.bel⟩
        have e1 : ((wr.setCell ⟨w.heap.size + 1, 7, none⟩ (.slice (some ⟨wr.heap.size, 0, none⟩) 1 1)).alloc (.cells #[.int .i64 1] 3)) = ((wr.alloc (.cells #[.int .i64 1] 3)).setCell ⟨w.heap.size + 1, 7, none⟩ (.slice (some ⟨wr.heap.size, 0, none⟩) 1 1)) := (World.setCell_alloc_past _ _ _ _ hts).symm
        rw [← e1] at HR
        clear HM5 e1 HMk HM HC fz hok
        simp only [List.length_nil] at c7
        go_wp2
        go_ret
        exact ⟨rfl, HR.out⟩
      · have hpos : 0 < xs.length := List.length_pos_iff.2 h0
        have HR : Hid _ := And.intro (HMk.out.tabS hpos (by omega)) HMk.out.bel
        have hne : ((xs.length : Int) == 0) = false := by simp only [beq_eq_false_iff_ne, ne_eq]; omega
        clear HMk HM HC fz hok h0 hpos
        go_wp2
        go_ret
        exact ⟨rfl, HR.out⟩
end Go.Proofs.Ytedjohkdfchocaa.Mm
