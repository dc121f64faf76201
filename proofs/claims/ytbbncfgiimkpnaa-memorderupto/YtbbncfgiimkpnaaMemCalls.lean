/-
  Package mem: versions added, a version found.
-/
import Derived.Test.YtbbncfgiimkpnaaMemLists
namespace Go.Proofs.Ytbbncfgiimkpnaa.Mm
open Go.RowKit Cm
set_option linter.unusedVariables false

theorem putS {S : Nat → Prop} {b : Nat} {vs : List En} (y : En) (w : World) (h : Tab w S b vs) (hS : ∀ k, w.heap.size ≤ k → S k) (hy : y.ok) (hl : vs.length ≤ 100000000000) (hm : bytesE vs ≤ 100000000000) (hz : sizeE y ≤ 100000000000) :
    Calls Try.prog 21 #[.pointer (some ⟨b, 0, none⟩), env y] w fun r w' => r = .returned (.tuple #[]) ∧ Tab w' S b (putOne vs y) ∧ Chg S w w' := by
  obtain ⟨hb, turn, hv, hs, ns, h1, rfl, h3, h4, h5⟩ := h
  rw [List.length_map] at h1 hl
  refine (put_walk S b hb turn hv hs ns y w h1 h4 h3 hS hl hm hz).mono ?_
  rintro r w' ⟨rfl, ⟨n', m', turn', ns', q1, q2, rfl, rfl, q5⟩, q6⟩
  refine ⟨rfl, ⟨hb, turn', hv, hs, ns', ?_, q2, q5, h4.put y, h5.put hy⟩, q6⟩
  rw [← q2, List.length_map]
  exact q1
/-- The k-th of a slice of versions. -/
theorem elem_cells {w : World} {ao : Option Addr} {xs : List En} (h : ElemsAt enShape w ao xs) {k : Nat} (hk : k < xs.length) : ∃ pb off, ao = some ⟨pb, off, none⟩ ∧ w.cell? ⟨pb, off + k * 4, none⟩ = some (.string (xs.getD k En.zero).key) ∧ w.cell? ⟨pb, off + k * 4 + 1, none⟩ = some (.int .i64 (xs.getD k En.zero).seq) ∧
    w.cell? ⟨pb, off + k * 4 + 2, none⟩ = some (.bool (xs.getD k En.zero).dead) ∧ w.cell? ⟨pb, off + k * 4 + 3, none⟩ = some (.string (xs.getD k En.zero).val) := by
  rw [getD_lt _ _ _ hk]
  rcases h with rfl | ⟨pb, off, rfl, _, hc⟩
  · simp at hk
  · exact ⟨pb, off, rfl, hc k hk 0 _ rfl, hc k hk 1 _ rfl, hc k hk 2 _ rfl, hc k hk 3 _ rfl⟩
theorem take_at {xs : List En} {k : Nat} (h : k < xs.length) : xs.take (k + 1) = xs.take k ++ [xs.getD k En.zero] := by rw [getD_lt _ _ _ h]; exact List.take_succ_eq_append_getElem h
theorem bytes_take (xs : List En) (k : Nat) : bytesE (xs.take k) ≤ bytesE xs := by
  conv => rhs; rw [← List.take_append_drop k xs]
  rw [bytesE_append]; omega
theorem bytes_at {xs : List En} {k : Nat} (h : k < xs.length) : bytesE (xs.take k) + sizeE (xs.getD k En.zero) ≤ bytesE xs := by
  have := bytes_take xs (k + 1)
  rw [take_at h, bytesE_append, bytesE_cons] at this
  have h2 : bytesE [] = 0 := rfl
  omega

set_option maxRecDepth 100000 in
set_option maxHeartbeats 1000000 in
theorem addS {S : Nat → Prop} {b : Nat} {vs : List En} (ao : Option Addr) (cap : Nat) (xs : List En) (w : World) (h : Tab w S b vs) (hS : ∀ k, w.heap.size ≤ k → S k) (hx : ElemsAt enShape w ao xs) (hap : xs ≠ [] → ∀ ad, ao = some ad → ¬ S ad.block) (hok : AllOk xs)
    (hl : vs.length + xs.length ≤ 100000000000) (hm : bytesE vs + bytesE xs ≤ 100000000000) :
    Calls Try.prog 10 #[.pointer (some ⟨b, 0, none⟩), .slice ao xs.length cap] w fun r w' => r = .returned (.tuple #[]) ∧ Tab w' S b (addAll vs xs) ∧ Chg S w w' := by
  have HX : Hid (∀ wr, Chg S w wr → ElemsAt enShape wr ao xs) := fun wr hc => by
    by_cases h0 : xs = []
    · exact .inl h0
    · exact hx.keep (fun a e hlt => hc.block _ hlt (hap h0 a e)) hc.size
  have hxl : xs.length ≤ 100000000000 := by omega
  have HT : Hid (Tab w S b vs) := h
  have HP : Hid (∀ wr k, k < xs.length → Chg S w wr → Tab wr S b (addAll vs (xs.take k)) → Calls Try.prog 21 #[.pointer (some ⟨b, 0, none⟩), env (clean (xs.getD k En.zero))] wr fun r w' => r = .returned (.tuple #[]) ∧ Tab w' S b (addAll vs (xs.take (k + 1))) ∧ Chg S wr w') := fun wr k hk hc ht => by
    have hl1 := addAll_len vs (xs.take k)
    have hb1 := bytes_at hk
    have hz := sizeE_clean (xs.getD k En.zero)
    have hle : (xs.take k).length ≤ xs.length := by rw [List.length_take]; omega
    have := putS (clean (xs.getD k En.zero)) wr ht (fun j hj => hS j (Nat.le_trans hc.size hj)) (clean_ok (hok _ (by rw [getD_lt _ _ _ hk]; exact List.getElem_mem hk))) (by omega) (by omega) (by omega)
    rw [putOne_clean, ← addAll_snoc, ← take_at hk] at this
    exact this
  have HO : Hid (∀ wr k, k < xs.length → Calls Try.prog 22 #[env (xs.getD k En.zero)] wr fun r w' => r = .returned (env (clean (xs.getD k En.zero))) ∧ Below wr.heap.size wr w') := fun wr k hk => own_any _ wr (by have := bytes_at hk; omega)
  clear h hx hap hok hl hm
  unfold env at HP HO
  go_enter Try.func10, Try.ntmps10
  go_wp2
  go_loopw [8] (fun i wr => ∃ k : Nat, k ≤ xs.length ∧ i = .int .i64 k ∧ Hid (Tab wr S b (addAll vs (xs.take k))) ∧ Hid (Chg S w wr)) (fun i _ => xs.length - (intOf i).toNat)
  case atStart => exact ⟨0, by omega, rfl, HT, Chg.refl _ _⟩
  case round =>
    obtain ⟨k, hk, rfl, HTk, HC⟩ := hrel
    by_cases hlt : k < xs.length
    · obtain ⟨pb, off, rfl, c0, c1, c2, c3⟩ := elem_cells (HX.out wr HC.out) hlt
      have HPk : Hid (∀ wq, Below wr.heap.size wr wq → _) := fun wq hq => HP.out wq k hlt (HC.out.then (Chg.of_below hq)) (Tab.below HTk.out hq)
      have HOk : Hid (∀ wq, _) := fun wq => HO.out wq k hlt
      have HCk : Hid (∀ wq wz, Below wr.heap.size wr wq → Chg S wq wz → Chg S w wz) := fun wq wz h1 h2 => (HC.out.then (Chg.of_below h1)).then h2
      generalize xs.getD k En.zero = y at *
      generalize clean y = y' at *
      have hk0 : (0 : Int) ≤ (k : Int) := by omega
      have hk1 : (k : Int) < (xs.length : Int) := by omega
      clear HP HO HTk HC
      go_wp2_with fail
      refine (show Calls _ _ _ _ _ from HOk.out _).mono ?_
      rintro r w2 ⟨rfl, hb2⟩
      have hbq : Below wr.heap.size wr w2 := ((Below.refl _ _).alloc (Nat.le_refl _) _).trans (hb2.mono (by simp))
      have HPq : Hid _ := HPk.out w2 hbq
      have HCq : Hid (∀ wz, Chg S w2 wz → Chg S w wz) := fun wz hz => HCk.out w2 wz hbq hz
      clear hb2 hbq HPk HCk HOk
      go_wp2_with fail
      refine (show Calls _ _ _ _ _ from HPq.out).mono ?_
      rintro r w3 ⟨rfl, ht3, hc3⟩
      have HT3 : Hid _ := ht3
      have HC3 : Hid _ := HCq.out w3 hc3
      clear ht3 hc3 HPq HCq
      go_wp2
      go_roundw
      case rel => exact ⟨k + 1, by omega, by go_num, HT3, HC3⟩
      case measure => simp [intOf]; omega
    · obtain rfl : k = xs.length := by omega
      rw [List.take_length] at HTk
      go_wp2
      go_end0
      exact ⟨rfl, HTk.out, HC.out⟩
def foundV (o : Option En) : Value := .tuple #[env (o.getD En.zero), .bool o.isSome]
set_option maxRecDepth 100000 in
set_option maxHeartbeats 1000000 in
theorem getS {S : Nat → Prop} {b : Nat} {vs : List En} (k : ByteArray) (s : Int) (w : World) (h : Tab w S b vs) :
    Calls Try.prog 12 #[.pointer (some ⟨b, 0, none⟩), .string k, .int .i64 s] w fun r w' => r = .returned (foundV (getE vs k s)) ∧ Below w.heap.size w w' := by
  rw [← getP_eq h.sorted]
  obtain ⟨hb, turn, hv, hs, ns, h1, rfl, h3, h4, h5⟩ := h
  have hP1 := h1.below ((Below.refl _ _).alloc (Nat.le_refl _) (entObj En.zero))
  have HF : Hid _ := find_any (S := S) k s (w.alloc (entObj En.zero)) hP1.tab hP1.skip h4
  have HX : Hid (∀ w1, Below (w.alloc (entObj En.zero)).heap.size (w.alloc (entObj En.zero)) w1 → w1.heap[w.heap.size]? = some (entObj En.zero) ∧ (∃ l2, w1.cell? ⟨(lastAt 0 ⟨b, 2, hb⟩ (preN ns k s)).blk, (lastAt 0 ⟨b, 2, hb⟩ (preN ns k s)).off + 4, none⟩ = some (.slice (some ⟨(lastAt 0 ⟨b, 2, hb⟩ (preN ns k s)).nb, 0, none⟩) l2 l2) ∧ 0 < l2) ∧
      w1.cell? ⟨(lastAt 0 ⟨b, 2, hb⟩ (preN ns k s)).nb, 0, none⟩ = some (ptr (postN ns k s).head?) ∧ ∀ z r, postN ns k s = z :: r → w1.cell? ⟨z.blk, 0, none⟩ = some (.string z.e.key) ∧ w1.cell? ⟨z.blk, 1, none⟩ = some (.int .i64 z.e.seq) ∧ w1.cell? ⟨z.blk, 2, none⟩ = some (.bool z.e.dead) ∧ w1.cell? ⟨z.blk, 3, none⟩ = some (.string z.e.val)) := fun w1 hb1 => by
    have hP := hP1.below hb1
    have hsk := hP.skip
    rw [preN_postN ns k s] at hsk
    obtain ⟨l2, q1, q2, _⟩ := hsk.last hP.tab (k := 0) (by decide)
    have q3 := hsk.next hP.tab (k := 0) (by decide)
    rw [first_zero fun x hx => h3 x (by rw [preN_postN ns k s]; exact List.mem_append.2 (.inr hx))] at q3
    refine ⟨(hb1.block _ (by simp)).trans (heap_alloc_new w _), ⟨l2, q1, q2⟩, q3, fun z r e => ?_⟩
    rw [e] at hsk
    obtain ⟨z0, z1, z2, z3, _⟩ := (hsk.node (a := preN ns k s) (x := z) (c := r) rfl).cells
    exact ⟨z0, z1, z2, z3⟩
  have HG : Hid (getP (ns.map Nd.e) k s = match postN ns k s with | [] => none | z :: _ => if z.e.key = k then some z.e else none) := by
    show _ = _
    unfold getP
    rw [← postN_map]
    cases postN ns k s <;> rfl
  unfold wayV entObj En.zero Pos.val at HF
  unfold entObj En.zero at HX
  have hix := idx_way
  have HBe : Hid (∀ w1 v0 v1 v2 v3, Below (w.alloc (.cells #[.string ⟨#[]⟩, .int .i64 0, .bool false, .string ⟨#[]⟩] 31)).heap.size (w.alloc (.cells #[.string ⟨#[]⟩, .int .i64 0, .bool false, .string ⟨#[]⟩] 31)) w1 → Below w.heap.size w ((((w1.setCell ⟨w.heap.size, 0, none⟩ v0).setCell ⟨w.heap.size, 1, none⟩ v1).setCell ⟨w.heap.size, 2, none⟩ v2).setCell ⟨w.heap.size, 3, none⟩ v3)) := fun w1 v0 v1 v2 v3 hb1 =>
    ((((((Below.refl _ _).alloc (Nat.le_refl _) _).trans (hb1.mono (by simp))).setCell (by simp) _).setCell (by simp) _).setCell (by simp) _).setCell (by simp) _
  clear h1 hP1 h3 h4 h5
  generalize lastAt 0 ⟨b, 2, hb⟩ (preN ns k s) = L0 at *
  generalize getP (ns.map Nd.e) k s = G at *
  cases hq : postN ns k s with
  | nil =>
    rw [hq] at HX HG
    have hG : G = none := HG.out
    subst hG
    go_enter Try.func12, Try.ntmps12
    go_wp2_with fail
    refine (show Calls _ _ _ _ _ from HF.out).mono ?_
    rintro r1 w1 ⟨rfl, hb1⟩
    obtain ⟨hbx, ⟨l2, y2, y3⟩, y4, y5⟩ := HX.out w1 hb1
    have hl2 : (0 : Int) < (l2 : Int) := by omega
    obtain ⟨b0, b1, b2, b3, bf⟩ := ent_cells (e := En.zero) hbx
    unfold En.zero at b0 b1 b2 b3
    have f0 := bf 0
    have f1 := bf 1
    have f2 := bf 2
    have f3 := bf 3
    obtain ⟨g0, g1, g2, g3⟩ := ent_set (e := En.zero) hbx ⟨#[]⟩ 0 false ⟨#[]⟩
    have HBq : Hid _ := HBe.out w1 (.string ⟨#[]⟩) (.int .i64 0) (.bool false) (.string ⟨#[]⟩) hb1
    unfold ptr at y4
    simp only [List.head?_nil, Option.map_none] at y4
    clear HX HF HBe hbx hb1 bf y5 hq HG
    go_wp2
    refine bodyPost_ret (by simp [results, Try.results12, go_sem, g0, g1, g2, g3]; try rfl) rfl ?_
    exact ⟨by rfl, HBq.out⟩
  | cons z r =>
    rw [hq] at HX HG
    have hbk := beq_toList z.e.key k
    by_cases hk : z.e.key = k
    · have hG : G = some z.e := by have := HG.out; simpa [hk] using this
      subst hG
      rw [decide_eq_true hk] at hbk
      go_enter Try.func12, Try.ntmps12
      go_wp2_with fail
      refine (show Calls _ _ _ _ _ from HF.out).mono ?_
      rintro r1 w1 ⟨rfl, hb1⟩
      obtain ⟨hbx, ⟨l2, y2, y3⟩, y4, y5⟩ := HX.out w1 hb1
      have hl2 : (0 : Int) < (l2 : Int) := by omega
      obtain ⟨b0, b1, b2, b3, bf⟩ := ent_cells (e := En.zero) hbx
      unfold En.zero at b0 b1 b2 b3
      have f0 := bf 0
      have f1 := bf 1
      have f2 := bf 2
      have f3 := bf 3
      obtain ⟨g0, g1, g2, g3⟩ := ent_set (e := En.zero) hbx z.e.key z.e.seq z.e.dead z.e.val
      have HBq : Hid _ := HBe.out w1 (.string z.e.key) (.int .i64 z.e.seq) (.bool z.e.dead) (.string z.e.val) hb1
      unfold ptr at y4
      simp only [List.head?_cons, Option.map_some] at y4
      obtain ⟨z0, z1, z2, z3⟩ := y5 z r rfl
      clear HX HF HBe hbx hb1 bf y5 hq HG hk
      go_wp2
      refine bodyPost_ret (by simp [results, Try.results12, go_sem, g0, g1, g2, g3]; try rfl) rfl ?_
      exact ⟨by rfl, HBq.out⟩
    · have hG : G = none := by have := HG.out; simpa [hk] using this
      subst hG
      rw [decide_eq_false hk] at hbk
      go_enter Try.func12, Try.ntmps12
      go_wp2_with fail
      refine (show Calls _ _ _ _ _ from HF.out).mono ?_
      rintro r1 w1 ⟨rfl, hb1⟩
      obtain ⟨hbx, ⟨l2, y2, y3⟩, y4, y5⟩ := HX.out w1 hb1
      have hl2 : (0 : Int) < (l2 : Int) := by omega
      obtain ⟨b0, b1, b2, b3, bf⟩ := ent_cells (e := En.zero) hbx
      unfold En.zero at b0 b1 b2 b3
      have f0 := bf 0
      have f1 := bf 1
      have f2 := bf 2
      have f3 := bf 3
      obtain ⟨g0, g1, g2, g3⟩ := ent_set (e := En.zero) hbx ⟨#[]⟩ 0 false ⟨#[]⟩
      have HBq : Hid _ := HBe.out w1 (.string ⟨#[]⟩) (.int .i64 0) (.bool false) (.string ⟨#[]⟩) hb1
      unfold ptr at y4
      simp only [List.head?_cons, Option.map_some] at y4
      obtain ⟨z0, z1, z2, z3⟩ := y5 z r rfl
      clear HX HF HBe hbx hb1 bf y5 hq HG hk
      go_wp2
      refine bodyPost_ret (by simp [results, Try.results12, go_sem, g0, g1, g2, g3]; try rfl) rfl ?_
      exact ⟨by rfl, HBq.out⟩
end Go.Proofs.Ytbbncfgiimkpnaa.Mm
