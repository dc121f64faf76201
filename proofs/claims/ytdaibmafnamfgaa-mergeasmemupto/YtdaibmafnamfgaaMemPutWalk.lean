/-
  Package mem: the walk of 'put'.
-/
import Derived.Test.YtdaibmafnamfgaaMemPut
namespace Go.Proofs.Ytdaibmafnamfgaa.Mm
open Go.RowKit Cm
set_option linter.unusedVariables false

set_option maxRecDepth 100000 in
set_option maxHeartbeats 2000000 in
theorem put_walk (S : Nat → Prop) (b hb turn : Nat) (hv : Value) (hs : List Int) (ns : List Nd) (y : En) (w : World) (h : Parts w S b hb ns.length (bytesE (ns.map Nd.e)) turn hv hs ns) (hso : Sorted (ns.map Nd.e)) (hh1 : ∀ x ∈ ns, 1 ≤ x.h) (hS : ∀ k, w.heap.size ≤ k → S k)
    (hnb : ns.length ≤ 100000000000) (hmb : bytesE (ns.map Nd.e) ≤ 100000000000) (hy : sizeE y ≤ 100000000000) :
    Calls Try.prog 19 #[.pointer (some ⟨b, 0, none⟩), env y] w fun r w' => r = .returned (.tuple #[]) ∧ Ends w S b hb hv hs ns y w' := by
  have hP1 : Parts (w.alloc (entObj y)) S b hb ns.length (bytesE (ns.map Nd.e)) turn hv hs ns := h.below ((Below.refl _ _).alloc (Nat.le_refl _) _)
  have HF : Hid _ := find_any (S := S) y.key y.seq (w.alloc (entObj y)) hP1.tab hP1.skip hso
  have HFo : Hid (∀ w2, Below (w.alloc (entObj y)).heap.size (w.alloc (entObj y)) w2 → Found w S b hb ns.length (bytesE (ns.map Nd.e)) turn hv hs ns y w.heap.size w2.heap.size (w2.alloc (wayObj ⟨b, 2, hb⟩ (preN ns y.key y.seq)))) := fun w2 h2 => by
    have hb2 : Below (w.alloc (entObj y)).heap.size (w.alloc (entObj y)) (w2.alloc (wayObj ⟨b, 2, hb⟩ (preN ns y.key y.seq))) := h2.alloc h2.size _
    refine ⟨hP1.below hb2, (hb2.block _ (by simp)).trans (heap_alloc_new w _), heap_alloc_new w2 _, (Chg.alloc _ _ _).then (Chg.of_below hb2)⟩
  have HRa : Hid (∀ X g turn', Found w S b hb (ns.length + 1) (bytesE (ns.map Nd.e) + sizeE y) turn' hv hs ns y w.heap.size g X → (∀ z r, postN ns y.key y.seq = z :: r → ¬ (z.e.key = y.key ∧ z.e.seq = y.seq)) →
      Calls Try.prog 43 #[.pointer (some ⟨b, 0, none⟩), wayV ⟨b, 2, hb⟩ (preN ns y.key y.seq), env y] X fun r w' => r = .returned (.tuple #[]) ∧ Ends w S b hb hv hs ns y w') := fun X g turn' hX hno => by
    have hsk : Skip X S hb (preN ns y.key y.seq ++ postN ns y.key y.seq) := by rw [← preN_postN]; exact hX.parts.skip
    refine (raise_any S b hb _ _ turn' hv hs _ _ y X hsk hX.parts.tab hX.parts.hts (fun k hk => hS k (Nat.le_trans hX.chg.size hk)) hX.parts.own).mono ?_
    rintro r w' ⟨rfl, x, nb, hgt, turn2, h1, h2, h3, h4, h5⟩
    exact ⟨rfl, ends_new hX hh1 hno h1 h2 h3 h4 h5⟩
  have HCo : Hid (∀ X g, Found w S b hb ns.length (bytesE (ns.map Nd.e)) turn hv hs ns y w.heap.size g X → Calls Try.prog 41 #[.pointer (some ⟨b, 0, none⟩), env y] X fun r w' => r = .returned (.tuple #[]) ∧ Found w S b hb (ns.length + 1) (bytesE (ns.map Nd.e) + sizeE y) turn hv hs ns y w.heap.size g w') := fun X g hX => by
    refine (comes_any b _ _ hb turn hv y X hX.parts.tab (by omega) (by omega) (by omega)).mono ?_
    rintro r w' ⟨rfl, h1, h2⟩
    exact ⟨rfl, hX.beside h1 h2⟩
  have HGo : Hid (∀ X g (z : Nd) m, m + sizeE z.e = bytesE (ns.map Nd.e) + sizeE y → sizeE z.e ≤ 100000000000 → Found w S b hb (ns.length + 1) (bytesE (ns.map Nd.e) + sizeE y) turn hv hs ns y w.heap.size g X → Calls Try.prog 42 #[.pointer (some ⟨b, 0, none⟩), env z.e] X fun r w' => r = .returned (.tuple #[]) ∧ Found w S b hb ns.length m turn hv hs ns y w.heap.size g w') := fun X g z m hm hz hX => by
    refine (goes_any b ns.length m hb turn hv z.e X (by rw [hm]; exact hX.parts.tab) (by omega) (by omega) (by omega)).mono ?_
    rintro r w' ⟨rfl, h1, h2⟩
    exact ⟨rfl, hX.beside h1 h2⟩
  have HFi : Hid (∀ n m turn' g X, Found w S b hb n m turn' hv hs ns y w.heap.size g X → _) := fun n m turn' g X hX => Found.first hX hh1
  have HWy : Hid (∀ n m turn' g X, Found w S b hb n m turn' hv hs ns y w.heap.size g X → X.cell? ⟨g, 0, none⟩ = some (lastAt 0 ⟨b, 2, hb⟩ (preN ns y.key y.seq)).val ∧ X.cell? ⟨g, 1, none⟩ = some (lastAt 1 ⟨b, 2, hb⟩ (preN ns y.key y.seq)).val ∧ X.cell? ⟨g, 2, none⟩ = some (lastAt 2 ⟨b, 2, hb⟩ (preN ns y.key y.seq)).val ∧ X.cell? ⟨g, 3, none⟩ = some (lastAt 3 ⟨b, 2, hb⟩ (preN ns y.key y.seq)).val ∧ X.cell? ⟨g, 4, none⟩ = some (lastAt 4 ⟨b, 2, hb⟩ (preN ns y.key y.seq)).val ∧ X.cell? ⟨g, 5, none⟩ = some (lastAt 5 ⟨b, 2, hb⟩ (preN ns y.key y.seq)).val ∧ X.cell? ⟨g, 6, none⟩ = some (lastAt 6 ⟨b, 2, hb⟩ (preN ns y.key y.seq)).val ∧ X.cell? ⟨g, 7, none⟩ = some (lastAt 7 ⟨b, 2, hb⟩ (preN ns y.key y.seq)).val) := fun n m turn' g X hX => ⟨way_cell hX.way (by decide), way_cell hX.way (by decide), way_cell hX.way (by decide), way_cell hX.way (by decide), way_cell hX.way (by decide), way_cell hX.way (by decide), way_cell hX.way (by decide), way_cell hX.way (by decide)⟩
  have HNo : Hid (∀ n m turn' g X z r, postN ns y.key y.seq = z :: r → Found w S b hb n m turn' hv hs ns y w.heap.size g X → X.cell? ⟨z.blk, 0, none⟩ = some (.string z.e.key) ∧ X.cell? ⟨z.blk, 1, none⟩ = some (.int .i64 z.e.seq) ∧ X.cell? ⟨z.blk, 2, none⟩ = some (.bool z.e.dead) ∧ X.cell? ⟨z.blk, 3, none⟩ = some (.string z.e.val) ∧ ∀ i, X.frozen? ⟨z.blk, i, none⟩ = false) := fun n m turn' g X z r hq hX => by
    have hsk := hX.parts.skip
    rw [preN_postN ns y.key y.seq, hq] at hsk
    exact (hsk.node (a := preN ns y.key y.seq) (x := z) (c := r) rfl).cells
  have HTu : Hid (∀ X g m z r, postN ns y.key y.seq = z :: r → z.e.key = y.key ∧ z.e.seq = y.seq → m + sizeE z.e = bytesE (ns.map Nd.e) + sizeE y → Found w S b hb ns.length m turn hv hs ns y w.heap.size g X → Ends w S b hb hv hs ns y ((((X.setCell ⟨z.blk, 0, none⟩ (.string y.key)).setCell ⟨z.blk, 1, none⟩ (.int .i64 y.seq)).setCell ⟨z.blk, 2, none⟩ (.bool y.dead)).setCell ⟨z.blk, 3, none⟩ (.string y.val))) := fun X g m z r hq he hm hX => ends_turn hX hh1 hq he hm
  have HSz : Hid (∀ z r, postN ns y.key y.seq = z :: r → sizeE z.e ≤ bytesE (ns.map Nd.e)) := fun z r hq => by
    show _ ≤ _
    rw [preN_postN ns y.key y.seq, hq, List.map_append, List.map_cons, bytesE_append, bytesE_cons]; omega
  have hlt := lt_of_block h.tab
  unfold wayV env Pos.val at HRa
  unfold wayV entObj Pos.val at HF
  unfold wayObj entObj Pos.val at HFo
  unfold Pos.val at HFi HWy
  unfold env at HCo HGo
  unfold env
  clear h hP1 hso hh1 hS
  generalize lastAt 0 ⟨b, 2, hb⟩ (preN ns y.key y.seq) = L0 at *
  generalize lastAt 1 ⟨b, 2, hb⟩ (preN ns y.key y.seq) = L1 at *
  generalize lastAt 2 ⟨b, 2, hb⟩ (preN ns y.key y.seq) = L2 at *
  generalize lastAt 3 ⟨b, 2, hb⟩ (preN ns y.key y.seq) = L3 at *
  generalize lastAt 4 ⟨b, 2, hb⟩ (preN ns y.key y.seq) = L4 at *
  generalize lastAt 5 ⟨b, 2, hb⟩ (preN ns y.key y.seq) = L5 at *
  generalize lastAt 6 ⟨b, 2, hb⟩ (preN ns y.key y.seq) = L6 at *
  generalize lastAt 7 ⟨b, 2, hb⟩ (preN ns y.key y.seq) = L7 at *
  go_enter Try.func19, Try.ntmps19
  go_wp2_with fail
  refine (show Calls _ _ _ _ _ from HF.out).mono ?_
  rintro r w2 ⟨rfl, hb2⟩
  have HX : Hid _ := HFo.out w2 hb2
  clear HF HFo
  go_wp2_with fail
  have hxl : w2.heap.size < w2.heap.size + 1 := Nat.lt_succ_self _
  generalize hX : w2.alloc (.cells #[.pointer (some ⟨L0.blk, L0.off, none⟩), .pointer (some ⟨L1.blk, L1.off, none⟩), .pointer (some ⟨L2.blk, L2.off, none⟩), .pointer (some ⟨L3.blk, L3.off, none⟩), .pointer (some ⟨L4.blk, L4.off, none⟩), .pointer (some ⟨L5.blk, L5.off, none⟩), .pointer (some ⟨L6.blk, L6.off, none⟩), .pointer (some ⟨L7.blk, L7.off, none⟩)] 72) = X at *
  clear hX hb2 hxl
  generalize w2.heap.size = g at *
  have HX' : Hid _ := Found.drew HX.out 1
  obtain ⟨x0, x1, x2, x3, _⟩ := ent_cells HX.out.box
  go_region_held3 (fun w' => w'.cell? ⟨w.heap.size, 0, none⟩ = some (.string y.key) ∧ w'.cell? ⟨w.heap.size, 1, none⟩ = some (.int .i64 y.seq) ∧ w'.cell? ⟨w.heap.size, 2, none⟩ = some (.bool y.dead) ∧ w'.cell? ⟨w.heap.size, 3, none⟩ = some (.string y.val)) (first | with_reducible exact ⟨x0, x1, x2, x3⟩ | with_reducible exact ⟨p3, p4, p5, p6⟩ | exact ⟨x0, x1, x2, x3⟩)
    ((go_at_call 41; refine (HCo.out _ g HX'.out).mono ?_; rintro r w3 ⟨rfl, hf3⟩; obtain ⟨p3, p4, p5, p6, _⟩ := ent_cells hf3.box))
  have HY : Hid _ := hf3
  clear hf3 HX HX' HCo x0 x1 x2 x3
  obtain ⟨y1, ⟨l2, y2, y3⟩, y4⟩ := HFi.out _ _ _ _ _ HY.out
  have hl2 : (0 : Int) < (l2 : Int) := by omega
  cases hq : postN ns y.key y.seq with
  | nil =>
    rw [hq] at y4
    have HRb : Hid (∀ j, Calls Try.prog 43 _ (w3.drewN j) _) := fun j => HRa.out (w3.drewN j) g turn (Found.drew HY.out j) (fun z r e => by rw [hq] at e; cases e)
    unfold ptr at y4
    simp only [List.head?_nil, Option.map_none] at y4
    obtain ⟨m0, m1, m2, m3, m4, m5, m6, m7⟩ := HWy.out _ _ _ _ _ HY.out
    clear hq HRa HGo HNo HTu HSz HFi HWy HY
    go_wp2_with fail
    go_quiet (fail)
    go_wp2_with fail
    refine (show Calls _ _ _ _ _ from HRb.out _).mono ?_
    rintro r w4 ⟨rfl, hE⟩
    go_wp2
    go_end0
    exact ⟨rfl, hE⟩
  | cons z r =>
    rw [hq] at y4
    unfold ptr at y4
    simp only [List.head?_cons, Option.map_some] at y4
    obtain ⟨z0, z1, z2, z3, zf⟩ := HNo.out _ _ _ _ _ z r hq HY.out
    have hbk := beq_toList z.e.key y.key
    by_cases he : z.e.key = y.key ∧ z.e.seq = y.seq
    · obtain ⟨hk, hsq⟩ := he
      have HKe : Hid (z.e.key = y.key ∧ z.e.seq = y.seq) := ⟨hk, hsq⟩
      have hsz := HSz.out z r hq
      obtain ⟨m', hm'⟩ : ∃ m', m' + sizeE z.e = bytesE (ns.map Nd.e) + sizeE y := ⟨bytesE (ns.map Nd.e) + sizeE y - sizeE z.e, by omega⟩
      have HGb : Hid (∀ X, Found w S b hb (ns.length + 1) (bytesE (ns.map Nd.e) + sizeE y) turn hv hs ns y w.heap.size g X → _) := fun X hX => HGo.out X g z m' hm' (by omega) hX
      have HTb : Hid (∀ X, Found w S b hb ns.length m' turn hv hs ns y w.heap.size g X → _) := fun X hX => HTu.out X g m' z r hq HKe.out hm' hX
      have HNb : Hid (∀ X, Found w S b hb ns.length m' turn hv hs ns y w.heap.size g X → _) := fun X hX => HNo.out _ _ _ _ X z r hq hX
      rw [decide_eq_true hk] at hbk
      have hsb : (z.e.seq == y.seq) = true := by simpa using hsq
      have HYd : Hid (∀ j, Found w S b hb (ns.length + 1) (bytesE (ns.map Nd.e) + sizeE y) turn hv hs ns y w.heap.size g (w3.drewN j)) := fun j => Found.drew HY.out j
      clear hq HRa HGo HNo HTu HSz HFi HWy HY hk hsq hm' hsz zf HKe
      generalize z.e.key = K at *
      generalize z.e.seq = Q at *
      generalize z.e.dead = D at *
      generalize z.e.val = V at *
      go_wp2_with fail
      go_quiet (fail)
      go_wp2_with fail
      have HY4 : Hid _ := Found.drew (HYd.out nq) 1
      clear HYd
      go_region_held3 (fun w' => w'.cell? ⟨z.blk, 0, none⟩ = some (.string K) ∧ w'.cell? ⟨z.blk, 1, none⟩ = some (.int .i64 Q) ∧ w'.cell? ⟨z.blk, 2, none⟩ = some (.bool D) ∧ w'.cell? ⟨z.blk, 3, none⟩ = some (.string V)) (first | with_reducible exact ⟨t0, t1, t2, t3⟩ | exact ⟨z0, z1, z2, z3⟩)
        ((go_at_call 42; refine (HGb.out _ HY4.out).mono ?_; rintro r w5 ⟨rfl, hf5⟩; obtain ⟨t0, t1, t2, t3, tf⟩ := HNb.out _ hf5))
      obtain ⟨u0, u1, u2, u3, _⟩ := ent_cells hf5.box
      have tf0 := tf 0
      have tf1 := tf 1
      have tf2 := tf 2
      have tf3 := tf 3
      have HE : Hid _ := HTb.out w5 hf5
      clear hf5 tf HY4 HGb HNb HTb
      go_wp2
      refine bodyPost_ret (results_none rfl _ _ _) rfl ?_
      exact ⟨rfl, HE.out⟩
    · by_cases hk : z.e.key = y.key
      · have hsb : (z.e.seq == y.seq) = false := by simp only [beq_eq_false_iff_ne, ne_eq]; exact fun e => he ⟨hk, e⟩
        rw [decide_eq_true hk] at hbk
        have HRb : Hid (∀ j, Calls Try.prog 43 _ (w3.drewN j) _) := fun j => HRa.out (w3.drewN j) g turn (Found.drew HY.out j) (fun z' r' e => by rw [hq] at e; cases e; exact he)
        obtain ⟨m0, m1, m2, m3, m4, m5, m6, m7⟩ := HWy.out _ _ _ _ _ HY.out
        clear hq HRa HGo HNo HTu HSz HFi HWy HY he zf hk
        generalize z.e.key = K at *
        generalize z.e.seq = Q at *
        go_wp2_with fail
        go_quiet (fail)
        go_wp2_with fail
        refine (show Calls _ _ _ _ _ from HRb.out _).mono ?_
        rintro r w4 ⟨rfl, hE⟩
        go_wp2
        go_end0
        exact ⟨rfl, hE⟩
      · rw [decide_eq_false hk] at hbk
        have HRb : Hid (∀ j, Calls Try.prog 43 _ (w3.drewN j) _) := fun j => HRa.out (w3.drewN j) g turn (Found.drew HY.out j) (fun z' r' e => by rw [hq] at e; cases e; exact he)
        obtain ⟨m0, m1, m2, m3, m4, m5, m6, m7⟩ := HWy.out _ _ _ _ _ HY.out
        clear hq HRa HGo HNo HTu HSz HFi HWy HY he zf hk
        generalize z.e.key = K at *
        generalize z.e.seq = Q at *
        go_wp2_with fail
        go_quiet (fail)
        go_wp2_with fail
        refine (show Calls _ _ _ _ _ from HRb.out _).mono ?_
        rintro r w4 ⟨rfl, hE⟩
        go_wp2
        go_end0
        exact ⟨rfl, hE⟩
end Go.Proofs.Ytdaibmafnamfgaa.Mm
