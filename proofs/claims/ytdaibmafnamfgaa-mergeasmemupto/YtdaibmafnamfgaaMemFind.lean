/-
  Package mem: 'find' answers, on each level, the last tower ahead of a place.
-/
import Derived.Test.YtdaibmafnamfgaaMemSmall
import Derived.Deep.LoopGhost
namespace Go.Proofs.Ytdaibmafnamfgaa.Mm
open Go.RowKit Cm
set_option linter.unusedVariables false

def preN (ns : List Nd) (k : ByteArray) (s : Int) : List Nd := ns.takeWhile fun n => n.e.ahead k s
def postN (ns : List Nd) (k : ByteArray) (s : Int) : List Nd := ns.dropWhile fun n => n.e.ahead k s
theorem preN_postN (ns : List Nd) (k : ByteArray) (s : Int) : ns = preN ns k s ++ postN ns k s := List.takeWhile_append_dropWhile.symm
theorem preN_map (ns : List Nd) (k : ByteArray) (s : Int) : (preN ns k s).map Nd.e = pre (ns.map Nd.e) k s := by
  unfold preN pre
  induction ns with
  | nil => rfl
  | cons n ns ih =>
    rw [List.map_cons, List.takeWhile_cons, List.takeWhile_cons]
    split
    · rw [List.map_cons, ih]
    · rfl
theorem postN_map (ns : List Nd) (k : ByteArray) (s : Int) : (postN ns k s).map Nd.e = post (ns.map Nd.e) k s := by
  unfold postN post
  induction ns with
  | nil => rfl
  | cons n ns ih =>
    rw [List.map_cons, List.dropWhile_cons, List.dropWhile_cons]
    split
    · exact ih
    · rfl
theorem preN_ahead {ns : List Nd} {k : ByteArray} {s : Int} : ∀ n ∈ preN ns k s, n.e.ahead k s = true := fun n hn => by
  have : n.e ∈ (preN ns k s).map Nd.e := List.mem_map.2 ⟨n, hn, rfl⟩
  rw [preN_map] at this
  exact pre_ahead _ this
theorem postN_not {ns : List Nd} {k : ByteArray} {s : Int} (h : Sorted (ns.map Nd.e)) : ∀ n ∈ postN ns k s, n.e.ahead k s = false := fun n hn => by
  have : n.e ∈ (postN ns k s).map Nd.e := List.mem_map.2 ⟨n, hn, rfl⟩
  rw [postN_map] at this
  exact post_not h _ this
def wayV (hd : Pos) (p : List Nd) : Value := .agg #[(lastAt 0 hd p).val, (lastAt 1 hd p).val, (lastAt 2 hd p).val, (lastAt 3 hd p).val, (lastAt 4 hd p).val, (lastAt 5 hd p).val, (lastAt 6 hd p).val, (lastAt 7 hd p).val]
def pathNil : Obj := .cells #[.pointer none, .pointer none, .pointer none, .pointer none, .pointer none, .pointer none, .pointer none, .pointer none] 72 (0, 0)
/-- The ways' box, filled from level m on; the answer's; all else is as it was. -/
structure Way (w : World) (hd : Pos) (p : List Nd) (m : Nat) (X : World) : Prop where
  way : ∃ cs, X.heap[w.heap.size + 1]? = some (.cells cs 72 (0, 0)) ∧ cs.size = 8 ∧ ∀ l, m ≤ l → l < 8 → cs[l]? = some (lastAt l hd p).val
  res : X.heap[w.heap.size]? = some pathNil
  bel : Below w.heap.size w X
theorem Way.start (w : World) (hd : Pos) (p : List Nd) : Way w hd p 8 ((w.alloc pathNil).alloc pathNil) := by
  have h0 : ((w.alloc pathNil).alloc pathNil).heap[w.heap.size + 1]? = some pathNil := by have := heap_alloc_new (w.alloc pathNil) pathNil; simpa using this
  refine ⟨⟨_, h0, rfl, fun l h1 h2 => by omega⟩, by rw [Below.heap_alloc _ _ _ (by simp)]; exact heap_alloc_new w _, ((Below.refl _ _).alloc (Nat.le_refl _) _).alloc (by simp) _⟩
theorem Way.step {w X : World} {hd : Pos} {p : List Nd} {m : Nat} (h : Way w hd p (m + 1) X) (hm : m < 8) {v : Value} (hv : v = (lastAt m hd p).val) : Way w hd p m (X.setCell ⟨w.heap.size + 1, m, none⟩ v) := by
  obtain ⟨⟨cs, h1, h2, h3⟩, h4, h5⟩ := h
  refine ⟨⟨cs.setIfInBounds m v, Joins.block_setCell h1 v, by simpa using h2, fun l hl h8 => ?_⟩, (Below.heap_setCell _ _ _ _ (by simp)).trans h4, h5.setCell (by simp) _⟩
  by_cases e : l = m
  · subst e
    rw [Array.getElem?_setIfInBounds_self, if_pos (by omega), hv]
  · rw [Array.getElem?_setIfInBounds_ne (fun e2 => e e2.symm)]
    exact h3 l (by omega) h8
theorem Way.cell {w X : World} {hd : Pos} {p : List Nd} {m : Nat} (h : Way w hd p m X) {l : Nat} (hl : l < 8) : (∃ v, X.cell? ⟨w.heap.size + 1, l, none⟩ = some v) ∧ X.frozen? ⟨w.heap.size + 1, l, none⟩ = false := by
  obtain ⟨⟨cs, h1, h2, h3⟩, h4, h5⟩ := h
  refine ⟨?_, by simp [World.frozen?, h1]⟩
  rw [Joins.cell_of_block h1]
  exact ⟨_, Array.getElem?_eq_getElem (by omega)⟩
theorem Way.full {w X : World} {hd : Pos} {p : List Nd} (h : Way w hd p 0 X) {l : Nat} (hl : l < 8) : X.cell? ⟨w.heap.size + 1, l, none⟩ = some (lastAt l hd p).val := by
  obtain ⟨⟨cs, h1, h2, h3⟩, h4, h5⟩ := h
  rw [Joins.cell_of_block h1]
  exact h3 l (Nat.zero_le _) hl
theorem nil_set {X : World} {c : Nat} (h : X.heap[c]? = some pathNil) (a0 a1 a2 a3 a4 a5 a6 a7 : Value) :
    (X.setCell ⟨c, 0, none⟩ a0).cell? ⟨c, 0, none⟩ = some a0 ∧ ((X.setCell ⟨c, 0, none⟩ a0).setCell ⟨c, 1, none⟩ a1).cell? ⟨c, 1, none⟩ = some a1 ∧ (((X.setCell ⟨c, 0, none⟩ a0).setCell ⟨c, 1, none⟩ a1).setCell ⟨c, 2, none⟩ a2).cell? ⟨c, 2, none⟩ = some a2 ∧
    ((((X.setCell ⟨c, 0, none⟩ a0).setCell ⟨c, 1, none⟩ a1).setCell ⟨c, 2, none⟩ a2).setCell ⟨c, 3, none⟩ a3).cell? ⟨c, 3, none⟩ = some a3 ∧
    (((((X.setCell ⟨c, 0, none⟩ a0).setCell ⟨c, 1, none⟩ a1).setCell ⟨c, 2, none⟩ a2).setCell ⟨c, 3, none⟩ a3).setCell ⟨c, 4, none⟩ a4).cell? ⟨c, 4, none⟩ = some a4 ∧
    ((((((X.setCell ⟨c, 0, none⟩ a0).setCell ⟨c, 1, none⟩ a1).setCell ⟨c, 2, none⟩ a2).setCell ⟨c, 3, none⟩ a3).setCell ⟨c, 4, none⟩ a4).setCell ⟨c, 5, none⟩ a5).cell? ⟨c, 5, none⟩ = some a5 ∧
    (((((((X.setCell ⟨c, 0, none⟩ a0).setCell ⟨c, 1, none⟩ a1).setCell ⟨c, 2, none⟩ a2).setCell ⟨c, 3, none⟩ a3).setCell ⟨c, 4, none⟩ a4).setCell ⟨c, 5, none⟩ a5).setCell ⟨c, 6, none⟩ a6).cell? ⟨c, 6, none⟩ = some a6 ∧
    ((((((((X.setCell ⟨c, 0, none⟩ a0).setCell ⟨c, 1, none⟩ a1).setCell ⟨c, 2, none⟩ a2).setCell ⟨c, 3, none⟩ a3).setCell ⟨c, 4, none⟩ a4).setCell ⟨c, 5, none⟩ a5).setCell ⟨c, 6, none⟩ a6).setCell ⟨c, 7, none⟩ a7).cell? ⟨c, 7, none⟩ = some a7 := by
  unfold pathNil at h
  have h0 := Joins.block_setCell h (i := 0) a0
  have h1 := Joins.block_setCell h0 (i := 1) a1
  have h2 := Joins.block_setCell h1 (i := 2) a2
  have h3 := Joins.block_setCell h2 (i := 3) a3
  have h4 := Joins.block_setCell h3 (i := 4) a4
  have h5 := Joins.block_setCell h4 (i := 5) a5
  have h6 := Joins.block_setCell h5 (i := 6) a6
  have h7 := Joins.block_setCell h6 (i := 7) a7
  rw [Joins.cell_of_block h0, Joins.cell_of_block h1, Joins.cell_of_block h2, Joins.cell_of_block h3, Joins.cell_of_block h4, Joins.cell_of_block h5, Joins.cell_of_block h6, Joins.cell_of_block h7]
  simp
/-- What the walk leans on: where it stands, whom it meets. -/
structure Meets (w : World) (hd : Pos) (p q : List Nd) (k : ByteArray) (s : Int) : Prop where
  at_ : ∀ X, Below w.heap.size w X → ∀ a c, p = a ++ c → PosAt X (lastP hd a) (lastH 8 a) (c ++ q)
  node : ∀ X, Below w.heap.size w X → ∀ a n c, p ++ q = a ++ n :: c → NodeAt X n c
  yes : ∀ n ∈ p, n.e.ahead k s = true
  no : ∀ n ∈ q, n.e.ahead k s = false

set_option maxRecDepth 100000 in
set_option maxHeartbeats 2000000 in
theorem find_walk (b hb : Nat) (p q : List Nd) (k : ByteArray) (s : Int) (w : World) (hL : Meets w ⟨b, 2, hb⟩ p q k s) :
    Calls Try.prog 40 #[.pointer (some ⟨b, 0, none⟩), .string k, .int .i64 s] w fun e w' => e = .returned (wayV ⟨b, 2, hb⟩ p) ∧ Below w.heap.size w w' := by
  have HL : Hid (Meets w ⟨b, 2, hb⟩ p q k s) := hL
  have HW1 : Hid (Way w ⟨b, 2, hb⟩ p 8 ((w.alloc pathNil).alloc pathNil)) := Way.start _ _ _
  unfold pathNil at HW1
  obtain ⟨hd, hhd⟩ : ∃ hd : Pos, hd = ⟨b, 2, hb⟩ := ⟨_, rfl⟩
  have HV : Hid (hd.val = .pointer (some ⟨b, 2, none⟩)) := by show _ = _; rw [hhd]; rfl
  rw [← hhd] at HL HW1 ⊢
  clear hL hhd
  go_enter Try.func40, Try.ntmps40
  go_wp2
  go_loopw [8, 9] (fun at_ lv wr => ∃ (m : Nat) (p1 p2 : List Nd), m ≤ 8 ∧ lv = .int .i64 ((m : Int) - 1) ∧ at_ = (lastP hd p1).val ∧ Hid (p = p1 ++ p2) ∧ Hid (m ≤ lastH 8 p1) ∧ Hid (Way w hd p m wr)) (fun _ lv _ => (intOf lv + 1).toNat)
  case atStart => exact ⟨8, [], p, Nat.le_refl _, rfl, HV.out.symm, hid_rfl, Nat.le_refl _, HW1⟩
  case round =>
    obtain ⟨m, p1, p2, hm, rfl, rfl, HP, HH, HW⟩ := hrel
    cases m with
    | zero =>
      obtain ⟨⟨cs, hw1, hw2, hw3⟩, hres, hbel⟩ := HW.out
      have W0 := HW.out.full (l := 0) (by decide)
      have W1 := HW.out.full (l := 1) (by decide)
      have W2 := HW.out.full (l := 2) (by decide)
      have W3 := HW.out.full (l := 3) (by decide)
      have W4 := HW.out.full (l := 4) (by decide)
      have W5 := HW.out.full (l := 5) (by decide)
      have W6 := HW.out.full (l := 6) (by decide)
      have W7 := HW.out.full (l := 7) (by decide)
      have HWV : Hid (wayV hd p = .agg #[(lastAt 0 hd p).val, (lastAt 1 hd p).val, (lastAt 2 hd p).val, (lastAt 3 hd p).val, (lastAt 4 hd p).val, (lastAt 5 hd p).val, (lastAt 6 hd p).val, (lastAt 7 hd p).val]) := hid_rfl
      unfold Pos.val at W0 W1 W2 W3 W4 W5 W6 W7 HWV
      generalize lastAt 0 hd p = L0 at *
      generalize lastAt 1 hd p = L1 at *
      generalize lastAt 2 hd p = L2 at *
      generalize lastAt 3 hd p = L3 at *
      generalize lastAt 4 hd p = L4 at *
      generalize lastAt 5 hd p = L5 at *
      generalize lastAt 6 hd p = L6 at *
      generalize lastAt 7 hd p = L7 at *
      have N : ∀ i, i < 8 → wr.cell? ⟨w.heap.size, i, none⟩ = some (.pointer none) := fun i hi => by
        rw [Joins.cell_of_block hres]
        have : i = 0 ∨ i = 1 ∨ i = 2 ∨ i = 3 ∨ i = 4 ∨ i = 5 ∨ i = 6 ∨ i = 7 := by omega
        rcases this with rfl | rfl | rfl | rfl | rfl | rfl | rfl | rfl <;> rfl
      have F : ∀ i, wr.frozen? ⟨w.heap.size, i, none⟩ = false := fun i => by simp [World.frozen?, hres, pathNil]
      have n0 := N 0 (by decide)
      have n1 := N 1 (by decide)
      have n2 := N 2 (by decide)
      have n3 := N 3 (by decide)
      have n4 := N 4 (by decide)
      have n5 := N 5 (by decide)
      have n6 := N 6 (by decide)
      have n7 := N 7 (by decide)
      have f0 := F 0
      have f1 := F 1
      have f2 := F 2
      have f3 := F 3
      have f4 := F 4
      have f5 := F 5
      have f6 := F 6
      have f7 := F 7
      obtain ⟨g0, g1, g2, g3, g4, g5, g6, g7⟩ := nil_set hres (.pointer (some ⟨L0.blk, L0.off, none⟩)) (.pointer (some ⟨L1.blk, L1.off, none⟩)) (.pointer (some ⟨L2.blk, L2.off, none⟩)) (.pointer (some ⟨L3.blk, L3.off, none⟩)) (.pointer (some ⟨L4.blk, L4.off, none⟩)) (.pointer (some ⟨L5.blk, L5.off, none⟩)) (.pointer (some ⟨L6.blk, L6.off, none⟩)) (.pointer (some ⟨L7.blk, L7.off, none⟩))
      have HB : Hid (∀ v0 v1 v2 v3 v4 v5 v6 v7, Below w.heap.size w ((((((((wr.setCell ⟨w.heap.size, 0, none⟩ v0).setCell ⟨w.heap.size, 1, none⟩ v1).setCell ⟨w.heap.size, 2, none⟩ v2).setCell ⟨w.heap.size, 3, none⟩ v3).setCell ⟨w.heap.size, 4, none⟩ v4).setCell ⟨w.heap.size, 5, none⟩ v5).setCell ⟨w.heap.size, 6, none⟩ v6).setCell ⟨w.heap.size, 7, none⟩ v7)) := fun _ _ _ _ _ _ _ _ =>
        (((((((hbel.setCell (by simp) _).setCell (by simp) _).setCell (by simp) _).setCell (by simp) _).setCell (by simp) _).setCell (by simp) _).setCell (by simp) _).setCell (by simp) _
      clear hw1 hw2 hw3 hres hbel N F HW HW1 HP HH HL HV
      go_wp2
      refine bodyPost_ret (by simp [results, Try.results40, go_sem, g0, g1, g2, g3, g4, g5, g6, g7]; try rfl) rfl ?_
      rw [HWV.out]
      exact ⟨rfl, HB.out _ _ _ _ _ _ _ _⟩
    | succ m =>
      have e1 : (((m + 1 : Nat) : Int) - 1) = (m : Int) := by omega
      rw [e1]
      clear e1
      obtain ⟨len, c4, hlen, hB1, hB2, hc⟩ := HL.out.at_ wr HW.out.bel p1 p2 HP.out
      have hh := HH.out
      have cn := hc m (by omega)
      have hml : (m : Int) < (len : Int) := by omega
      have hm0 : (0 : Int) ≤ (m : Int) := by omega
      have HPL : Hid (p2.length ≤ p.length) := by show _ ≤ _; rw [HP.out]; simp
      have hm8 : m < 8 := hm
      clear hc hB1 hB2 hh
      unfold Pos.val
      unfold ptr at cn
      generalize hp : lastP hd p1 = P at *
      generalize hf : first m (p2 ++ q) = f0 at *
      have HP1 : Hid (lastP hd p1 = P) := hp
      have HF1 : Hid (first m (p2 ++ q) = f0) := hf
      clear hp hf
      go_wp2
      go_loopg [8, 10] p.length (fun g at_ n wr' => ∃ (q1 q2 : List Nd), Hid (p = q1 ++ q2 ∧ q2.length ≤ g ∧ m + 1 ≤ lastH 8 q1) ∧ at_ = (lastP hd q1).val ∧ n = ptr (first m (q2 ++ q)) ∧ wr' = wr)
      case atStart => exact ⟨p1, p2, ⟨HP.out, HPL.out, HH.out⟩, by rw [HP1.out]; rfl, by rw [HF1.out]; rfl, rfl⟩
      case round =>
        obtain ⟨q1, q2, HQ, rfl, rfl, rfl⟩ := hrel
        have HPQ : Hid (p = q1 ++ q2) := HQ.out.1
        cases hq : first m q2 with
        | some y =>
          obtain ⟨a, c, rfl, hy, ha⟩ := first_split hq
          have e1 : first m (a ++ y :: c ++ q) = some y := by rw [first_append, hq]; rfl
          rw [e1]
          have hnode := HL.out.node wr HW.out.bel (q1 ++ a) y (c ++ q) (by rw [HPQ.out]; simp)
          have hyes := HL.out.yes y (by rw [HPQ.out]; simp)
          have HA : Hid _ := ahead_any y (c ++ q) k s wr hnode
          rw [hyes] at HA
          obtain ⟨len2, d4, hlen2, _, _, hc2⟩ := hnode.pos
          have dn := hc2 m hy
          have hml2 : (m : Int) < (len2 : Int) := by omega
          have HY : Hid (m < y.h) := hy
          have HLn : Hid (a.length + (c.length + 1) ≤ gk) := by have := HQ.out.2.1; show _ ≤ _; simpa using this
          have HPN : Hid (p = (q1 ++ a ++ [y]) ++ c) := by rw [HPQ.out]; simp [Hid]
          unfold Nd.pos at d4 dn
          unfold ptr at dn
          simp only [Nat.zero_add] at d4 dn
          generalize hfn : first m (c ++ q) = f2 at *
          have HF2 : Hid (first m (c ++ q) = f2) := hfn
          clear hfn e1 hnode hyes hc2 hy ha hq
          unfold ptr
          simp only [Option.map_some]
          go_wp2_with fail
          refine (show Calls _ _ _ _ _ from HA.out).mono ?_
          rintro e w2 ⟨rfl, rfl⟩
          go_wp2
          go_roundg c.length
          case measure => have := HLn.out; omega
          case rel => exact ⟨q1 ++ a ++ [y], c, ⟨HPN.out, Nat.le_refl _, by rw [lastH_snoc]; exact HY.out⟩, by rw [lastP_snoc]; rfl, by rw [HF2.out]; rfl, rfl⟩
        | none =>
          have HN : Hid (∀ x ∈ q2, x.h ≤ m) := fun x hx => by
            rcases Nat.lt_or_ge m x.h with h1 | h1
            · obtain ⟨y, hy⟩ := first_some ⟨x, hx, h1⟩
              rw [hq] at hy; cases hy
            · exact h1
          have e1 : first m (q2 ++ q) = first m q := by rw [first_append, hq]; rfl
          rw [e1]
          clear e1 hq
          obtain ⟨⟨vv, cw⟩, fw⟩ := HW.out.cell (l := m) hm8
          have HWs : Hid (Way w hd p m (wr.setCell ⟨w.heap.size + 1, m, none⟩ (lastP hd q1).val)) := HW.out.step hm8 (by rw [HPQ.out, lastAt_here (by have := HQ.out.2.2; omega) HN.out])
          have HHs : Hid (m ≤ lastH 8 q1) := by have := HQ.out.2.2; show _ ≤ _; omega
          have HLq : Hid ((lastP hd q1).val = .pointer (some ⟨(lastP hd q1).blk, (lastP hd q1).off, none⟩)) := hid_rfl
          unfold Pos.val at HWs
          unfold Pos.val
          generalize hLP : lastP hd q1 = LP at *
          have HLP : Hid (lastP hd q1 = LP) := hLP
          clear hLP
          have hmw : (m : Int) < 8 := by omega
          cases hz : first m q with
          | none =>
            clear hz
            unfold ptr
            simp only [Option.map_none]
            go_wp2
            go_roundw
            case rel => exact ⟨m, q1, q2, by omega, by go_num, by rw [HLP.out], HPQ, HHs, HWs⟩
            case measure => simp [intOf]
          | some z =>
            obtain ⟨a, c, hqe, hz1, hz2⟩ := first_split hz
            have hnode := HL.out.node wr HW.out.bel (q1 ++ q2 ++ a) z c (by rw [HPQ.out, hqe]; simp)
            have hno := HL.out.no z (by rw [hqe]; simp)
            have HA : Hid _ := ahead_any z c k s wr hnode
            rw [hno] at HA
            clear hz hqe hz1 hz2 hnode hno
            unfold ptr
            simp only [Option.map_some]
            go_wp2_with fail
            refine (show Calls _ _ _ _ _ from HA.out).mono ?_
            rintro e w2 ⟨rfl, rfl⟩
            go_wp2
            go_roundw
            case rel => exact ⟨m, q1, q2, by omega, by go_num, by rw [HLP.out], HPQ, HHs, HWs⟩
            case measure => simp [intOf]
theorem Meets.of {w : World} {S : Nat → Prop} {b hb n m turn : Nat} {hv : Value} {ns : List Nd} (ht : w.heap[b]? = some (tabObj n m hb hv turn)) (h : Skip w S hb ns) (hs : Sorted (ns.map Nd.e)) (k : ByteArray) (s : Int) : Meets w ⟨b, 2, hb⟩ (preN ns k s) (postN ns k s) k s := by
  have hk : ∀ X, Below w.heap.size w X → Skip X S hb ns ∧ X.heap[b]? = some (tabObj n m hb hv turn) := fun X hX => ⟨h.keep fun j _ hj => hX.block j hj, (hX.block b (lt_of_block ht)).trans ht⟩
  refine ⟨fun X hX a c e => (hk X hX).1.pos (hk X hX).2 (by have h1 := preN_postN ns k s; rw [e, List.append_assoc] at h1; exact h1), fun X hX a x c e => (hk X hX).1.node (a := a) ((preN_postN ns k s).trans e), preN_ahead, postN_not hs⟩
theorem find_any {S : Nat → Prop} {b hb n m turn : Nat} {hv : Value} {ns : List Nd} (k : ByteArray) (s : Int) (w : World) (ht : w.heap[b]? = some (tabObj n m hb hv turn)) (h : Skip w S hb ns) (hs : Sorted (ns.map Nd.e)) :
    Calls Try.prog 40 #[.pointer (some ⟨b, 0, none⟩), .string k, .int .i64 s] w fun e w' => e = .returned (wayV ⟨b, 2, hb⟩ (preN ns k s)) ∧ Below w.heap.size w w' := find_walk b hb _ _ k s w (Meets.of ht h hs k s)
end Go.Proofs.Ytdaibmafnamfgaa.Mm

