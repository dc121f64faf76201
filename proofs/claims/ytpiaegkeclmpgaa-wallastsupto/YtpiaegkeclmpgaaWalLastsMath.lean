/-
  What goes on from round to round in the statement WalLasts: the log, the list of what was answered with OK; a fate is armed.
-/
import Derived.Test.YtpiaegkeclmpgaaWalLives
import Derived.Test.YtpiaegkeclmpgaaCmBatches
namespace Go.Proofs.Ytpiaegkeclmpgaa.Wl
open Go.RowKit Cm Vf
set_option linter.unusedVariables false

theorem own_cap {w : World} {B n : Nat} {ao : Option Addr} {cap : Nat} {vs : List Value} (h : w.ownsRow B 9 1 (.slice ao n cap) n vs) : n ≤ cap := by
  rcases h.2 with ⟨e, hn⟩ | ⟨g, cap', cur, e, hB, hg, hle, _⟩
  · omega
  · cases e; exact hle
theorem wrap_sum {n m : Nat} (h : n ≤ 1000000000000) (k : m ≤ 1000000000000) : wrap64 ((n : Int) + (m : Int)) = (n : Int) + (m : Int) := IntWalk.wrap64_in _ ⟨by omega, by omega⟩
theorem wrap_self {i : Nat} (h : i ≤ 1000000000000) : wrap64 (i : Int) = (i : Int) := IntWalk.wrap64_in _ ⟨by omega, by omega⟩
theorem wrap_back {n i : Nat} (h : n ≤ 1000000000000) (k : i ≤ 1000000000000) : wrap64 ((n : Int) + (i : Int) - (n : Int)) = (i : Int) := by rw [IntWalk.wrap64_in _ ⟨by omega, by omega⟩]; omega
theorem cap_int {n i c l : Nat} (h : l ≤ c) (e : l = n + i) : (n : Int) ≤ (c : Int) := by omega
theorem cells_left {w : World} {ao : Option Addr} {xs ys : List ByteArray} (h : CellsAt w ao (strVals (xs ++ ys))) : CellsAt w ao (strVals xs) := by
  have := cells_take h xs.length
  rwa [List.take_left] at this
theorem same_quiet {f : Nat} {args : Array Value} {w : World} {n : Nat} {v : Value} (h : Calls Try.prog f args (w.drewN n) fun e w' => e = .returned v ∧ ∃ m, w' = (w.drewN n).drewN m) : Calls Try.prog f args (w.drewN n) fun e w' => e = .returned v ∧ ∃ m, w' = w.drewN m :=
  h.mono fun e w' ⟨h1, m, h2⟩ => ⟨h1, n + m, by rw [h2, World.drewN_drewN]⟩
/-- The rest of a new row. -/
theorem cells_rest {w : World} {B : Nat} {ao : Option Addr} {cap i : Nat} {xs ys : List ByteArray} (hl : (xs ++ ys).length = xs.length + i) (h : w.ownsRow B 9 1 (.slice ao (xs ++ ys).length cap) (xs ++ ys).length (strVals (xs ++ ys))) :
    CellsAt w (if cap = xs.length then ao else Option.map (fun x => x.add xs.length) ao) (strVals ys) := by
  have hc := (own_slice h).1
  have hle := own_cap h
  have hi : ys.length = i := by rw [List.length_append] at hl; omega
  split
  · rename_i e
    have : ys = [] := List.eq_nil_of_length_eq_zero (by omega)
    subst this
    exact .inl rfl
  · rename_i e
    rcases h.2 with ⟨q, hn⟩ | ⟨g, cap', cur, q, _⟩
    · simp only [Value.slice.injEq] at q; obtain ⟨_, _, q⟩ := q; rw [List.length_append] at hn; omega
    · cases q
      have := cells_drop hc xs.length
      rw [List.drop_left] at this
      show CellsAt w (some ((⟨g, 0, none⟩ : Addr).add xs.length)) _
      rw [Go.WideShapes.add_plain]; exact this
theorem same_take {ao bo : Option Addr} {ca cb i : Nat} {xs : List ByteArray} {w : World} (hi : i ≤ xs.length) (ha : CellsAt w ao (strVals (xs.take i))) (hb : CellsAt w bo (strVals (xs.take i))) (hl : i ≤ 140737488351232) :
    Calls Try.prog 16 #[.slice ao i ca, .slice bo i cb] w fun e w' => e = .returned (.bool true) ∧ ∃ n, w' = w.drewN n := by
  have e : (xs.take i).length = i := by rw [List.length_take]; omega
  have := same_any ao bo ca cb (xs.take i) w ha hb (by omega)
  rwa [e] at this
theorem weights_take (bs : List Bt) (k : Nat) (h : k < bs.length) : weights (bs.take (k + 1)) = weights (bs.take k) + (bs.getD k Bt.zero).weight := by
  rw [List.take_succ_eq_append_getElem h, getD_lt _ _ _ h]; simp only [weights, List.map_append, List.sum_append, List.map_cons, List.map_nil, List.sum_cons, List.sum_nil, Nat.add_zero]
theorem weights_le (bs : List Bt) (k : Nat) : weights (bs.take k) ≤ weights bs := by
  conv => rhs; rw [← List.take_append_drop k bs]
  simp only [weights, List.map_append, List.sum_append]
  omega
theorem weights_len (bs : List Bt) : bs.length ≤ weights bs := by
  induction bs with
  | nil => simp [weights]
  | cons b r ih => simp only [weights, List.map_cons, List.sum_cons, List.length_cons, Bt.weight] at *; omega
theorem bulk_weight (b : Bt) : bulk b.xs ≤ 8 * b.weight := by unfold bulk Bt.weight; omega

theorem Held.arm {w : World} {S : Nat → Prop} {b a : Nat} {x : ByteArray} {ys : List ByteArray} (h : Held w S b x ys [] a) (hS : ∀ k, w.heap.size ≤ k → S k) (ao : Option Addr) (cap : Nat) (fs : List (Int × Int)) (hc : FatesIn w ao fs) (hap : fs ≠ [] → ∀ ad, ao = some ad → ¬ S ad.block)
    (hl : fs.length ≤ 140737488355328) (hf : ∀ f ∈ fs, -9223372036854775808 ≤ f.1 ∧ f.1 ≤ 9223372036854775807) :
    Calls Try.prog 14 #[.pointer (some ⟨b, 0, none⟩), .slice ao fs.length cap] w fun e w' => e = .returned (.tuple #[]) ∧ Armed w' S b x ys a ∧ Chg S w w' := by
  obtain ⟨s, f, h1, h2, _⟩ := h
  refine (armS S b s ao cap fs w h1 hS hc hap hl hf).mono ?_
  rintro e w' ⟨rfl, r1, r2⟩
  exact ⟨rfl, ⟨_, f, r1, ⟨⟨h2.up.down, h2.up.files, h2.up.acts, Nat.le_refl _, h2.up.cnt⟩, h2.bytes, h2.whole, h2.small, h2.rest⟩⟩, r2⟩
theorem pairs_in {w : World} {ao : Option Addr} {fs : List (Int × Int)} (h : ElemsAt pairShape w ao fs) : FatesIn w ao fs := by
  rcases h with h | ⟨b, off, e, hl, hc⟩
  · exact .inl h
  · refine .inr ⟨b, off, e, hl, fun j hj => ?_⟩
    rw [getD_lt _ _ _ hj]
    exact ⟨hc j hj 0 _ rfl, hc j hj 1 _ rfl⟩
theorem pairs_lt {w : World} {ao : Option Addr} {fs : List (Int × Int)} (h : ElemsAt pairShape w ao fs) (hn : fs ≠ []) : ∀ ad, ao = some ad → ad.block < w.heap.size := by
  rcases h with h | ⟨b, off, e, hl, hc⟩
  · exact absurd h hn
  · intro ad e2
    rw [e] at e2
    cases e2
    exact hl

/-- The log in block lb holds ys, the row v holds rs. -/
structure Going (w wr : World) (B : Nat) (S : Nat → Prop) (b lb : Nat) (rs : List ByteArray) (N : Nat) (v : Value) : Prop where
  new : ∀ k, wr.heap.size ≤ k → S k
  low : ∀ k, S k → B ≤ k
  nlog : ¬ S lb
  log : ∃ n, n ≤ N ∧ LogAt wr lb n b LN false
  row : wr.ownsRow B 9 1 v rs.length (strVals rs)
  far : ∀ k, v.ownBlock = some k → ¬ S k
  base : w.heap.size ≤ B ∧ B ≤ lb ∧ B ≤ wr.heap.size
  below : Below w.heap.size w wr
section
variable {w wr w' : World} {B b lb N : Nat} {S : Nat → Prop} {rs : List ByteArray} {v : Value}
theorem Going.apart (h : Going w wr B S b lb rs N v) : v.ownBlock ≠ some lb := by
  obtain ⟨n, _, hl⟩ := h.log
  exact own_far h.row (show wr.heap[lb]? = some (.cells _ _ _) from hl) (by decide)
/-- The log was asked. -/
theorem Going.moved (h : Going w wr B S b lb rs N v) (hc : Chg (fun k => S k ∨ k = lb) wr w') {N' : Nat} (hl : ∃ n, n ≤ N' ∧ LogAt w' lb n b LN false) : Going w w' B S b lb rs N' v := by
  have hb := h.base
  refine ⟨fun k e => h.new k (Nat.le_trans hc.size e), h.low, h.nlog, hl, own_keep h.row fun k e => hc.block k (h.row.lt k e).2 (fun q => q.elim (h.far k e) (fun q => h.apart (by rw [e, q]))), h.far, ⟨hb.1, hb.2.1, Nat.le_trans hb.2.2 hc.size⟩, h.below.trans (hc.below (fun k e => e.elim (fun e => Nat.le_trans hb.1 (h.low k e)) (fun e => by omega)) h.below.size)⟩
theorem Going.past (h : Going w wr B S b lb rs N v) (hb : Below wr.heap.size wr w') {N' : Nat} (hN : N ≤ N') : Going w w' B S b lb rs N' v := by
  obtain ⟨n, h1, h2⟩ := h.log
  exact h.moved (Chg.of_below hb) ⟨n, by omega, h2.below hb⟩
/-- The row has grown. -/
theorem Going.grown (h : Going w wr B S b lb rs N v) (hg : wr.grownBy w' v.ownBlock) {v' : Value} {qs : List ByteArray} (hv : v'.ownBlock = v.ownBlock ∨ v'.ownBlock = some wr.heap.size) (hrow : w'.ownsRow B 9 1 v' qs.length (strVals qs)) : Going w w' B (Cut S wr w') b lb qs N v' := by
  have hb := h.base
  have hs := hg.size
  obtain ⟨n, h1, h2⟩ := h.log
  have hlt := h2.lt
  refine ⟨fun k e => .inr e, fun k e => Cut.lo h.low (Nat.le_trans hb.2.2 hs) e, Cut.not h.nlog (by omega), ⟨n, h1, h2.keep (hg.block lb hlt (fun e => h.apart e.symm))⟩, hrow, fun k e => ?_, ⟨hb.1, hb.2.1, Nat.le_trans hb.2.2 hs⟩, h.below.grown hg h.below.size (fun k e => by have := (h.row.lt k e).1; omega)⟩
  have hk := (hrow.lt k e).2
  rcases hv with q | q
  · exact Cut.not (h.far k (q ▸ e)) hk
  · have : k = wr.heap.size := by rw [q] at e; simpa using e.symm
    exact Cut.out (by omega) hk
theorem Going.armed {ys : List ByteArray} {a : Nat} (h : Going w wr B S b lb rs N v) (hg : wr.grownBy w' v.ownBlock) (ha : Armed wr S b LN ys a) : Armed w' (Cut S wr w') b LN ys a := by
  obtain ⟨s, f, h1, h2⟩ := ha
  have h3 : FSAt w' (fun k => S k ∧ k < wr.heap.size) b s := FSX.keep (FSAt.cut h1) fun k e hk => hg.block k hk (fun q => h.far k q.symm e.1)
  exact ⟨s, f, FSX.mono h3 fun k e => .inl e, h2⟩
end

/-- How an append of xs to a log of ys was answered. -/
def Ans (w' : World) (S : Nat → Prop) (b : Nat) (ys xs : List ByteArray) (a : Nat) (e : Ending) : Prop :=
  (e = .returned (.int .i64 0) ∧ small xs ∧ ∃ a', a' ≤ a + 2 ∧ Armed w' S b LN (ys ++ xs) a')
  ∨ (e = .returned (.int .i64 6) ∧ ∃ a', a' ≤ a + 2 ∧ Armed w' S b LN ys a')
  ∨ (e = .returned (.int .i64 2) ∧ ∃ a', a' ≤ a + 2 ∧ Armed w' S b LN ys a')
  ∨ (e = .returned (.int .i64 7) ∧ small xs ∧ Cutoff w' S b LN ys xs)
theorem Ans.done {w' : World} {S : Nat → Prop} {b : Nat} {ys xs : List ByteArray} {a : Nat} {e : Ending} (h : e = .returned (.int .i64 0)) (hs : small xs) (held : ∃ a', a' ≤ a + 2 ∧ Armed w' S b LN (ys ++ xs) a') : Ans w' S b ys xs a e := .inl ⟨h, hs, held⟩
theorem Ans.full {w' : World} {S : Nat → Prop} {b : Nat} {ys xs : List ByteArray} {a : Nat} {e : Ending} (h : e = .returned (.int .i64 6)) (held : ∃ a', a' ≤ a + 2 ∧ Armed w' S b LN ys a') : Ans w' S b ys xs a e := .inr (.inl ⟨h, held⟩)
theorem Ans.long {w' : World} {S : Nat → Prop} {b : Nat} {ys xs : List ByteArray} {a : Nat} {e : Ending} (h : e = .returned (.int .i64 2)) (held : ∃ a', a' ≤ a + 2 ∧ Armed w' S b LN ys a') : Ans w' S b ys xs a e := .inr (.inr (.inl ⟨h, held⟩))
theorem Ans.gone {w' : World} {S : Nat → Prop} {b : Nat} {ys xs : List ByteArray} {a : Nat} {e : Ending} (h : e = .returned (.int .i64 7)) (hs : small xs) (cut : Cutoff w' S b LN ys xs) : Ans w' S b ys xs a e := .inr (.inr (.inr ⟨h, hs, cut⟩))
theorem Armed.ask {w : World} {S : Nat → Prop} {b lb n a : Nat} {ys xs : List ByteArray} (h : Armed w S b LN ys a) (hS : ∀ k, w.heap.size ≤ k → S k) (hL : LogAt w lb n b LN false) (hlb : ¬ S lb) (ao : Option Addr) (cap : Nat) (hc : CellsAt w ao (strVals xs))
    (hb : bulk xs ≤ 35184372088800) (hy : bulk ys ≤ 35184372088800) (ha : a ≤ 1000000000000) (hn : n ≤ 1000000000000) :
    Calls Try.prog 10 #[.pointer (some ⟨lb, 0, none⟩), .slice ao xs.length cap] w fun e w' => Ans w' S b ys xs a e ∧ (∃ n', n' ≤ n + xs.length ∧ LogAt w' lb n' b LN false) ∧ Chg (fun k => S k ∨ k = lb) w w' := by
  by_cases hsm : small xs
  · cases xs with
    | nil =>
      refine (h.empty hL ao cap).mono ?_
      rintro e w' ⟨rfl, hb⟩
      exact ⟨.done rfl hsm ⟨a, by omega, by rw [List.append_nil]; exact h.below hb⟩, ⟨n, by omega, hL.below hb⟩, Chg.of_below hb⟩
    | cons y r =>
      refine (h.append hS hL hlb isLN ao cap hc hb hy hsm (by simp) ha hn).mono ?_
      rintro e w' ⟨r1, r2, r3⟩
      refine ⟨?_, r2, r3⟩
      rcases r1 with ⟨e1, q⟩ | ⟨e1, q⟩ | ⟨e1, q⟩
      · exact .done e1 hsm ⟨_, Nat.le_refl _, q⟩
      · exact .full e1 ⟨_, by omega, q⟩
      · exact .gone e1 hsm q
  · refine (h.long hL ao cap hc hb hsm).mono ?_
    rintro e w' ⟨rfl, hb⟩
    exact ⟨.long rfl ⟨a, by omega, h.below hb⟩, ⟨n, by omega, hL.below hb⟩, Chg.of_below hb⟩
end Go.Proofs.Ytpiaegkeclmpgaa.Wl
