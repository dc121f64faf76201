/-
  The texts TableChunk.
-/
import Derived.Test.YtedjohkdfchocaaGreatQTableRound
import Derived.Test.YtedjohkdfchocaaGreatQTableMath

/-
  The library's 'slices.Chunk' over versions: what it hands to a loop, eight by eight.
-/
namespace Go.Proofs.YtedjohkdfchocaaGreat.Tb
open Go.RowKit Go.Shelf Cm Mm
attribute [local go_sem] Oper.semAt_some
set_option linter.unusedVariables false

def boxS (ao : Option Addr) (n ca : Nat) : Obj := .cells #[.slice ao n ca] 22 (0, 0)
def box8 : Obj := .cells #[.int .i64 8] 3 (0, 0)
set_option maxHeartbeats 1000000 in
theorem chunk_any (ao : Option Addr) (n ca : Nat) (w : World) :
    Calls Tryz.prog 34 #[.slice ao n ca, .int .i64 8] w fun e w' => e = .returned (.func (.func 64) #[] #[.pointer (some ⟨w.heap.size, 0, none⟩), .pointer (some ⟨w.heap.size + 1, 0, none⟩)]) ∧ w' = (w.alloc (boxS ao n ca)).alloc box8 := by
  unfold boxS box8
  go_enter Tryz.func34, Tryz.ntmps34
  go_wp2
  go_ret
  exact ⟨rfl, rfl⟩
/-- These blocks lie as they lay. -/
def Same2 (x y : Nat) (W W' : World) : Prop := W'.heap[x]? = W.heap[x]? ∧ W'.heap[y]? = W.heap[y]?
def piece (b off : Nat) (es : List En) (k : Nat) : Value := .slice (some ⟨b, off + 8 * k * 4, none⟩) (chunk es k).length (chunk es k).length
abbrev Ix (es : List En) : Type := { k : Nat // k < nch es }
def nums {es : List En} (l : List (Ix es)) : List Nat := l.map fun k => k.1
theorem nums_snoc {es : List En} (l : List (Ix es)) (x : Ix es) : nums (l ++ [x]) = nums l ++ [x.1] := by simp [nums]
theorem nums_len {es : List En} (l : List (Ix es)) : (nums l).length = l.length := by simp [nums]
set_option maxRecDepth 100000 in
set_option maxHeartbeats 2000000 in
theorem chunk1_in (n l Bs Bn b off ca : Nat) (ao : Option Addr) (hn : 1 ≤ n) (es : List En) (hao : 0 < es.length → ao = some ⟨b, off, none⟩) (hlen : es.length ≤ 100000000000) (hca : es.length ≤ ca) (J Jx : List (Ix es) → World → Prop) (hJ : ∀ s A, J s A → J s A.drew)
    (hY : ∀ pre x W, J pre W → pre.length < nch es → YieldAt Fence.wide (n - 1) Tryz.prog l #[piece b off es x.1] W fun e W' =>
      (e = .returned (.bool true) ∧ J (pre ++ [x]) W' ∧ Same2 Bs Bn W W') ∨ (e = .returned (.bool false) ∧ Jx (pre ++ [x]) W'))
    (W : World) (hBs : W.heap[Bs]? = some (boxS ao es.length ca)) (hBn : W.heap[Bn]? = some box8) (h0 : J [] W) :
    CallsIn Fence.wide n Tryz.prog 64 #[.func (.yield l) #[] #[], .pointer (some ⟨Bs, 0, none⟩), .pointer (some ⟨Bn, 0, none⟩)] W fun e W' => (∃ v, e = .returned v) ∧
      ((∃ ys, nums ys = List.range (nch es) ∧ J ys W') ∨ (∃ pre, (∃ k, k ≤ nch es ∧ nums pre = List.range k) ∧ Jx pre W')) := by
  refine callsIn_of_wp Tryz.func64 rfl trivial ?_ rfl
  simp only [Tryz.ntmps64, List.size_toArray, List.length_cons, List.length_nil, Nat.reduceAdd, Nat.reduceSub, Array.replicate_succ, Array.replicate_zero, List.push_toArray, List.append_toArray, List.nil_append, List.cons_append]
  gi_wp2
  gi_loopw [4] (fun i wr => ∃ (k m : Nat) (pre : List (Ix es)), k ≤ nch es ∧ i = .int .i64 (m : Int) ∧ m ≤ es.length + 8 ∧ Hid (m = 8 * k) ∧ Hid (nums pre = List.range k) ∧ J pre wr ∧ Hid (wr.heap[Bs]? = some (boxS ao es.length ca) ∧ wr.heap[Bn]? = some box8))
    (fun i _ => es.length + 8 - (intOf i).toNat)
  case atStart => exact ⟨0, 0, [], Nat.zero_le _, rfl, by omega, hid_rfl, hid_rfl, h0, hBs, hBn⟩
  case round =>
    obtain ⟨k, m, pre, hk, rfl, hm8, HM, HP, hJs, HSN⟩ := hrel
    obtain ⟨hS, hN⟩ := HSN.out
    have c1 : wr.cell? ⟨Bs, 0, none⟩ = some (.slice ao es.length ca) := by rw [Joins.cell_of_block hS]; rfl
    have c2 : wr.cell? ⟨Bn, 0, none⟩ = some (.int .i64 8) := by rw [Joins.cell_of_block hN]; rfl
    clear hS hN
    by_cases hlt : m < es.length
    · obtain rfl := hao (by omega)
      clear hao
      obtain ⟨fn, tmps, assign, body, hy, hR⟩ := hY pre ⟨k, nch_of (by have := HM.out; omega)⟩ wr.drew (hJ _ _ hJs) (by rw [← nums_len, HP.out, List.length_range]; exact nch_of (by have := HM.out; omega))
      obtain ⟨c, hc⟩ : ∃ c, c = min 8 (es.length - m) := ⟨_, rfl⟩
      have hpc : piece b off es k = .slice (some ⟨b, off + m * 4, none⟩) c c := by unfold piece; rw [chunk_len, ← HM.out, hc]
      rw [hpc] at hy
      have hk0 : (0 : Int) ≤ (m : Int) := by omega
      have hk1 : (m : Int) ≤ (es.length : Int) := by omega
      have hk2 : (m : Int) ≤ (ca : Int) := by omega
      have hlt' : decide ((m : Int) < (es.length : Int)) = true := decide_eq_true (by omega)
      have HC : Hid _ := hc
      clear hpc hc
      have HMIN : Hid (min (8 : Int) ((es.length - m : Nat) : Int) = (c : Int)) := by have := HC.out; show _ = _; omega
      have hc1 : (c : Int) ≤ 8 := by have := HC.out; omega
      have hc2 : (m : Int) + (c : Int) ≤ (es.length : Int) := by have := HC.out; omega
      have hc3 : (m : Int) + (c : Int) ≤ (ca : Int) := by omega
      have hc4 : (0 : Int) < (c : Int) := by have := HC.out; omega
      have hc5 : ¬ c = 0 := by omega
      gi_wp2
      gi_region
      rw [HMIN.out]
      have c1' : wr.drew.cell? ⟨Bs, 0, none⟩ = some (.slice (some ⟨b, off, none⟩) es.length ca) := c1
      have c2' : wr.drew.cell? ⟨Bn, 0, none⟩ = some (.int .i64 8) := c2
      have HSN' : Hid (wr.drew.heap[Bs]? = some (boxS (some ⟨b, off, none⟩) es.length ca) ∧ wr.drew.heap[Bn]? = some box8) := HSN.out
      clear c1 c2 HSN hY
      generalize wr.drew = W2 at *
      gi_wp2
      refine hR.mono ?_
      rintro e W3 (⟨rfl, hJ3, hk3⟩ | ⟨rfl, hJx3⟩)
      · have HS3 : Hid (W3.heap[Bs]? = some (boxS (some ⟨b, off, none⟩) es.length ca) ∧ W3.heap[Bn]? = some box8) := ⟨hk3.1.trans HSN'.out.1, hk3.2.trans HSN'.out.2⟩
        have d2 : W3.cell? ⟨Bn, 0, none⟩ = some (.int .i64 8) := by rw [Joins.cell_of_block HS3.out.2]; rfl
        gi_wp2
        go_roundw
        case rel => exact ⟨k + 1, m + 8, _, by have := nch_of (k := k) (es := es) (by have := HM.out; omega); omega, by go_num, by omega, (by have := HM.out; show _ = _; omega), (by show _ = _; rw [nums_snoc, HP.out, List.range_succ]), hJ3, HS3⟩
        case measure => simp [intOf]; omega
      · gi_wp2
        refine bodyPost_ret (results_none rfl _ _ _) rfl ?_
        exact ⟨⟨_, rfl⟩, .inr ⟨_, ⟨k + 1, by have := nch_of (k := k) (es := es) (by have := HM.out; omega); omega, by rw [nums_snoc, HP.out, List.range_succ]⟩, hJx3⟩⟩
    · obtain rfl : k = nch es := by have := HM.out; unfold nch at *; omega
      have hlt' : decide ((m : Int) < (es.length : Int)) = false := decide_eq_false (by omega)
      gi_wp2
      go_end0
      exact ⟨⟨_, rfl⟩, .inl ⟨_, HP.out, hJs⟩⟩
/-- What the loop over the chunks of these versions may go by. -/
theorem chunk_stops (n Bs Bn b off ca : Nat) (ao : Option Addr) (hn : 1 ≤ n) (es : List En) (hao : 0 < es.length → ao = some ⟨b, off, none⟩) (hlen : es.length ≤ 100000000000) (hca : es.length ≤ ca) (w : World) (hBs : w.heap[Bs]? = some (boxS ao es.length ca)) (hBn : w.heap[Bn]? = some box8) :
    SeqStopsK Fence.wide n Tryz.prog 64 #[.pointer (some ⟨Bs, 0, none⟩), .pointer (some ⟨Bn, 0, none⟩)] (fun x : Ix es => #[piece b off es x.1]) (Same2 Bs Bn) (fun ys => nums ys = List.range (nch es)) (fun pre => ∃ k, k ≤ nch es ∧ nums pre = List.range k) (nch es) w := fun l J Jx W hW hJ hJx hY h0 =>
  chunk1_in n l Bs Bn b off ca ao hn es hao hlen hca J Jx (fun s A hA => hJ s A _ none hA ⟨rfl, rfl, rfl, Nat.le_refl _, fun _ _ _ => rfl⟩ (fun r e => by cases e)) hY W
    ((hW.block _ (lt_of_block hBs)).trans hBs) ((hW.block _ (lt_of_block hBn)).trans hBn) h0
end Go.Proofs.YtedjohkdfchocaaGreat.Tb
