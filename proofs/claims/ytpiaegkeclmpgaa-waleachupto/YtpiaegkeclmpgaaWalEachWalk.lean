/-
  The walk of the statement WalEach.
-/
import Derived.Test.YtpiaegkeclmpgaaWalLives
namespace Go.Proofs.Ytpiaegkeclmpgaa.Wl
open Go.RowKit Cm Vf
set_option linter.unusedVariables false

/-- From lo up to hi, and from top on. -/
def Rng (lo hi top k : Nat) : Prop := (lo ≤ k ∧ k < hi) ∨ top ≤ k
theorem Held.appendAny {w : World} {S : Nat → Prop} {b lb n a : Nat} {x : ByteArray} {ys xs : List ByteArray} (h : Held w S b x ys [] a) (hS : ∀ k, w.heap.size ≤ k → S k) (hL : LogAt w lb n b x false) (hlb : ¬ S lb) (hx : isName x.data.toList = true) (ao : Option Addr) (cap : Nat) (hc : CellsAt w ao (strVals xs))
    (hb : bulk xs ≤ 35184372088800) (hy : bulk ys ≤ 35184372088800) (hxs : small xs) (ha : a ≤ 1000000000000000) (hn : n ≤ 1000000000000000) :
    Calls Try.prog 10 #[.pointer (some ⟨lb, 0, none⟩), .slice ao xs.length cap] w fun e w' => e = .returned (.int .i64 0) ∧ (∃ a', a' ≤ a + 2 ∧ Held w' S b x (ys ++ xs) [] a') ∧ LogAt w' lb (n + xs.length) b x false ∧ Chg (fun k => S k ∨ k = lb) w w' := by
  cases xs with
  | nil =>
    refine (h.empty hL ao cap).mono ?_
    rintro e w' ⟨rfl, hb⟩
    exact ⟨rfl, ⟨a, by omega, by rw [List.append_nil]; exact h.below hb⟩, hL.below hb, Chg.of_below hb⟩
  | cons y ys' =>
    refine (h.append hS hL hlb hx ao cap hc hb hy hxs (by simp) ha hn).mono ?_
    rintro e w' ⟨rfl, r1, r2, r3⟩
    exact ⟨rfl, ⟨_, Nat.le_refl _, r1⟩, r2, r3⟩
theorem small_bad {xs : List ByteArray} {y : ByteArray} (h : y ∈ xs) (hy : 65536 < y.size) : ¬ small xs := fun k => by have := k y h; omega
theorem Cells1 {w : World} (X : ByteArray) : CellsAt (w.alloc (.cells #[.string X] 9)) (some ⟨w.heap.size, 0, none⟩) (strVals [X]) := Fr.cells1' X

set_option maxRecDepth 100000 in
set_option maxHeartbeats 2000000 in
theorem each_walk (ao : Option Addr) (cap : Nat) (xs : List ByteArray) (w : World) (hc : CellsAt w ao (strVals xs)) (hb : xs.length + total xs ≤ 1099511627776) :
    Calls Try.prog 3 #[.slice ao xs.length cap] w fun e w' => e = .returned (.bool true) ∧ Below w.heap.size w w' := by
  have hlen : xs.length ≤ 1099511627776 := by omega
  have hbk : bulk xs ≤ 8796093022208 := by unfold bulk; omega
  have HX : Hid (∀ wr, Below w.heap.size w wr → CellsAt wr ao (strVals xs)) := fun wr h => hc.below h
  have HSz : Hid (∀ y ∈ xs, y.size ≤ 1099511627776) := fun y hy => by have := Fr.size_total hy; omega
  clear hc hb
  go_enter Try.func3, Try.ntmps3
  go_wp2_with fail
  refine (lives_any w).mono ?_
  rintro e w0 ⟨rfl, hb0⟩
  have hs0 := hb0.size
  go_wp2_with fail
  refine (newHeld LN w0).mono ?_
  rintro e w1 ⟨rfl, F1, hb1⟩
  have hs1 := hb1.size
  have hF1 := F1.lt
  have F1 : Hid (Held w1 (fun k => w0.heap.size ≤ k) (w0.heap.size + 1) LN [] [] 0) := F1
  have HB1 : Hid _ := hb1
  clear hb1
  go_wp2_with fail
  refine (newHeld LN w1).mono ?_
  rintro e w2 ⟨rfl, G2, hb2⟩
  have hs2 := hb2.size
  have F2 : Hid (Held w2 (Cut (fun k => w0.heap.size ≤ k) w1 w2) (w0.heap.size + 1) LN [] [] 0) := F1.out.cutTo hb2
  have G2 : Hid (Held w2 (fun k => w1.heap.size ≤ k) (w1.heap.size + 1) LN [] [] 0) := G2
  have HB2 : Hid _ := hb2
  clear hb2 F1
  go_wp2_with fail
  refine (F2.out.open isLN (by decide)).mono ?_
  rintro e w3 ⟨la, ao3, cap3, rfl, _, A3, ha3, hb3⟩
  have hs3 := hb3.size
  have hla := A3.lt
  have A3 : Hid (LogAt w3 la 0 (w0.heap.size + 1) LN false) := A3
  have F3 : Hid (Held w3 (Cut (Cut (fun k => w0.heap.size ≤ k) w1 w2) w2 w3) (w0.heap.size + 1) LN [] [] 0) := F2.out.cutTo hb3
  have G3 : Hid (Held w3 (Cut (fun k => w1.heap.size ≤ k) w2 w3) (w1.heap.size + 1) LN [] [] 0) := G2.out.cutTo hb3
  have HB3 : Hid _ := hb3
  clear hb3 F2 G2
  go_wp2_with fail
  refine (G3.out.open isLN (by decide)).mono ?_
  rintro e w4 ⟨lb, ao4, cap4, rfl, _, B4, hb4', hb4⟩
  have hs4 := hb4.size
  have hlb := B4.lt
  have B4 : Hid (LogAt w4 lb 0 (w1.heap.size + 1) LN false) := B4
  have A4 : Hid (LogAt w4 la 0 (w0.heap.size + 1) LN false) := A3.out.below hb4
  have F4 : Hid (Held w4 (Rng w0.heap.size w1.heap.size w4.heap.size) (w0.heap.size + 1) LN [] [] 0) := (F3.out.cutTo hb4).widen fun k e hk => by
    simp only [Cut] at e; unfold Rng; omega
  have G4 : Hid (Held w4 (Rng w1.heap.size w2.heap.size w4.heap.size) (w1.heap.size + 1) LN [] [] 0) := (G3.out.cutTo hb4).widen fun k e hk => by
    simp only [Cut] at e; unfold Rng; omega
  have HB4 : Hid (Below w.heap.size w w4) := (((hb0.trans (HB1.out.mono hs0)).trans (HB2.out.mono (by omega))).trans (HB3.out.mono (by omega))).trans (hb4.mono (by omega))
  clear hb4 F3 G3 A3 HB3 HB2 HB1 hb0
  go_wp2
  go_loopw [51] (fun i wr => ∃ k : Nat, k ≤ xs.length ∧ i = .int .i64 k ∧ Hid (wr = w4) ∧ Hid (small (xs.take k))) (fun i _ => xs.length - (intOf i).toNat)
  case atStart => exact ⟨0, by omega, rfl, rfl, by show small _; exact small_nil⟩
  case round =>
    obtain ⟨k, hk, rfl, HW, HS⟩ := hrel
    have hwr := HW.out.symm
    subst hwr
    clear HW
    by_cases hlt : k < xs.length
    · rcases HX.out w4 HB4.out with h0 | ⟨pb, off, rfl, hbl, hcells⟩
      · have : xs.length = 0 := by have := congrArg List.length h0; simpa [strVals] using this
        omega
      have hck := hcells k (by simpa [strVals] using hlt)
      have hx : (strVals xs)[k]? = some (.string (xs.getD k ByteArray.empty)) := by simp [strVals, hlt]
      have hmem : xs.getD k ByteArray.empty ∈ xs := by rw [getD_lt _ _ _ hlt]; exact List.getElem_mem hlt
      have HT : Hid (xs.take (k + 1) = xs.take k ++ [xs.getD k ByteArray.empty]) := by rw [getD_lt _ _ _ hlt]; exact List.take_succ_eq_append_getElem hlt
      have hsz := HSz.out _ hmem
      rw [hx] at hck
      generalize xs.getD k ByteArray.empty = y at *
      clear hcells hx hmem hbl
      by_cases hbig : 65536 < y.size
      · have HLo : Hid _ := Held.long (xs := [y]) (F4.out.alloc (.cells #[.string y] 9)) (A4.out.below ((Below.refl _ _).alloc (Nat.le_refl _) _)) (some ⟨w4.heap.size, 0, none⟩) 1 (Cells1 y) (by rw [bulk_one]; omega) (small_bad (List.mem_singleton.2 rfl) hbig)
        go_wp2_with fail
        refine (show Calls _ _ _ _ _ from HLo.out).mono ?_
        rintro e w5 ⟨rfl, hb5⟩
        have HB5 : Hid (Below w.heap.size w w5) := (HB4.out.alloc (by omega) _).trans (hb5.mono (by simp; omega))
        clear hb5 HLo
        go_wp2
        go_ret
        exact ⟨rfl, HB5.out⟩
      · have HS1 : Hid (small (xs.take (k + 1))) := by rw [HT.out]; exact small_append HS.out (small_one (by omega))
        go_wp2
        go_roundw
        case rel => exact ⟨k + 1, by omega, by go_num, (show True from trivial), HS1⟩
        case measure => simp [intOf]; omega
    · obtain rfl : k = xs.length := by omega
      rw [List.take_length] at HS
      have HAp : Hid _ := F4.out.appendAny (fun k e => .inr e) A4.out (by unfold Rng; omega) isLN ao cap (HX.out w4 HB4.out) (by omega) (by decide) HS.out (by decide) (by decide)
      go_wp2_with fail
      refine (show Calls _ _ _ _ _ from HAp.out).mono ?_
      rintro e w5 ⟨rfl, ⟨a5, ha5, F5⟩, A5, hc5⟩
      rw [List.nil_append] at F5
      rw [Nat.zero_add] at A5
      have hs5 := hc5.size
      have HB5 : Hid (Below w.heap.size w w5) := HB4.out.trans (hc5.below (fun k e => by unfold Rng at e; omega) (by omega))
      have B5 : Hid (LogAt w5 lb 0 (w1.heap.size + 1) LN false) := B4.out.chg hc5 (by unfold Rng; omega)
      have A5 : Hid (LogAt w5 la xs.length (w0.heap.size + 1) LN false) := A5
      have G5 : Hid (Held w5 (Rng w1.heap.size w2.heap.size w5.heap.size) (w1.heap.size + 1) LN [] [] 0) :=
        (Held.keep (G4.out.widen (T := fun k => w1.heap.size ≤ k ∧ k < w2.heap.size) fun k e hk => by unfold Rng at e; omega) fun k e hk => hc5.block k hk (by unfold Rng; omega)).widen fun k e hk => .inl e
      have F5 : Hid (Held w5 (fun k => (w0.heap.size ≤ k ∧ k < w1.heap.size) ∨ (w4.heap.size ≤ k ∧ k < w5.heap.size)) (w0.heap.size + 1) LN xs [] a5) := Held.widen F5 fun k e hk => by unfold Rng at e; omega
      clear HAp F4 G4 A4 B4 hc5 HB4
      go_wp2
      go_loopw [70] (fun i wq => ∃ k : Nat, k ≤ xs.length ∧ i = .int .i64 k ∧ w5.heap.size ≤ wq.heap.size ∧ Hid (Below w.heap.size w wq) ∧ Hid (Held wq (Rng w1.heap.size w2.heap.size w5.heap.size) (w1.heap.size + 1) LN (xs.take k) [] (2 * k)) ∧ Hid (LogAt wq lb k (w1.heap.size + 1) LN false) ∧ Hid (LogAt wq la xs.length (w0.heap.size + 1) LN false) ∧ Hid (Held wq (fun k => (w0.heap.size ≤ k ∧ k < w1.heap.size) ∨ (w4.heap.size ≤ k ∧ k < w5.heap.size)) (w0.heap.size + 1) LN xs [] a5)) (fun i _ => xs.length - (intOf i).toNat)
      case atStart => exact ⟨0, by omega, rfl, Nat.le_refl _, HB5, G5, B5, A5, F5⟩
      case round =>
        obtain ⟨k, hk, rfl, hsq, HB, HG, HLb, HLa, HF⟩ := hrel
        by_cases hlt : k < xs.length
        · rcases HX.out wr HB.out with h0 | ⟨pb, off, rfl, hbl, hcells⟩
          · have : xs.length = 0 := by have := congrArg List.length h0; simpa [strVals] using this
            omega
          have hck := hcells k (by simpa [strVals] using hlt)
          have hx : (strVals xs)[k]? = some (.string (xs.getD k ByteArray.empty)) := by simp [strVals, hlt]
          have hmem : xs.getD k ByteArray.empty ∈ xs := by rw [getD_lt _ _ _ hlt]; exact List.getElem_mem hlt
          have HT : Hid (xs.take (k + 1) = xs.take k ++ [xs.getD k ByteArray.empty]) := by rw [getD_lt _ _ _ hlt]; exact List.take_succ_eq_append_getElem hlt
          have hsz := HS.out _ hmem
          have hbt := bulk_take xs k
          rw [hx] at hck
          generalize xs.getD k ByteArray.empty = y at *
          clear hcells hx hmem hbl
          have HAp : Hid _ := Held.append (xs := [y]) (HG.out.alloc (.cells #[.string y] 9)) (fun k e => .inr (by simp at e; omega)) (HLb.out.below ((Below.refl _ _).alloc (Nat.le_refl _) _)) (by unfold Rng; omega) isLN (some ⟨wr.heap.size, 0, none⟩) 1 (Cells1 y) (by rw [bulk_one]; omega) (by omega) (small_one hsz) (by simp) (by omega) (by omega)
          go_wp2_with fail
          refine (show Calls _ _ _ _ _ from HAp.out).mono ?_
          rintro e w6 ⟨rfl, G6, B6, hc6⟩
          have hcq : Chg (fun k => Rng w1.heap.size w2.heap.size w5.heap.size k ∨ k = lb) wr w6 := (Chg.alloc _ wr _).then hc6
          have hs6 := hcq.size
          have HB6 : Hid (Below w.heap.size w w6) := HB.out.trans (hcq.below (fun k e => by unfold Rng at e; omega) (by omega))
          have HLa6 : Hid (LogAt w6 la xs.length (w0.heap.size + 1) LN false) := HLa.out.chg hcq (by unfold Rng; omega)
          have HF6 : Hid (Held w6 (fun k => (w0.heap.size ≤ k ∧ k < w1.heap.size) ∨ (w4.heap.size ≤ k ∧ k < w5.heap.size)) (w0.heap.size + 1) LN xs [] a5) := HF.out.keep fun k e hk => hcq.block k hk (by unfold Rng; omega)
          have HG6 : Hid (Held w6 (Rng w1.heap.size w2.heap.size w5.heap.size) (w1.heap.size + 1) LN (xs.take (k + 1)) [] (2 * (k + 1))) := by rw [HT.out]; exact G6
          have HL6 : Hid (LogAt w6 lb (k + 1) (w1.heap.size + 1) LN false) := B6
          clear hcq hc6 G6 B6 HAp HB HG HLb HLa HF
          go_wp2
          go_roundw
          case rel => exact ⟨k + 1, by omega, by go_num, by omega, HB6, HG6, HL6, HLa6, HF6⟩
          case measure => simp [intOf]; omega
        · obtain rfl : k = xs.length := by omega
          rw [List.take_length] at HG
          go_wp2_with fail
          refine (HF.out.read isLN).mono ?_
          rintro e w6 ⟨E6, rfl, hb6⟩
          have HB6 : Hid (Below w.heap.size w w6) := HB.out.trans (hb6.mono (by omega))
          have HG6 : Hid (Held w6 (Rng w1.heap.size w2.heap.size w5.heap.size) (w1.heap.size + 1) LN xs [] (2 * xs.length)) := HG.out.below hb6
          have HLb6 : Hid (LogAt w6 lb xs.length (w1.heap.size + 1) LN false) := HLb.out.below hb6
          have HLa6 : Hid (LogAt w6 la xs.length (w0.heap.size + 1) LN false) := HLa.out.below hb6
          have hs6 := hb6.size
          clear hb6 HB HG HLb HLa HF
          go_wp2_with fail
          refine (Held.read HG6.out isLN).mono ?_
          rintro e w7 ⟨E7, rfl, hb7⟩
          have HB7 : Hid (Below w.heap.size w w7) := HB6.out.trans (hb7.mono (by omega))
          have HG7 : Hid (Held w7 (Rng w1.heap.size w2.heap.size w5.heap.size) (w1.heap.size + 1) LN xs [] (2 * xs.length)) := HG6.out.below hb7
          have HLb7 : Hid (LogAt w7 lb xs.length (w1.heap.size + 1) LN false) := HLb6.out.below hb7
          have HLa7 : Hid (LogAt w7 la xs.length (w0.heap.size + 1) LN false) := HLa6.out.below hb7
          have hg7 := Held.lt HG7.out
          have HQa : Hid (∀ n, Calls Try.prog 12 #[.pointer (some ⟨la, 0, none⟩)] (w7.drewN n) fun e w' => e = .returned (.int .i64 xs.length) ∧ w' = w7.drewN n) := fun n => count_any _ _ _ _ _ _ (HLa7.out.below (Fr.below_drew (Below.refl _ _)))
          have HQb : Hid (∀ n, Calls Try.prog 12 #[.pointer (some ⟨lb, 0, none⟩)] (w7.drewN n) fun e w' => e = .returned (.int .i64 xs.length) ∧ w' = w7.drewN n) := fun n => count_any _ _ _ _ _ _ (HLb7.out.below (Fr.below_drew (Below.refl _ _)))
          have HQc : Hid (∀ n, Calls Try.prog 13 #[.pointer (some ⟨w1.heap.size + 1, 0, none⟩)] (w7.drewN n) fun e w' => e = .returned (.int .i64 ((2 * xs.length : Nat) : Int)) ∧ w' = w7.drewN n) := fun n => Held.acts (HG7.out.below (Fr.below_drew (Below.refl _ _)))
          have ca := HLa7.out.cells.1
          have cb := HLb7.out.cells.1
          have cg := Held.cell HG7.out
          generalize Fr.str (Fr.framesB xs) = T at *
          clear hb7 HG6 HLb6 HLa6 HG7 HLb7 HLa7
          go_wp2
          go_quiet ((first | (go_at_call_of 12 (Value.pointer (some ⟨la, 0, none⟩)); exact Calls.quiet_of_same (HQa.out _)) | (go_at_call_of 12 (Value.pointer (some ⟨lb, 0, none⟩)); exact Calls.quiet_of_same (HQb.out _)) | (go_at_call 13; exact Calls.quiet_of_same (HQc.out _))))
          go_wp2
          go_ret
          exact ⟨rfl, Fr.below_drew HB7.out⟩
end Go.Proofs.Ytpiaegkeclmpgaa.Wl
