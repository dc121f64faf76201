/-
  The walk of the statement FrameScans.
-/
import Derived.Test.YtckcoleaoleadaaFrameRefScan
import Derived.Test.YtckcoleaoleadaaFrameBackWalk
import Derived.Laws.OwnMore
namespace Go.Proofs.Ytckcoleaoleadaa.Fr
open Go.RowKit Cm
set_option linter.unusedVariables false

theorem first_both (T : ByteArray) (k : Int) (hT : T.size ≤ 140737488355328) (hk1 : -9223372036854775808 ≤ k) (hk2 : k ≤ 9223372036854775807) :
    ∃ (P : ByteArray) (I C : Int), (∀ w, Calls Try.prog 17 #[.string T, .int .i64 k] w fun e w' => e = .returned (.tuple #[.string P, .int .i64 I, .int .i64 C]) ∧ Below w.heap.size w w') ∧
      ∀ w, Calls Try.prog 18 #[.string T, .int .i64 k] w fun e w' => e = .returned (.tuple #[.string P, .int .i64 I, .int .i64 C]) ∧ Below w.heap.size w w' := by
  by_cases h : 0 ≤ k ∧ ∃ p r, T.data.toList.drop k.toNat = frame p ++ r ∧ p.length ≤ 65536
  · obtain ⟨h0, p, r, hd, hp⟩ := h
    obtain ⟨n, rfl⟩ := Int.eq_ofNat_of_zero_le h0
    rw [Int.toNat_natCast] at hd
    exact ⟨_, _, _, fun w => first_at T n w hT p r hp hd, fun w => refFirst_at T n w hT p r hp hd⟩
  · have hn : 0 ≤ k → k ≤ T.size → Fr.first (T.data.toList.drop k.toNat) = none := fun h0 _ =>
      first_iff.2 fun ⟨p, r, hp, hd⟩ => h ⟨h0, p, r, hd, hp⟩
    exact ⟨_, _, _, fun w => first_none T k w hT hk1 hk2 hn, fun w => refFirst_none T k w hT hk1 hk2 hn⟩

theorem own_form' {w : World} {B n : Nat} {v : Value} {vs : List Value} (h : w.ownsRow B 9 1 v n vs) (hn : 0 < n) : ∃ g cap, v = .slice (some ⟨g, 0, none⟩) n cap ∧ B ≤ g ∧ g < w.heap.size ∧ n ≤ cap ∧ CellsAt w (some ⟨g, 0, none⟩) vs := by
  obtain ⟨ao, c, hv, hc⟩ := own_cells h
  rcases h.2 with ⟨rfl, h0⟩ | ⟨g, cap, cur, rfl, hB, hg, hle, _⟩
  · omega
  · simp only [Value.slice.injEq] at hv
    obtain ⟨rfl, _, rfl⟩ := hv
    exact ⟨g, cap, rfl, hB, lt_of_block hg, by simpa using hle, hc⟩
theorem CellsAt.keep1 {w w' : World} {ao : Option Addr} {vs : List Value} (h : CellsAt w ao vs) (hb : ∀ a, ao = some a → a.block < w.heap.size → w'.heap[a.block]? = w.heap[a.block]?) (hs : w.heap.size ≤ w'.heap.size) : CellsAt w' ao vs := by
  rcases h with h | ⟨b, off, rfl, hlt, hc⟩
  · exact .inl h
  · refine .inr ⟨b, off, rfl, by omega, fun j hj => ?_⟩
    have h1 : w'.heap[b]? = w.heap[b]? := hb ⟨b, off, none⟩ rfl hlt
    rw [World.cell?_of_block (a := ⟨b, off + j, none⟩) h1]
    exact hc j hj
/-- What a scan leaves: a new row with the payloads' texts. -/
def Scans (l : List UInt8) (xs : List ByteArray) (n : Nat) : Prop := ∃ ps, Upto l ps n ∧ first (l.drop n) = none ∧ xs = strs ps
theorem Scans.unique {l : List UInt8} {xs ys : List ByteArray} {n m : Nat} (h : Scans l xs n) (k : Scans l ys m) : xs = ys ∧ n = m := by
  obtain ⟨ps, h1, h2, rfl⟩ := h
  obtain ⟨qs, k1, k2, rfl⟩ := k
  obtain ⟨rfl, hn⟩ := h1.unique h2 (k1.stop k2)
  exact ⟨rfl, hn.trans k1.at_.symm⟩
theorem Scans.len {l : List UInt8} {xs : List ByteArray} {n : Nat} (h : Scans l xs n) : 8 * xs.length ≤ l.length := by
  obtain ⟨ps, h1, _, rfl⟩ := h
  have := h1.many
  have := h1.le
  simp [strs]
  omega
theorem scans_exist (l : List UInt8) : ∃ xs n, Scans l xs n := by
  have key : ∀ m (l' : List UInt8), l'.length ≤ m → ∃ ps r, Scanned l' ps r := by
    intro m
    induction m with
    | zero => intro l' h; exact ⟨[], l', ⟨rfl, by simp, first_short (by omega)⟩⟩
    | succ m ih =>
      intro l' h
      cases hf : first l' with
      | none => exact ⟨[], l', ⟨rfl, by simp, hf⟩⟩
      | some k =>
        obtain ⟨p, r, _, hp, rfl⟩ := first_some hf
        obtain ⟨ps, s, hs⟩ := ih r (by rw [List.length_append, frame_len] at h; omega)
        exact ⟨p :: ps, s, ⟨by rw [frames, List.flatMap_cons, List.append_assoc, hs.whole]; rfl, by intro q hq; rcases List.mem_cons.1 hq with rfl | hq; exact hp; exact hs.small q hq, hs.stop⟩⟩
  obtain ⟨ps, r, h⟩ := key l.length l (Nat.le_refl _)
  have hd : l.drop (frames ps).length = r := by rw [h.whole, List.drop_left]
  exact ⟨strs ps, (frames ps).length, ps, ⟨by rw [hd]; exact h.whole, rfl, h.small⟩, by rw [hd]; exact h.stop, rfl⟩
theorem scan_fix (T : ByteArray) (w : World) (hT : T.size ≤ 70368744177600) (xs : List ByteArray) (n : Nat) (h : Scans T.data.toList xs n) :
    Calls Try.prog 15 #[.string T] w fun e w' => ∃ v, e = .returned (.tuple #[v, .int .i64 (n : Int)]) ∧ w'.ownsRow w.heap.size 9 1 v xs.length (strVals xs) ∧ Below w.heap.size w w' := by
  refine (scan_any T w hT).mono ?_
  rintro e w' ⟨⟨v, m, ps, rfl, hU, hf, hown⟩, hB⟩
  obtain ⟨rfl, rfl⟩ := h.unique ⟨ps, hU, hf, rfl⟩
  exact ⟨v, rfl, by simpa [strs] using hown, hB⟩
theorem refScan_fix (T : ByteArray) (w : World) (hT : T.size ≤ 70368744177600) (xs : List ByteArray) (n : Nat) (h : Scans T.data.toList xs n) :
    Calls Try.prog 16 #[.string T] w fun e w' => ∃ v, e = .returned (.tuple #[v, .int .i64 (n : Int)]) ∧ w'.ownsRow w.heap.size 9 1 v xs.length (strVals xs) ∧ Below w.heap.size w w' := by
  refine (refScan_any T w hT).mono ?_
  rintro e w' ⟨⟨v, m, ps, rfl, hU, hf, hown⟩, hB⟩
  obtain ⟨rfl, rfl⟩ := h.unique ⟨ps, hU, hf, rfl⟩
  exact ⟨v, rfl, by simpa [strs] using hown, hB⟩

set_option maxRecDepth 100000 in
set_option maxHeartbeats 2000000 in
theorem scans_walk (T : ByteArray) (at_ : Int) (w : World) (hT : T.size ≤ 35184372088) (hk1 : -9223372036854775808 ≤ at_) (hk2 : at_ ≤ 9223372036854775807) :
    Calls Try.prog 5 #[.string T, .int .i64 at_] w fun e w' => e = .returned (.bool true) ∧ Below w.heap.size w w' := by
  obtain ⟨i0, hi0, hz0, hz1, hz2⟩ := info_parts infoStr
  obtain ⟨xs, n, hsc⟩ := scans_exist T.data.toList
  have hlx : xs.length ≤ 35184372088 := by have := hsc.len; rw [← Lib.size_eq] at this; omega
  obtain ⟨P, I, C, hF1, hF2⟩ := first_both T at_ (by omega) hk1 hk2
  have HSc : Hid _ := hsc
  have HF1 : Hid _ := hF1
  have HF2 : Hid _ := hF2
  clear hsc hF1 hF2
  go_enter Try.func5, Try.ntmps5
  go_wp2_with fail
  refine (lives_any _).mono ?_
  rintro e w1 ⟨rfl, hB1⟩
  have hs1 := hB1.size
  go_wp2_with fail
  refine (scan_fix T _ (by omega) xs n HSc.out).mono ?_
  rintro e w2 ⟨va, rfl, hoa, hb2⟩
  have hs2 := hb2.size
  go_wp2_with fail
  refine (scan_fix T _ (by omega) xs n HSc.out).mono ?_
  rintro e w3 ⟨vb, rfl, hob, hb3⟩
  have hs3 := hb3.size
  go_wp2_with fail
  refine (refScan_fix T _ (by omega) xs n HSc.out).mono ?_
  rintro e w4 ⟨vw, rfl, how, hb4⟩
  have hs4 := hb4.size
  go_wp2_with fail
  refine (HF1.out _).mono ?_
  rintro e w5 ⟨rfl, hb5⟩
  have hs5 := hb5.size
  go_wp2_with fail
  refine (HF2.out _).mono ?_
  rintro e w6 ⟨rfl, hb6⟩
  have hs6 := hb6.size
  have hoa6 : w6.ownsRow w1.heap.size 9 1 va xs.length (strVals xs) := own_keep hoa fun k hk => by
    have := (hoa.lt k hk).2
    rw [hb6.block k (by omega), hb5.block k (by omega), hb4.block k (by omega), hb3.block k (by omega)]
  have hob6 : w6.ownsRow w2.heap.size 9 1 vb xs.length (strVals xs) := own_keep hob fun k hk => by
    have := (hob.lt k hk).2
    rw [hb6.block k (by omega), hb5.block k (by omega), hb4.block k (by omega)]
  have how6 : w6.ownsRow w3.heap.size 9 1 vw xs.length (strVals xs) := own_keep how fun k hk => by
    have := (how.lt k hk).2
    rw [hb6.block k (by omega), hb5.block k (by omega)]
  have hbel : Below w.heap.size w w6 := ((((hB1.trans (hb2.mono (by omega))).trans (hb3.mono (by omega))).trans (hb4.mono (by omega))).trans (hb5.mono (by omega))).trans (hb6.mono (by omega))
  have hla : ∀ k, va.ownBlock = some k → w1.heap.size ≤ k ∧ k < w2.heap.size := fun k hk => hoa.lt k hk
  clear hoa hob how hb2 hb3 hb4 hb5 hb6 HF1 HF2 HSc hB1
  obtain ⟨aa, ca, rfl, hca⟩ := own_cells hoa6
  obtain ⟨ab, cb, rfl, hcb⟩ := own_cells hob6
  obtain ⟨aw, cw, rfl, hcw⟩ := own_cells how6
  go_wp2_with fail
  refine (same_any aa aw ca cw xs _ hca hcw (by omega)).mono ?_
  rintro e w7 ⟨rfl, n7, rfl⟩
  go_wp2_with fail
  refine (same_any ab aw cb cw xs _ (hcb.drew (n := n7)) (hcw.drew (n := n7)) (by omega)).mono ?_
  rintro e w8 ⟨rfl, n8, rfl⟩
  rw [World.drewN_drewN]
  obtain ⟨W, hW⟩ : ∃ W, W = w6.drewN (n7 + n8) := ⟨_, rfl⟩
  have hoa8 : W.ownsRow w1.heap.size 9 1 (.slice aa xs.length ca) xs.length (strVals xs) := by rw [hW]; exact own_keep hoa6 fun _ _ => rfl
  have hcb8 : CellsAt W ab (strVals xs) := by rw [hW]; exact hcb.drew
  have hcw8 : CellsAt W aw (strVals xs) := by rw [hW]; exact hcw.drew
  have hbel8 : Below w.heap.size w W := by rw [hW]; exact below_drew hbel
  have hWs : w6.heap.size ≤ W.heap.size := by rw [hW]; exact Nat.le_refl _
  have hab : ∀ k, ab = some k → w2.heap.size ≤ k.block := fun k hk => (hob6.lt k.block (by rw [hk]; rfl)).1
  have haw : ∀ k, aw = some k → w3.heap.size ≤ k.block := fun k hk => (how6.lt k.block (by rw [hk]; rfl)).1
  rw [← hW]
  clear hW hoa6 hob6 how6 hca hcb hcw hbel
  go_wp2_with fail
  go_loopw [86] (fun i wr => ∃ (k : Nat) (ys : List Value), k ≤ xs.length ∧ i = .int .i64 k ∧ Hid (wr.ownsRow w1.heap.size 9 1 (.slice aa xs.length ca) xs.length ys) ∧ Hid (W.grownBy wr (Value.slice aa xs.length ca).ownBlock)) (fun i _ => xs.length - (intOf i).toNat)
  case atStart => exact ⟨0, strVals xs, by omega, rfl, hoa8, ⟨rfl, rfl, rfl, Nat.le_refl _, fun _ _ _ => rfl⟩⟩
  case round =>
    obtain ⟨k, ys, hk, rfl, HO, HG⟩ := hrel
    by_cases hlt : k < xs.length
    · obtain ⟨g, cap, he, _, _, _, _⟩ := own_form' HO.out (by omega)
      simp only [Value.slice.injEq, true_and] at he
      obtain ⟨rfl, rfl⟩ := he
      have hst := HO.out.stored k (.string ⟨#[109, 97, 114, 107]⟩)
      have hfz := HO.out.frozenAt k
      have hcell := HO.out.cellAt k (by omega)
      have hyl : k < ys.length := by have := HO.out.1; omega
      rw [List.getElem?_eq_getElem hyl] at hcell
      have HO1 : Hid _ := hst.1
      have HG1 : Hid _ := HG.out.trans hst.2
      have hk0 : (0 : Int) ≤ (k : Int) := by omega
      have hk1 : (k : Int) < (xs.length : Int) := by omega
      clear hst
      go_wp2
      go_roundw
      case rel => exact ⟨k + 1, _, by omega, by go_num, HO1, HG1⟩
      case measure => simp [intOf]; omega
    · have hk' : k = xs.length := by omega
      subst hk'
      have HBr : Hid (Below w.heap.size w wr) := hbel8.grown HG.out (by omega) (fun k hk => by have := (HO.out.lt k hk).1; omega)
      have hsr := HBr.out.size
      have hgs := HG.out.size
      go_wp2_with (at_builtin; refine wpList_append_any _ rfl _ _ 22 rfl w1.heap.size 9 i0 (.string ⟨#[]⟩) 16 Try.underlying22 hi0 hz0 hz1 hz2 rfl (.slice aa xs.length ca) xs.length ys rfl (HO.out.alloc _) (some ⟨wr.heap.size, 0, none⟩) 1 1 (strVals [⟨#[109, 111, 114, 101]⟩]) rfl (by simp) rfl (cells1' _) ?c0 ?c1 ?c2 ?c3 ?_)
      case c0 => intro u hu; obtain ⟨x, _, rfl⟩ := List.mem_map.1 hu; rfl
      case c1 => unfold maxLen; omega
      case c2 => omega
      case c3 => simp; omega
      intro v9 w9 hown9 hgrow9 hat9
      have hG9 : wr.grownBy w9 (Value.slice aa xs.length ca).ownBlock :=
        ⟨hgrow9.os, hgrow9.tape, hgrow9.output, by have := hgrow9.size; simp at this; omega, fun k hk hr => (hgrow9.block k (by simp; omega) hr).trans (Below.heap_alloc _ _ _ hk)⟩
      have hB9 : Below w.heap.size w w9 := HBr.out.grown hG9 (by omega) (fun k hk => by have := (hla k hk).1; omega)
      have hG : W.grownBy w9 (Value.slice aa xs.length ca).ownBlock := HG.out.trans hG9
      have hcb9 : CellsAt w9 ab (strVals xs) := CellsAt.keep1 hcb8 (fun a ha hl => hG.block _ hl (fun e => by have := hab a ha; have := (hla _ e.symm).2; omega)) hG.size
      have hcw9 : CellsAt w9 aw (strVals xs) := CellsAt.keep1 hcw8 (fun a ha hl => hG.block _ hl (fun e => by have := haw a ha; have := (hla _ e.symm).2; omega)) hG.size
      obtain ⟨g9, c9, rfl, _, _, _, _⟩ := own_form' hown9 (by omega)
      clear hG hG9 hgrow9 hat9 hown9 HO HG HBr hoa8 hcb8 hcw8 hbel8
      go_wp2_with fail
      refine (same_any ab aw cb cw xs _ hcb9 hcw9 (by omega)).mono ?_
      rintro e w10 ⟨rfl, n10, rfl⟩
      go_wp2
      go_ret
      exact ⟨rfl, below_drew hB9⟩

end Go.Proofs.Ytckcoleaoleadaa.Fr
