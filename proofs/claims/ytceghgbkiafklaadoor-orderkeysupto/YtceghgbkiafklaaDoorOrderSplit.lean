/-
  Package order: 'Split' answers the parts that the bytes are the key of, or that they are no key.
-/
import Derived.Test.YtceghgbkiafklaaDoorOrderTake
namespace Go.Proofs.YtceghgbkiafklaaDoor.Od
open Go.RowKit
open Go.Proofs.YtceghgbkiafklaaDoor.Cm
attribute [local go_sem ↓] Go.wp_at_zero Go.wp_at_succ
set_option linter.unusedVariables false

theorem keyOf_ge {ps : List Pt} (h : rights ps) : tot ps + 3 * ps.length ≤ (keyOf ps).length := by
  induction ps with
  | nil => simp [tot, keyOf]
  | cons p ps ih =>
    rw [keyOf_cons, List.length_append, tot_cons, List.length_cons]
    have h1 := ih (fun q hq => h q (by simp [hq]))
    have h2 : p.s.size + 3 ≤ (partB p).length := by
      rcases h p (by simp) with ⟨hk, hs⟩ | ⟨hk, hn⟩
      · have := (partB_length p).2; omega
      · have h21 : ¬ (p.k = 1) := by omega
        have h3 := (esc_length p.t).2
        have h4 : p.t.length = p.s.size := by rw [Lib.size_eq]; rfl
        simp only [partB, h21, if_false]
        simp; omega
    omega
/-- What Split answers. -/
def SplitAns (w : World) (l : List UInt8) (e : Ending) (w' : World) : Prop :=
  (¬ isKey l ∧ e = .returned (.tuple #[.slice none 0 0, .int .i64 3])) ∨
  (∃ ps v, rights ps ∧ oks ps ∧ l = keyOf ps ∧ e = .returned (.tuple #[v, .int .i64 0]) ∧ w'.ownsRow w.heap.size 25 3 v ps.length (partVals ps))

set_option maxRecDepth 100000 in
set_option maxHeartbeats 500000 in
theorem Split_any (s : ByteArray) (w : World) (hm : MaxOk w) (hs : s.size < 4294967281) :
    Calls Tryd.prog 13 #[.string s] w fun e w' => SplitAns w s.data.toList e w' ∧ Below w.heap.size w w' := by
  obtain ⟨i0, hi0, hz0, hz1, hz2⟩ := info_parts infoPart
  have hw0 := hm.lt
  go_enter Tryd.func13, Tryd.ntmps13
  go_wp2_with fail
  go_loopw [4] (fun u wr => ∃ (ps : List Pt) (go : Option Addr) (c : Nat) (r : Option Nat) (bs : List UInt8) (rs : ByteArray), u = .slice go ps.length c ∧ Hid (rights ps ∧ oks ps ∧ s.data.toList = keyOf ps ++ rs.data.toList) ∧
      Hid (RAt wr w.heap.size w.heap.size r bs rs) ∧ Hid (wr.ownsRow w.heap.size 25 3 (.slice go ps.length c) ps.length (partVals ps)) ∧ Hid (∀ k, Value.ownBlock (.slice go ps.length c) = some k → k ≠ w.heap.size ∧ r ≠ some k) ∧ Hid (Below w.heap.size w wr)) (fun _ wr => leftSize wr w.heap.size)
  case atStart => exact ⟨[], none, 0, none, [], s, rfl, ⟨(fun p hp => by simp at hp), (fun p hp => by simp at hp), rfl⟩, new_G w _ [.string s], ⟨rfl, .inl ⟨rfl, rfl⟩⟩, (fun k hk => by cases hk), (Below.refl _ _).alloc (Nat.le_refl _) _⟩
  case round =>
    obtain ⟨ps, go, c, r, bs, rs, rfl, HP, HR, HO, HA, HB⟩ := hrel
    have hsr := HB.out.size
    obtain ⟨hc, hf⟩ := HR.out.left
    have hltr := HR.out.lt
    have HM : Hid (leftSize wr w.heap.size = rs.size) := leftSize_of HR.out
    have HLn : Hid (tot ps + 3 * ps.length + rs.size ≤ s.size) := by
      show _ ≤ _
      have h1 := keyOf_ge HP.out.1
      have h2 := congrArg List.length HP.out.2.2
      rw [List.length_append, ← Lib.size_eq, ← Lib.size_eq] at h2
      omega
    by_cases hz : rs.size = 0
    · obtain rfl := empty_eq hz
      have HF : Hid (SplitAns w s.data.toList (.returned (.tuple #[.slice go ps.length c, .int .i64 0])) wr) :=
        .inr ⟨ps, _, HP.out.1, HP.out.2.1, by have := HP.out.2.2; simpa using this, rfl, HO.out⟩
      clear hc hf hz
      obtain ⟨hc, hf⟩ := HR.out.left
      go_wp2
      go_ret2
      exact ⟨HF.out, HB.out⟩
    · have hemp : rs.toList.isEmpty = false := by
        cases hl : rs.toList with
        | nil => rw [Lib.toList_data] at hl; exact absurd (by rw [Lib.size_eq, hl]; rfl) hz
        | cons x l => rfl
      have hln := HLn.out
      have hrow := fun i hi => (HR.out.row_ge i hi)
      go_wp2_with fail
      refine (takePart_any w.heap.size w.heap.size r bs rs _ HR.out (hm.below HB.out) hw0 (by omega) (by omega) (by omega) hsr).mono ?_
      rintro e w3 (⟨hno, ⟨q, rfl⟩, r3, bs3, s3, hw3, st3⟩ | ⟨p, rr, hrp, hop, hl3, rfl, r3, bs3, hw3, st3⟩)
      · have HF : Hid (SplitAns w s.data.toList (.returned (.tuple #[.slice none 0 0, .int .i64 3])) w3) := by
          refine .inl ⟨?_, rfl⟩
          rw [HP.out.2.2]
          exact noKey_of HP.out.1 HP.out.2.1 (fun e => hz (by rw [Lib.size_eq, e]; rfl)) hno
        have HB3 : Hid (Below w.heap.size w w3) := HB.out.trans (st3.below (Nat.le_refl _) (fun i hi => (hrow i hi).1) hsr)
        have hs3 := HB3.out.size
        clear hw3 st3
        unfold pv
        go_wp2
        go_ret2
        refine ⟨?_, HB3.out.alloc hs3 _⟩
        rcases HF.out with h | ⟨ps, v, _, _, _, h, _⟩
        · exact .inl h
        · simp at h
      · have HP3 : Hid (rights (ps ++ [p]) ∧ oks (ps ++ [p]) ∧ s.data.toList = keyOf (ps ++ [p]) ++ rr) := by
          refine ⟨fun q hq => ?_, fun q hq => ?_, ?_⟩
          · rcases List.mem_append.1 hq with hq | hq
            · exact HP.out.1 q hq
            · simp only [List.mem_singleton] at hq; rw [hq]; exact hrp
          · rcases List.mem_append.1 hq with hq | hq
            · exact HP.out.2.1 q hq
            · simp only [List.mem_singleton] at hq; rw [hq]; exact hop
          · rw [HP.out.2.2, hl3, keyOf_snoc, List.append_assoc]
        have HS3 : Hid (rr.length < rs.size) := by
          show _ < _
          have h1 := congrArg List.length hl3
          rw [← Lib.size_eq, List.length_append] at h1
          have := (partB_length p).2
          omega
        have HB3 : Hid (Below w.heap.size w w3) := HB.out.trans (st3.below (Nat.le_refl _) (fun i hi => (hrow i hi).1) hsr)
        have hs3 := HB3.out.size
        have hs3r := st3.kept.size
        have HO3 : Hid (w3.ownsRow w.heap.size 25 3 (.slice go ps.length c) ps.length (partVals ps)) :=
          own_keep3 HO.out fun k hk => st3.kept.block k (HO.out.lt k hk).2 (HA.out k hk).1 (fun e => (HA.out k hk).2 e.symm)
        have HA3 : Hid (∀ k, Value.ownBlock (.slice go ps.length c) = some k → k ≠ w.heap.size ∧ r3 ≠ some k) := fun k hk => by
          refine ⟨(HA.out k hk).1, ?_⟩
          have := (HO.out.lt k hk).2
          rcases st3.row with h | ⟨g, h, hg⟩
          · rw [h]; exact (HA.out k hk).2
          · rw [h]; intro e; simp at e; omega
        have HR3 : Hid (RAt w3 w.heap.size w.heap.size r3 bs3 ⟨rr.toArray⟩) := hw3
        clear hw3 st3 hl3 hc hf HO HA HR HB hrow
        unfold pv
        have hownA := own_alloc3 (own_alloc3 HO3.out (.cells #[.int .i64 p.k, .int .i64 p.n, .string p.s] 25)) (.cells #[.int .i64 p.k, .int .i64 p.n, .string p.s] 25)
        have hpn := parts_new (w3.alloc (.cells #[.int .i64 p.k, .int .i64 p.n, .string p.s] 25)) p
        rw [show (w3.alloc (.cells #[.int .i64 p.k, .int .i64 p.n, .string p.s] 25)).heap.size = w3.heap.size + 1 by simp] at hpn
        go_wp2_with (at_builtin; refine wpList_append_parts _ rfl _ _ 22 rfl w.heap.size 25 i0 _ Tryd.underlying22 hi0 hz0 hz1 hz2 rfl (.slice go ps.length c) ps.length ps rfl hownA _ 1 1 [p] rfl (fun h => by cases h) rfl hpn ?c3 ?c4 ?_)
        case c3 => omega
        case c4 => simp; omega
        intro v4 w4 hown4 hgrow4 hat4
        have hlt3 := HR3.out.lt
        have HR4 : Hid (RAt w4 w.heap.size w.heap.size r3 bs3 ⟨rr.toArray⟩) := by
          have h2 : GAt ((w3.alloc (.cells #[.int .i64 p.k, .int .i64 p.n, .string p.s] 25)).alloc (.cells #[.int .i64 p.k, .int .i64 p.n, .string p.s] 25)) w.heap.size w.heap.size 54 [.string ⟨rr.toArray⟩] r3 bs3 := GAt.alloc (GAt.alloc HR3.out _) _
          exact GAt.keep h2 (hgrow4.block _ h2.lt (fun e => (HA3.out _ e.symm).1 rfl)) fun k hk => hgrow4.block k (h2.row_ge k hk).2.1 (fun e => (HA3.out k e.symm).2 hk)
        have HA4 : Hid (∀ k, v4.ownBlock = some k → k ≠ w.heap.size ∧ r3 ≠ some k) := fun k hk => by
          rcases hat4 with h | h
          · exact HA3.out k (h ▸ hk)
          · rw [h] at hk
            simp only [Option.some.injEq] at hk
            refine ⟨by omega, fun e => ?_⟩
            have := (HR3.out.row_ge k e).2.1
            omega
        have HB4 : Hid (Below w.heap.size w w4) := ((HB3.out.alloc hs3 _).alloc (by simp; omega) _).grown hgrow4 (by simp; omega) (fun i hi => (HO3.out.lt i hi).1)
        have HO4 : Hid (w4.ownsRow w.heap.size 25 3 v4 (ps ++ [p]).length (partVals (ps ++ [p]))) := by rw [List.length_append]; exact hown4
        obtain ⟨go4, c4, rfl⟩ := own_slice3 hown4
        have HM4 : Hid (leftSize w4 w.heap.size = rr.length) := by show _ = _; rw [leftSize_of HR4.out, size_mk]
        clear hown4 hgrow4 hat4 hownA hpn
        go_wp2
        go_roundw
        case rel => exact ⟨ps ++ [p], go4, c4, r3, bs3, ⟨rr.toArray⟩, by rw [List.length_append]; rfl, HP3, HR4, by rw [List.length_append] at *; exact HO4, by rw [List.length_append]; exact HA4, HB4⟩
        case measure =>
          have h1 := HM.out; have h2 := HM4.out; have h3 := HS3.out
          omega
end Go.Proofs.YtceghgbkiafklaaDoor.Od
