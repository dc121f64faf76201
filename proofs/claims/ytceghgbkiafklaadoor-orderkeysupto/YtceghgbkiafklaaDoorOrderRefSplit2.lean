/-
  The reference's parts of bytes: those that the bytes are the key of, or that they are no key.
-/
import Derived.Test.YtceghgbkiafklaaDoorOrderRefSplit
import Derived.Test.YtceghgbkiafklaaDoorOrderRisesWalk
namespace Go.Proofs.YtceghgbkiafklaaDoor.Od
open Go.RowKit
open Go.Proofs.YtceghgbkiafklaaDoor.Cm
attribute [local go_sem ↓] Go.wp_at_zero Go.wp_at_succ
set_option linter.unusedVariables false

/-- Of a key the parts up to place n are those that were read. -/
def SoFar (l : List UInt8) (n : Nat) (ps : List Pt) : Prop := ∀ qs, rights qs → oks qs → l = keyOf qs → ∃ qs', qs = ps ++ qs' ∧ l.drop n = keyOf qs'
theorem SoFar.step {l : List UInt8} {n m : Nat} {ps : List Pt} {p : Pt} (h : SoFar l n ps) (hn : n < l.length) (hp : ∀ q r, right q → q.ok → l.drop n = partB q ++ r → p = q ∧ m = n + (partB q).length) : SoFar l m (ps ++ [p]) := by
  intro qs hr ho e
  obtain ⟨qs', rfl, e2⟩ := h qs hr ho e
  cases qs' with
  | nil =>
    have := congrArg List.length e2
    simp [keyOf] at this
    omega
  | cons q qs' =>
    rw [keyOf_cons] at e2
    obtain ⟨rfl, rfl⟩ := hp q _ (hr q (by simp)) (ho q (by simp)) e2
    refine ⟨qs', by simp, ?_⟩
    rw [← List.drop_drop, e2]
    simp
theorem SoFar.done {l : List UInt8} {n : Nat} {ps : List Pt} (h : SoFar l n ps) (hn : l.length ≤ n) (hne : l ≠ keyOf ps) : ¬ isKey l := by
  rintro ⟨qs, hr, ho, e⟩
  obtain ⟨qs', rfl, e2⟩ := h qs hr ho e
  rw [List.drop_of_length_le hn] at e2
  cases qs' with
  | nil => exact hne (by rw [e]; simp)
  | cons q qs' =>
    rw [keyOf_cons] at e2
    have := congrArg List.length e2
    have := (partB_length q).2
    simp at *
    omega

set_option maxRecDepth 100000 in
set_option maxHeartbeats 500000 in
theorem refSplit_any (s : ByteArray) (w : World) (hs : s.size ≤ 67108864) :
    Calls Tryd.prog 14 #[.string s] w fun e w' => SplitAns w s.data.toList e w' ∧ Below w.heap.size w w' := by
  obtain ⟨i0, hi0, hz0, hz1, hz2⟩ := info_parts infoPart
  have HLn : Hid (s.data.toList.length = s.size) := (Lib.size_eq s).symm
  go_enter Tryd.func14, Tryd.ntmps14
  go_wp2_with fail
  go_loopw [4, 5] (fun u v wr => ∃ (ps : List Pt) (go : Option Addr) (c n : Nat), u = .slice go ps.length c ∧ v = .int .i64 (n : Int) ∧ n ≤ s.size + 9 ∧ Hid (rights ps ∧ oks ps) ∧ Hid (tot ps + ps.length ≤ n) ∧ Hid (SoFar s.data.toList n ps) ∧
    Hid (wr.ownsRow w.heap.size 25 3 (.slice go ps.length c) ps.length (partVals ps)) ∧ Hid (Below w.heap.size w wr)) (fun _ v _ => s.size - (intOf v).toNat)
  case atStart => exact ⟨[], none, 0, 0, rfl, rfl, by omega, ⟨(fun p hp => by simp at hp), (fun p hp => by simp at hp)⟩, by show _ ≤ _; simp [tot], (fun qs hr ho e => ⟨qs, rfl, e⟩), ⟨rfl, .inl ⟨rfl, rfl⟩⟩, Below.refl _ _⟩
  case round =>
    obtain ⟨ps, go, c, n, rfl, rfl, hn9, HP, HTt, HSo, HO, HB⟩ := hrel
    have hsr := HB.out.size
    have htt := HTt.out
    by_cases hlt : n < s.size
    · have hg : decide ((n : Int) < (s.size : Int)) = true := decide_eq_true (by omega)
      go_wp2_with fail
      refine (part_any s n _ hlt (by omega)).mono ?_
      rintro e w3 ⟨⟨p, m, rfl, hrp, hop, hm1, hm2, hq⟩, hb3⟩
      rw [HLn.out] at hm2
      have HP3 : Hid (rights (ps ++ [p]) ∧ oks (ps ++ [p])) := by
        refine ⟨fun q hq => ?_, fun q hq => ?_⟩
        · rcases List.mem_append.1 hq with hq | hq
          · exact HP.out.1 q hq
          · simp only [List.mem_singleton] at hq; rw [hq]; exact hrp
        · rcases List.mem_append.1 hq with hq | hq
          · exact HP.out.2 q hq
          · simp only [List.mem_singleton] at hq; rw [hq]; exact hop
      have HS3 : Hid (SoFar s.data.toList m (ps ++ [p])) := HSo.out.step (by rw [HLn.out]; exact hlt) hq
      have HT3 : Hid (tot (ps ++ [p]) + (ps ++ [p]).length ≤ m) := by show _ ≤ _; rw [tot_append, tot_cons]; simp [tot] at *; omega
      have HB3 : Hid (Below w.heap.size w w3) := HB.out.trans (hb3.mono hsr)
      have hs3 := HB3.out.size
      have HO3 : Hid (w3.ownsRow w.heap.size 25 3 (.slice go ps.length c) ps.length (partVals ps)) := own_below3 HO.out hb3
      clear hb3 hrp hop hq HO HB
      unfold pv
      have hownA := own_alloc3 (own_alloc3 HO3.out (.cells #[.int .i64 p.k, .int .i64 p.n, .string p.s] 25)) (.cells #[.int .i64 p.k, .int .i64 p.n, .string p.s] 25)
      have hpn := parts_new (w3.alloc (.cells #[.int .i64 p.k, .int .i64 p.n, .string p.s] 25)) p
      rw [show (w3.alloc (.cells #[.int .i64 p.k, .int .i64 p.n, .string p.s] 25)).heap.size = w3.heap.size + 1 by simp] at hpn
      go_wp2_with (at_builtin; refine wpList_append_parts _ rfl _ _ 22 rfl w.heap.size 25 i0 _ Tryd.underlying22 hi0 hz0 hz1 hz2 rfl (.slice go ps.length c) ps.length ps rfl hownA _ 1 1 [p] rfl (fun h => by cases h) rfl hpn ?c3 ?c4 ?_)
      case c3 => omega
      case c4 => simp; omega
      intro v4 w4 hown4 hgrow4 hat4
      have HB4 : Hid (Below w.heap.size w w4) := ((HB3.out.alloc hs3 _).alloc (by simp; omega) _).grown hgrow4 (by simp; omega) (fun i hi => (HO3.out.lt i hi).1)
      have HO4 : Hid (w4.ownsRow w.heap.size 25 3 v4 (ps ++ [p]).length (partVals (ps ++ [p]))) := by rw [List.length_append]; exact hown4
      obtain ⟨go4, c4, rfl⟩ := own_slice3 hown4
      clear hown4 hgrow4 hat4 hownA hpn
      go_wp2
      go_roundw
      case rel => exact ⟨ps ++ [p], go4, c4, m, by rw [List.length_append]; rfl, rfl, hm2, HP3, HT3, HS3, by rw [List.length_append] at *; exact HO4, HB4⟩
      case measure => simp [intOf]; omega
    · have hg : decide ((n : Int) < (s.size : Int)) = false := decide_eq_false (by omega)
      obtain ⟨ao', cap', e', _, _, _, hp⟩ := own_parts HO.out
      obtain ⟨rfl, rfl⟩ : go = ao' ∧ c = cap' := by simpa using e'
      have HK : Hid _ := refKey_any go c ps wr hp HP.out.2 (by unfold room; omega)
      rw [keyAns_right HP.out.1] at HK
      have HKS : Hid ((⟨(keyOf ps).toArray⟩ : ByteArray) = keyS ps) := rfl
      rw [HKS.out] at HK
      clear hp e'
      by_cases heq : keyS ps = s
      · rw [heq] at HK
        have HF : Hid (s.data.toList = keyOf ps) := by show _ = _; rw [← heq]; rfl
        go_wp2_with fail
        refine Calls.mono HK.out ?_
        rintro e w6 ⟨rfl, hb6⟩
        have HO6 : Hid (w6.ownsRow w.heap.size 25 3 (.slice go ps.length c) ps.length (partVals ps)) := own_below3 HO.out hb6
        go_wp2
        go_ret2
        exact ⟨.inr ⟨ps, _, HP.out.1, HP.out.2, HF.out, rfl, HO6.out⟩, HB.out.trans (hb6.mono hsr)⟩
      · have hne := text_ne heq
        have HF : Hid (¬ isKey s.data.toList) := HSo.out.done (by rw [HLn.out]; omega) (fun e => heq (bytes_inj (by rw [keyS_list, e])))
        clear heq
        go_wp2_with fail
        refine Calls.mono HK.out ?_
        rintro e w6 ⟨rfl, hb6⟩
        go_wp2
        go_ret2
        exact ⟨.inl ⟨HF.out, rfl⟩, HB.out.trans (hb6.mono hsr)⟩
end Go.Proofs.YtceghgbkiafklaaDoor.Od
