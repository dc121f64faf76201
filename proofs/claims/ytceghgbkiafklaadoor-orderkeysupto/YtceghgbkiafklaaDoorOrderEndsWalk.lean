/-
  The statement OrderEnds, walked: whatever two texts are handed in, it answers true.
-/
import Derived.Test.YtceghgbkiafklaaDoorOrderLives
import Derived.Test.YtceghgbkiafklaaDoorOrderRefCmp
namespace Go.Proofs.YtceghgbkiafklaaDoor.Od
open Go.RowKit
open Go.Lib (compareBytes)
open Go.Proofs.YtceghgbkiafklaaDoor.Cm
attribute [local go_sem ↓] Go.wp_at_zero Go.wp_at_succ
set_option linter.unusedVariables false
set_option linter.unusedSimpArgs false

theorem empty_iff (l : List UInt8) : (⟨l.toArray⟩ : ByteArray).toList.isEmpty = decide (l = []) := by
  rw [Lib.toList_data]
  cases l <;> simp
theorem begins_bool (s t : ByteArray) : decide (s.data.toList <+: t.data.toList) = (!(Op.bytesLess t.toList s.toList) && ((⟨(endOf s.data.toList).toArray⟩ : ByteArray).toList.isEmpty || Op.bytesLess t.toList (⟨(endOf s.data.toList).toArray⟩ : ByteArray).toList)) := by
  rw [less_bytes, less_bytes, empty_iff]
  have h := begins_iff s.data.toList t.data.toList
  by_cases h1 : s.data.toList <+: t.data.toList
  · rw [decide_eq_true h1]
    obtain ⟨h2, h3⟩ := h.1 h1
    have : ¬ compareBytes t.data.toList s.data.toList < 0 := by omega
    rw [decide_eq_false this]
    rcases h3 with h3 | h3
    · simp [h3]
    · simp [h3]
  · rw [decide_eq_false h1]
    by_cases h2 : compareBytes t.data.toList s.data.toList < 0
    · simp [h2]
    · have h3 : ¬ (endOf s.data.toList = [] ∨ compareBytes t.data.toList (endOf s.data.toList) < 0) := fun h3 => h1 (h.2 ⟨by omega, h3⟩)
      rw [not_or] at h3
      simp [h3.1, h3.2]
theorem begins_cut (s t : ByteArray) (h : s.size ≤ t.size) : ((t.extract 0 s.size).toList == s.toList) = decide (s.data.toList <+: t.data.toList) := by
  have e : (t.extract 0 s.size).toList = t.data.toList.take s.data.toList.length := by
    rw [Lib.toList_data, ByteArray.data_extract, Array.toList_extract, ← Lib.size_eq]
    simp
  rw [e, Lib.toList_data]
  by_cases hp : s.data.toList <+: t.data.toList
  · rw [decide_eq_true hp, ← List.prefix_iff_eq_take.1 hp]; simp
  · rw [decide_eq_false hp]
    exact beq_eq_false_iff_ne.2 fun e2 => hp (List.prefix_iff_eq_take.2 e2.symm)

set_option maxRecDepth 100000 in
set_option maxHeartbeats 500000 in
theorem ends_walk (s t : ByteArray) (w : World) (hm : MaxOk w) (hs : s.size ≤ 140737488351232) (ht : t.size ≤ 140737488351232) :
    Calls Tryd.prog 6 #[.string s, .string t] w fun e w' => e = .returned (.bool true) ∧ Below w.heap.size w w' := by
  have hkey := begins_bool s t
  obtain ⟨E, hE⟩ : ∃ E : ByteArray, E = ⟨(endOf s.data.toList).toArray⟩ := ⟨_, rfl⟩
  rw [← hE] at hkey
  obtain ⟨B, hB⟩ : ∃ B, B = decide (s.data.toList <+: t.data.toList) := ⟨_, rfl⟩
  rw [← hB] at hkey
  obtain ⟨g, hg⟩ : ∃ g, Op.bytesLess t.toList s.toList = g := ⟨_, rfl⟩
  obtain ⟨m, hm'⟩ : ∃ m, E.toList.isEmpty = m := ⟨_, rfl⟩
  obtain ⟨l, hl⟩ : ∃ l, Op.bytesLess t.toList E.toList = l := ⟨_, rfl⟩
  rw [hg, hm', hl] at hkey
  have HEnd : Hid (∀ w, Calls Tryd.prog 17 #[.string s] w fun e w' => e = .returned (.string E) ∧ Below w.heap.size w w') := fun w => by rw [hE]; exact End_any s w (by omega)
  have HRef : Hid (∀ w, Calls Tryd.prog 18 #[.string s] w fun e w' => e = .returned (.string E) ∧ Below w.heap.size w w') := fun w => by rw [hE]; exact refEnd_any s w (by omega)
  clear hE
  by_cases hle : s.size ≤ t.size
  · have hcut : ((t.extract 0 s.size).toList == s.toList) = B := by rw [hB]; exact begins_cut s t hle
    have hsl := sl_to t s.size hle
    have hg1 : decide ((s.size : Int) ≤ (t.size : Int)) = true := decide_eq_true (by omega)
    have hmin : min (s.size : Int) (t.size : Int) = (s.size : Int) := by omega
    clear hB
    subst hkey
    cases g <;> cases m <;> cases l
    all_goals
      simp only [Bool.not_true, Bool.not_false, Bool.true_and, Bool.false_and, Bool.or_true, Bool.or_false, Bool.true_or, Bool.false_or] at hcut
      go_enter Tryd.func6, Tryd.ntmps6
      go_wp2_with fail
      refine (lives_any _ hm).mono ?_
      rintro e w1 ⟨rfl, hb1⟩
      go_wp2_with fail
      refine Calls.mono (HEnd.out _) ?_
      rintro e w2 ⟨rfl, hb2⟩
      go_wp2_with fail
      refine Calls.mono (HRef.out _) ?_
      rintro e w3 ⟨rfl, hb3⟩
      go_wp2
      go_ret
      exact ⟨rfl, (hb1.trans (hb2.mono hb1.size)).trans (hb3.mono (Nat.le_trans hb1.size hb2.size))⟩
  · have hBf : B = false := by
      rw [hB]
      refine decide_eq_false fun hp => hle ?_
      rw [Lib.size_eq, Lib.size_eq]
      exact hp.length_le
    have hg1 : decide ((s.size : Int) ≤ (t.size : Int)) = false := decide_eq_false (by omega)
    rw [hBf] at hkey
    clear hB hBf
    cases g <;> cases m <;> cases l <;> first | (exact absurd hkey (by decide)) | skip
    all_goals
      clear hkey
      go_enter Tryd.func6, Tryd.ntmps6
      go_wp2_with fail
      refine (lives_any _ hm).mono ?_
      rintro e w1 ⟨rfl, hb1⟩
      go_wp2_with fail
      refine Calls.mono (HEnd.out _) ?_
      rintro e w2 ⟨rfl, hb2⟩
      go_wp2_with fail
      refine Calls.mono (HRef.out _) ?_
      rintro e w3 ⟨rfl, hb3⟩
      go_wp2
      go_ret
      exact ⟨rfl, (hb1.trans (hb2.mono hb1.size)).trans (hb3.mono (Nat.le_trans hb1.size hb2.size))⟩
end Go.Proofs.YtceghgbkiafklaaDoor.Od
