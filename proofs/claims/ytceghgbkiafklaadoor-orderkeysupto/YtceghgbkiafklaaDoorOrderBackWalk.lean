/-
  The statement OrderBack, walked: whatever list of parts and whatever text, it answers true.
-/
import Derived.Test.YtceghgbkiafklaaDoorOrderSplit
import Derived.Test.YtceghgbkiafklaaDoorOrderSame
import Derived.Test.YtceghgbkiafklaaDoorOrderLives
import Derived.Test.YtceghgbkiafklaaDoorOrderRisesWalk
namespace Go.Proofs.YtceghgbkiafklaaDoor.Od
open Go.RowKit
open Go.Proofs.YtceghgbkiafklaaDoor.Cm
attribute [local go_sem ↓] Go.wp_at_zero Go.wp_at_succ
set_option linter.unusedVariables false

theorem room_key {qs : List Pt} {l : List UInt8} (h : rights qs) (hl : l = keyOf qs) (hn : l.length ≤ 67108864) : room qs := by
  have := keyOf_ge h
  rw [← hl] at this
  unfold room
  omega
theorem str_of (t : ByteArray) : t.data.toList.length = t.size := (Lib.size_eq t).symm

set_option maxRecDepth 100000 in
set_option maxHeartbeats 500000 in
theorem back_walk (ao : Option Addr) (ca : Nat) (ps : List Pt) (t : ByteArray) (w : World) (hp : PartsAt w ao ps) (op : oks ps) (hm : MaxOk w) (hbd : 4 * ps.length + tot ps ≤ 1048576) (htl : t.data.toList.length ≤ 1048576) :
    Calls Tryd.prog 4 #[.slice ao ps.length ca, .string t] w fun e w' => e = .returned (.bool true) ∧ Below w.heap.size w w' := by
  have ht : t.size ≤ 1048576 := by rw [← str_of]; exact htl
  have hlp : ps.length ≤ 1048576 := by omega
  have HRP : Hid (room ps) := room_of hbd
  have hkl : (keyS ps).size ≤ 16777216 := by
    rw [keyS_size]
    have := keyOf_length ps
    omega
  go_enter Tryd.func4, Tryd.ntmps4
  go_wp2_with fail
  refine (lives_any _ hm).mono ?_
  rintro e w1 ⟨rfl, hb1⟩
  have hs1 := hb1.size
  go_wp2_with fail
  refine (Key_any ao ca ps _ (hp.below hb1) op (hm.below hb1) HRP.out).mono ?_
  rintro e w2 ⟨rfl, hb2⟩
  have HB2 : Hid (Below w.heap.size w w2) := hb1.trans (hb2.mono hs1)
  have hs2 := HB2.out.size
  have HM2 : Hid (MaxOk w2) := hm.below HB2.out
  clear hb2 hb1
  by_cases hrp : rights ps
  · rw [keyAns_right hrp]
    have HKp : Hid ((⟨(keyOf ps).toArray⟩ : ByteArray) = keyS ps) := rfl
    rw [HKp.out]
    go_wp2_with fail
    refine (Split_any (keyS ps) _ HM2.out (by omega)).mono ?_
    rintro e w3 ⟨hans, hb3⟩
    have HB3 : Hid (Below w.heap.size w w3) := HB2.out.trans (hb3.mono hs2)
    have hs3 := HB3.out.size
    rcases hans with ⟨hno, rfl⟩ | ⟨rs, v, hrr, or, hlr, rfl, hown⟩
    · exact absurd ⟨ps, hrp, op, rfl⟩ hno
    · obtain rfl : ps = rs := key_inj hrp hrr op or hlr
      obtain ⟨ao3, ca3, rfl, _, _, _, hp3⟩ := own_parts hown
      have HS3 : Hid _ := same_any ao3 ao ca3 ca ps w3 hp3 (hp.below HB3.out) (by omega)
      clear hb3 hown hp3 hrr or hlr
      go_wp2_with fail
      refine Calls.mono HS3.out ?_
      rintro e w4 ⟨rfl, hb4⟩
      have HBX : Hid (Below w.heap.size w w4) := HB3.out.trans (hb4.mono hs3)
      have hsx := HBX.out.size
      have HM : Hid (MaxOk w4) := hm.below HBX.out
      clear hb4 HS3
      go_wp2_with fail
      refine (Split_any t _ HM.out (by omega)).mono ?_
      rintro e w5 ⟨hans, hb5⟩
      have HB5 : Hid (Below w.heap.size w w5) := HBX.out.trans (hb5.mono hsx)
      have hs5 := HB5.out.size
      rcases hans with ⟨hno, rfl⟩ | ⟨qs, v, hrq, oq, hlq, rfl, hown⟩
      · clear hb5
        go_wp2
        go_ret
        exact ⟨rfl, HB5.out⟩
      · obtain ⟨ao5, ca5, rfl, _, _, _, hp5⟩ := own_parts hown
        have HK5 : Hid _ := Key_any ao5 ca5 qs w5 hp5 oq (hm.below HB5.out) (room_key hrq hlq (by omega))
        have HT : Hid ((⟨(keyOf qs).toArray⟩ : ByteArray) = t) := by show _ = _; rw [← hlq]
        rw [keyAns_right hrq, HT.out] at HK5
        clear hb5 hown hp5
        go_wp2_with fail
        refine Calls.mono HK5.out ?_
        rintro e w6 ⟨rfl, hb6⟩
        go_wp2
        go_ret
        exact ⟨rfl, HB5.out.trans (hb6.mono hs5)⟩
  · rw [keyAns_wrong hrp]
    have HBX : Hid (Below w.heap.size w w2) := HB2.out
    have hsx := hs2
    have HM : Hid (MaxOk w2) := HM2.out
    go_wp2_with fail
    refine (Split_any t _ HM.out (by omega)).mono ?_
    rintro e w5 ⟨hans, hb5⟩
    have HB5 : Hid (Below w.heap.size w w5) := HBX.out.trans (hb5.mono hsx)
    have hs5 := HB5.out.size
    rcases hans with ⟨hno, rfl⟩ | ⟨qs, v, hrq, oq, hlq, rfl, hown⟩
    · clear hb5
      go_wp2
      go_ret
      exact ⟨rfl, HB5.out⟩
    · obtain ⟨ao5, ca5, rfl, _, _, _, hp5⟩ := own_parts hown
      have HK5 : Hid _ := Key_any ao5 ca5 qs w5 hp5 oq (hm.below HB5.out) (room_key hrq hlq (by omega))
      have HT : Hid ((⟨(keyOf qs).toArray⟩ : ByteArray) = t) := by show _ = _; rw [← hlq]
      rw [keyAns_right hrq, HT.out] at HK5
      clear hb5 hown hp5
      go_wp2_with fail
      refine Calls.mono HK5.out ?_
      rintro e w6 ⟨rfl, hb6⟩
      go_wp2
      go_ret
      exact ⟨rfl, HB5.out.trans (hb6.mono hs5)⟩
end Go.Proofs.YtceghgbkiafklaaDoor.Od
