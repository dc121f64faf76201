/-
  The statement OrderRises, walked: whatever two lists of parts lie in memory, it answers true.
-/
import Derived.Test.YtceghgbkiafklaaDoorOrderLives
import Derived.Test.YtceghgbkiafklaaDoorOrderRefCmp
namespace Go.Proofs.YtceghgbkiafklaaDoor.Od
open Go.RowKit
open Go.Lib (compareBytes)
open Go.Proofs.YtceghgbkiafklaaDoor.Cm
attribute [local go_sem ↓] Go.wp_at_zero Go.wp_at_succ
set_option linter.unusedVariables false

def keyS (ps : List Pt) : ByteArray := ⟨(keyOf ps).toArray⟩
theorem keyS_list (ps : List Pt) : (keyS ps).data.toList = keyOf ps := rfl
theorem keyS_size (ps : List Pt) : (keyS ps).size = (keyOf ps).length := by rw [Lib.size_eq, keyS_list]
theorem rights_take {ps : List Pt} (h : rights ps) (n : Nat) : rights (ps.take n) := fun p hp => h p (List.mem_of_mem_take hp)
theorem oks_take {ps : List Pt} (h : oks ps) (n : Nat) : oks (ps.take n) := fun p hp => h p (List.mem_of_mem_take hp)
theorem tot_take (ps : List Pt) (n : Nat) : tot (ps.take n) ≤ tot ps := by
  conv => rhs; rw [← List.take_append_drop n ps, tot_append]
  omega
theorem room_part {ps : List Pt} (h : room ps) (n : Nat) : room (ps.take n) := by
  unfold room at *
  have := tot_take ps n
  simp only [List.length_take]
  omega
theorem key_take (ps : List Pt) (n : Nat) : (keyOf (ps.take n)).length ≤ (keyOf ps).length ∧ (keyS ps).extract 0 (keyS (ps.take n)).size = keyS (ps.take n) := by
  have e : keyOf ps = keyOf (ps.take n) ++ keyOf (ps.drop n) := by rw [← keyOf_append, List.take_append_drop]
  refine ⟨by rw [e, List.length_append]; omega, ?_⟩
  apply bytes_inj
  rw [ByteArray.data_extract, Array.toList_extract, keyS_list, keyS_list, keyS_size, e]
  simp
/-- Cutting a slice of parts from its beginning. -/
theorem cut_parts (ao : Option Addr) (len cap n : Nat) (hn : n ≤ cap) (W : World) :
    (Instr.slice 22 (.slice ao len cap) none (some (.int .i64 (n : Int))) none).run Tryd.prog W = .ok (.slice ao n cap) W := by
  have hel : Tryd.prog.elem 22 = 25 := by kernel_rfl
  have h := run_slice_h (P := Tryd.prog) W 22 ao len cap (by rw [hel]; exact Tryd.underlying22) .i64 (n : Int) (by omega) (by omega)
  rw [h]
  have e : ao.map (·.add 0) = ao := by
    cases ao with
    | none => rfl
    | some a => cases a; simp [Addr.add]
  have hz := Tryd.sizeOf25 W
  rw [hel, hz]
  simp [Result.andThen, sliced, e]

set_option maxRecDepth 100000 in
set_option maxHeartbeats 500000 in
theorem rises_walk (ao bo : Option Addr) (ca cb : Nat) (ps qs : List Pt) (w : World) (hp : PartsAt w ao ps) (hq : PartsAt w bo qs) (op : oks ps) (oq : oks qs) (na : ao = none → ca = 0) (la : ps.length ≤ ca) (hm : MaxOk w) (rp : room ps) (rq : room qs) :
    Calls Tryd.prog 5 #[.slice ao ps.length ca, .slice bo qs.length cb] w fun e w' => e = .returned (.bool true) ∧ Below w.heap.size w w' := by
  have hlp : ps.length ≤ 4294967000 := by unfold room at rp; omega
  have hlq : qs.length ≤ 4294967000 := by unfold room at rq; omega
  have hanti := cL_anti ps qs
  have hv := cL_vals ps qs
  obtain ⟨c, hc⟩ : ∃ c, c = cL ps qs := ⟨_, rfl⟩
  obtain ⟨d, hd⟩ : ∃ d, d = cL qs ps := ⟨_, rfl⟩
  rw [← hc, ← hd] at hanti
  rw [← hc] at hv
  have HC : Hid (c = cL ps qs) := hc
  have HD : Hid (d = cL qs ps) := hd
  have hneg : IntKind.i64.wrap (-d) = c := by rw [IntWalk.i64_in _ ⟨by omega, by omega⟩]; omega
  have HRP : Hid (room ps) := rp
  have HRQ : Hid (room qs) := rq
  clear hc hd rp rq hanti
  go_enter Tryd.func5, Tryd.ntmps5
  go_wp2_with fail
  refine (lives_any _ hm).mono ?_
  rintro e w1 ⟨rfl, hb1⟩
  have hm1 := hm.below hb1
  have hs1 := hb1.size
  go_wp2_with fail
  refine (Key_any ao ca ps _ (hp.below hb1) op hm1 HRP.out).mono ?_
  rintro e w2 ⟨rfl, hb2⟩
  have HB2 : Hid (Below w.heap.size w w2) := hb1.trans (hb2.mono hs1)
  have hs2 := HB2.out.size
  have hm2 := hm.below HB2.out
  clear hb2 hb1 hm1
  by_cases hrp : rights ps
  · rw [keyAns_right hrp]
    have HKp : Hid ((⟨(keyOf ps).toArray⟩ : ByteArray) = keyS ps) := rfl
    rw [HKp.out]
    go_wp2_with fail
    refine (Key_any bo cb qs _ (hq.below HB2.out) oq hm2 HRQ.out).mono ?_
    rintro e w3 ⟨rfl, hb3⟩
    have HB3 : Hid (Below w.heap.size w w3) := HB2.out.trans (hb3.mono hs2)
    have hs3 := HB3.out.size
    have hm3 := hm.below HB3.out
    clear hb3
    by_cases hrq : rights qs
    · rw [keyAns_right hrq]
      have HKq : Hid ((⟨(keyOf qs).toArray⟩ : ByteArray) = keyS qs) := rfl
      rw [HKq.out]
      have HL : Hid (Op.bytesLess (keyS ps).toList (keyS qs).toList = decide (c < 0)) := by
        show _ = _
        rw [less_bytes, keyS_list, keyS_list, key_cb hrp hrq op oq, HC.out]
      have HE : Hid (((keyS ps).toList == (keyS qs).toList) = decide (c = 0)) := by
        show _ = _
        rw [same_bytes, keyS_list, keyS_list, key_cb hrp hrq op oq, HC.out]
      go_wp2_with fail
      refine (Compare_any ao bo ca cb ps qs _ (hp.below HB3.out) (hq.below HB3.out) hlp hlq).mono ?_
      rintro e w4 ⟨rfl, hb4⟩
      rw [← HC.out]
      have HB4 : Hid (Below w.heap.size w w4) := HB3.out.trans (hb4.mono hs3)
      have hs4 := HB4.out.size
      clear hb4
      go_wp2_with fail
      refine (refCompare_any ao bo ca cb ps qs _ (hp.below HB4.out) (hq.below HB4.out) hlp hlq).mono ?_
      rintro e w5 ⟨rfl, hb5⟩
      rw [← HC.out]
      have HB5 : Hid (Below w.heap.size w w5) := HB4.out.trans (hb5.mono hs4)
      have hs5 := HB5.out.size
      clear hb5
      go_wp2_with fail
      refine (Compare_any bo ao cb ca qs ps _ (hq.below HB5.out) (hp.below HB5.out) hlq hlp).mono ?_
      rintro e w6 ⟨rfl, hb6⟩
      rw [← HD.out]
      have HB6 : Hid (Below w.heap.size w w6) := HB5.out.trans (hb6.mono hs5)
      clear hb6
      obtain ⟨bl, hbl⟩ : ∃ bl, decide (c < 0) = bl := ⟨_, rfl⟩
      obtain ⟨bq, hbq⟩ : ∃ bq, (c == 0) = bq := ⟨_, rfl⟩
      have hL := HL.out
      have hE := HE.out
      rw [show decide (c = 0) = (c == 0) by simp [Bool.beq_eq_decide_eq], hbq] at hE
      rw [hbl] at hL
      have hpl : (keyS ps).size ≤ 4294967000 := by
        rw [keyS_size]
        have h1 := keyOf_length ps
        have h2 := HRP.out
        unfold room at h2
        omega
      go_wp2_with fail
      go_loopw [10] (fun i wr => ∃ n : Nat, n ≤ ps.length + 1 ∧ i = .int .i64 n ∧ Hid (Below w.heap.size w wr)) (fun i _ => ps.length + 1 - (intOf i).toNat)
      case atStart => exact ⟨0, by omega, rfl, HB6.out⟩
      case round =>
        obtain ⟨n, hn, rfl, HB⟩ := hrel
        have hsr := HB.out.size
        by_cases hle : n ≤ ps.length
        · have hg : decide ((n : Int) ≤ (ps.length : Int)) = true := decide_eq_true (by omega)
          have hcut := cut_parts ao ps.length ca n (by omega)
          have hKT := Key_any ao ca (ps.take n) wr ((hp.below HB.out).take n) (oks_take op n) (hm.below HB.out) (room_part HRP.out n)
          rw [keyAns_right (rights_take hrp n), show (ps.take n).length = n by simp; omega] at hKT
          have HKT : Hid _ := hKT
          obtain ⟨Z, HZ⟩ : ∃ Z, Hid (Z = keyS (ps.take n)) := ⟨_, rfl⟩
          have HZ2 : Hid ((⟨(keyOf (ps.take n)).toArray⟩ : ByteArray) = Z) := HZ.out.symm
          have hzl : Z.size ≤ (keyS ps).size := by rw [HZ.out, keyS_size, keyS_size]; exact (key_take ps n).1
          have hsl := sl_to (keyS ps) Z.size hzl
          have hex : (keyS ps).extract 0 Z.size = Z := by rw [HZ.out]; exact (key_take ps n).2
          rw [hex] at hsl
          have hgt : decide (((keyS ps).size : Int) < (Z.size : Int)) = false := decide_eq_false (by omega)
          clear hKT hex
          go_wp2_with fail
          refine Calls.mono HKT.out ?_
          rintro e w7 ⟨rfl, hb7⟩
          rw [HZ2.out]
          have HB7 : Hid (Below w.heap.size w w7) := HB.out.trans (hb7.mono hsr)
          clear hb7 HKT
          go_wp2
          go_roundw
          case rel => exact ⟨n + 1, by omega, by go_num, HB7⟩
          case measure => simp [intOf]; omega
        · have hg : decide ((n : Int) ≤ (ps.length : Int)) = false := decide_eq_false (by omega)
          go_wp2
          go_ret
          exact ⟨rfl, HB.out⟩
    · rw [keyAns_wrong hrq]
      go_wp2_with fail
      refine (Compare_any ao bo ca cb ps qs _ (hp.below HB3.out) (hq.below HB3.out) hlp hlq).mono ?_
      rintro e w4 ⟨rfl, hb4⟩
      rw [← HC.out]
      have HB4 : Hid (Below w.heap.size w w4) := HB3.out.trans (hb4.mono hs3)
      have hs4 := HB4.out.size
      clear hb4
      go_wp2_with fail
      refine (refCompare_any ao bo ca cb ps qs _ (hp.below HB4.out) (hq.below HB4.out) hlp hlq).mono ?_
      rintro e w5 ⟨rfl, hb5⟩
      rw [← HC.out]
      have HB5 : Hid (Below w.heap.size w w5) := HB4.out.trans (hb5.mono hs4)
      have hs5 := HB5.out.size
      clear hb5
      go_wp2_with fail
      refine (Compare_any bo ao cb ca qs ps _ (hq.below HB5.out) (hp.below HB5.out) hlq hlp).mono ?_
      rintro e w6 ⟨rfl, hb6⟩
      rw [← HD.out]
      have HB6 : Hid (Below w.heap.size w w6) := HB5.out.trans (hb6.mono hs5)
      clear hb6
      go_wp2
      go_ret
      exact ⟨rfl, HB6.out⟩
  · rw [keyAns_wrong hrp]
    go_wp2_with fail
    refine (Key_any bo cb qs _ (hq.below HB2.out) oq hm2 HRQ.out).mono ?_
    rintro e w3 ⟨rfl, hb3⟩
    have HB3 : Hid (Below w.heap.size w w3) := HB2.out.trans (hb3.mono hs2)
    have hs3 := HB3.out.size
    have hm3 := hm.below HB3.out
    clear hb3
    obtain ⟨t, u, HT⟩ : ∃ (t : ByteArray) (u : Int), Hid (keyAns qs = .tuple #[.string t, .int .i64 u]) := by
      by_cases h : rights qs
      · exact ⟨_, _, keyAns_right h⟩
      · exact ⟨_, _, keyAns_wrong h⟩
    rw [HT.out]
    go_wp2_with fail
    refine (Compare_any ao bo ca cb ps qs _ (hp.below HB3.out) (hq.below HB3.out) hlp hlq).mono ?_
    rintro e w4 ⟨rfl, hb4⟩
    rw [← HC.out]
    have HB4 : Hid (Below w.heap.size w w4) := HB3.out.trans (hb4.mono hs3)
    have hs4 := HB4.out.size
    clear hb4
    go_wp2_with fail
    refine (refCompare_any ao bo ca cb ps qs _ (hp.below HB4.out) (hq.below HB4.out) hlp hlq).mono ?_
    rintro e w5 ⟨rfl, hb5⟩
    rw [← HC.out]
    have HB5 : Hid (Below w.heap.size w w5) := HB4.out.trans (hb5.mono hs4)
    have hs5 := HB5.out.size
    clear hb5
    go_wp2_with fail
    refine (Compare_any bo ao cb ca qs ps _ (hq.below HB5.out) (hp.below HB5.out) hlq hlp).mono ?_
    rintro e w6 ⟨rfl, hb6⟩
    rw [← HD.out]
    have HB6 : Hid (Below w.heap.size w w6) := HB5.out.trans (hb6.mono hs5)
    clear hb6
    go_wp2
    go_ret
    exact ⟨rfl, HB6.out⟩
end Go.Proofs.YtceghgbkiafklaaDoor.Od
