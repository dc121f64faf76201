/-
  The walk of the statement PackBack.
-/
import Derived.Test.YtnhmabhcegiekaaPackOne
namespace Go.Proofs.Ytnhmabhcegiekaa.Pk
open Go.RowKit
set_option linter.unusedVariables false

/-- What the round's world comes to, behind the two blocks of the item and what the writer or the reader does. -/
theorem back_below {w wr w4 : World} {b : Nat} {r r' : Option Nat} {o1 o2 : Obj} (hB : Below w.heap.size w wr) (hb : w.heap.size ≤ b) (hr : ∀ k, r = some k → w.heap.size ≤ k) (hs : Step b ((wr.alloc o1).alloc o2) r w4 r') : Below w.heap.size w w4 := by
  have h := hB.size
  exact ((hB.alloc h o1).alloc (by simp; omega) o2).trans (hs.below (by simp; omega) hb hr)
theorem bytes0 {i : It} (h : 0 = i.kind) : bytesOf i = enc i.n := by unfold bytesOf; rw [if_pos h.symm]
theorem bytes1 {i : It} (h : 1 = i.kind) : bytesOf i = enc (fold i.int) := by unfold bytesOf; rw [if_neg (by omega), if_pos h.symm]
theorem bytes2 {i : It} (h : 2 = i.kind) : bytesOf i = text i.s.data.toList := by unfold bytesOf; rw [if_neg (by omega), if_neg (by omega)]
theorem item_kept {wr w4 : World} {bq : Nat} {cs : Array Value} {T : TypeId} {o : Obj} (hs : Step bq ((wr.alloc (.cells cs T)).alloc o) none w4 none) (hne : bq < wr.heap.size) (j : Nat) : w4.cell? ⟨wr.heap.size, j, none⟩ = cs[j]? := by
  have h1 : w4.heap[wr.heap.size]? = some (.cells cs T (0, 0)) := by
    rw [hs.kept.block wr.heap.size (by simp; omega) (by omega) (by simp), Below.heap_alloc _ _ _ (by simp)]
    exact heap_alloc_new wr _
  exact cell_of_row _ _ _ _ _ _ h1
theorem str_back (s : ByteArray) : (⟨s.data.toList.toArray⟩ : ByteArray) = s := by cases s; simp
theorem text_len (s : ByteArray) : (text s.data.toList).length = (enc s.size).length + s.size := by rw [text, List.length_append, ← Lib.size_eq]

set_option maxRecDepth 100000 in
set_option maxHeartbeats 4000000 in
theorem back_walk (ao : Option Addr) (cap : Nat) (its : List It) (w : World) (hi : ItemsAt w ao its) (hok : ∀ i ∈ its, i.ok) (hlen : its.length ≤ 1048576) (hsum : (its.flatMap bytesOf).length ≤ 140000000000000) :
    Calls Try.prog 5 #[.slice ao its.length cap] w fun e w' => e = .returned (.bool true) ∧ Below w.heap.size w w' := by
  go_enter Try.func5, Try.ntmps5
  go_wp2_with fail
  refine (lives_any _).mono ?_
  rintro e w1 ⟨rfl, hb1⟩
  have hs1 := hb1.size
  go_wp2_with fail
  refine (new_any _ 0 (Nat.zero_le _)).mono ?_
  rintro e w2 ⟨rfl, rfl⟩
  go_wp2_with fail
  go_loopw [20] (fun i wr => ∃ (k : Nat) (r : Option Nat), k ≤ its.length ∧ i = .int .i64 k ∧ Hid (WrAt wr w.heap.size w1.heap.size r ((its.take k).flatMap bytesOf)) ∧ Hid (Below w.heap.size w wr)) (fun i _ => its.length - (intOf i).toNat)
  case atStart => exact ⟨0, none, by omega, rfl, new_wr w1 _, hb1.alloc hs1 _⟩
  case round =>
    obtain ⟨k, r, hk, rfl, HW, HB⟩ := hrel
    have HL : Hid (((its.take k).flatMap bytesOf).length ≤ (its.flatMap bytesOf).length) := bytes_le its k
    have HL1 : Hid (((its.take (k + 1)).flatMap bytesOf).length ≤ (its.flatMap bytesOf).length) := bytes_le its (k + 1)
    have hsr := HB.out.size
    have hltr := HW.out.lt
    by_cases hlt : k < its.length
    · rcases hi.below HB.out with h0 | ⟨b, off, rfl, hbl, hcells⟩
      · simp [h0] at hlt
      have hc := hcells k hlt
      have HN : Hid ((its.take (k + 1)).flatMap bytesOf = (its.take k).flatMap bytesOf ++ bytesOf (its.getD k It.zero)) := bytes_snoc its k hlt
      have HO : Hid (its.getD k It.zero).ok := hok _ (by rw [getD_lt _ _ _ hlt]; exact List.getElem_mem hlt)
      generalize its.getD k It.zero = it at *
      obtain ⟨hc0, hc1, hc2⟩ := hc
      generalize (its.take k).flatMap bytesOf = bs at *
      have hrg := fun i hi => (HW.out.row_ge i hi)
      clear hcells
      go_wp2_with fail
      refine (kind_any it _).mono ?_
      rintro e w3 ⟨rfl, rfl⟩
      have hklt := it.kind_lt
      rw [HN.out] at HL1
      obtain ⟨c, hc⟩ : ∃ c, c = it.kind := ⟨_, rfl⟩
      rw [← hc] at hklt ⊢
      have HC : Hid _ := hc
      clear hc
      rcases (show c = 0 ∨ c = 1 ∨ c = 2 by omega) with h | h | h
      · subst h
        have HBy : Hid (bytesOf it = enc it.n) := bytes0 HC.out
        rw [HBy.out] at HN HL1
        go_wp2_with fail
        refine (one_num w.heap.size w1.heap.size _ r bs it.n _ _ ((HW.out.alloc _).alloc _) HO.out.2.1 (by simp) (by have := HL.out; omega) (by simp; omega)).mono ?_
        rintro e w4 ⟨rfl, r2, hw2, hs2⟩
        have HB4 : Hid _ := back_below HB.out hs1 (fun i hi => (hrg i hi).1) hs2
        rw [← HN.out] at hw2
        have HW4 : Hid _ := hw2
        clear hs2 hw2
        go_wp2
        go_roundw
        case rel => exact ⟨k + 1, r2, by omega, by go_num, HW4, HB4⟩
        case measure => simp [intOf]; omega
      · subst h
        have HBy : Hid (bytesOf it = enc (fold (wrap64 it.n))) := bytes1 HC.out
        rw [HBy.out] at HN HL1
        go_wp2_with fail
        refine (one_int w.heap.size w1.heap.size _ r bs (wrap64 it.n) _ _ ((HW.out.alloc _).alloc _) (int_bd it) (by simp) (by have := HL.out; omega) (by simp; omega)).mono ?_
        rintro e w4 ⟨rfl, r2, hw2, hs2⟩
        have HB4 : Hid _ := back_below HB.out hs1 (fun i hi => (hrg i hi).1) hs2
        rw [← HN.out] at hw2
        have HW4 : Hid _ := hw2
        clear hs2 hw2
        go_wp2
        go_roundw
        case rel => exact ⟨k + 1, r2, by omega, by go_num, HW4, HB4⟩
        case measure => simp [intOf]; omega
      · subst h
        have HBy : Hid (bytesOf it = text it.s.data.toList) := bytes2 HC.out
        rw [HBy.out] at HN HL1
        go_wp2_with fail
        refine (one_text w.heap.size w1.heap.size _ r bs it.s _ _ ((HW.out.alloc _).alloc _) (by simp) (by have := HL1.out; rw [List.length_append, text_len] at this; omega) (by simp; omega)).mono ?_
        rintro e w4 ⟨rfl, r2, hw2, hs2⟩
        have HB4 : Hid _ := back_below HB.out hs1 (fun i hi => (hrg i hi).1) hs2
        rw [← HN.out] at hw2
        have HW4 : Hid _ := hw2
        clear hs2 hw2
        go_wp2
        go_roundw
        case rel => exact ⟨k + 1, r2, by omega, by go_num, HW4, HB4⟩
        case measure => simp [intOf]; omega
    · have hk' : k = its.length := by omega
      subst hk'
      rw [List.take_length] at HW
      go_wp2_with fail
      refine (wBytes_any _ _ _ _ _ HW.out).mono ?_
      rintro e w5 ⟨rfl, rfl⟩
      obtain ⟨S, hS⟩ : ∃ S : ByteArray, S = ⟨(its.flatMap bytesOf).toArray⟩ := ⟨_, rfl⟩
      rw [← hS]
      have HSl : Hid (S.data.toList = its.flatMap bytesOf) := by rw [hS]; rfl
      clear hS
      go_wp2_with fail
      refine (read_any _ _).mono ?_
      rintro e w6 ⟨rfl, rfl⟩
      obtain ⟨wq, hwq⟩ : ∃ wq, wq = w5.alloc (.cells #[.string S] 73) := ⟨_, rfl⟩
      have HR : Hid (RdAt wq w5.heap.size S) := by rw [hwq]; exact read_at w5 S
      have HBq : Hid (Below w.heap.size w wq) := by rw [hwq]; exact HB.out.alloc hsr _
      rw [← hwq]
      clear hwq
      obtain ⟨bq, hbq⟩ : ∃ bq, bq = w5.heap.size := ⟨_, rfl⟩
      have hbw : w.heap.size ≤ bq := by omega
      rw [← hbq] at HR ⊢
      clear hbq HW HB HL HL1 hltr hsr
      go_wp2_with fail
      go_loopw [52] (fun i wr => ∃ (k : Nat) (s : ByteArray), k ≤ its.length ∧ i = .int .i64 k ∧ Hid (RdAt wr bq s) ∧ Hid (s.data.toList = (its.drop k).flatMap bytesOf) ∧ Hid (Below w.heap.size w wr)) (fun i _ => its.length - (intOf i).toNat)
      case atStart => exact ⟨0, S, by omega, rfl, HR, HSl, HBq⟩
      case round =>
        obtain ⟨k, s, hk, rfl, HR1, HL1, HB1⟩ := hrel
        have hsr := HB1.out.size
        have hlr := HR1.out.lt
        have HSz : Hid (s.size ≤ 140000000000000) := by
          show s.size ≤ _
          rw [Lib.size_eq, HL1.out]
          have h1 : (its.flatMap bytesOf).length = ((its.take k).flatMap bytesOf).length + ((its.drop k).flatMap bytesOf).length := by
            conv => lhs; rw [← List.take_append_drop k its]
            rw [List.flatMap_append, List.length_append]
          omega
        by_cases hlt : k < its.length
        · rcases hi.below HB1.out with h0 | ⟨b, off, rfl, hbl, hcells⟩
          · simp [h0] at hlt
          have hc := hcells k hlt
          have HN : Hid ((its.drop k).flatMap bytesOf = bytesOf (its.getD k It.zero) ++ (its.drop (k + 1)).flatMap bytesOf) := bytes_cons its k hlt
          have HO : Hid (its.getD k It.zero).ok := hok _ (by rw [getD_lt _ _ _ hlt]; exact List.getElem_mem hlt)
          generalize its.getD k It.zero = it at *
          obtain ⟨hc0, hc1, hc2⟩ := hc
          rw [HN.out] at HL1
          clear hcells
          go_wp2_with fail
          refine (kind_any it _).mono ?_
          rintro e w3 ⟨rfl, rfl⟩
          have hklt := it.kind_lt
          obtain ⟨c, hc⟩ : ∃ c, c = it.kind := ⟨_, rfl⟩
          rw [← hc] at hklt ⊢
          have HC : Hid _ := hc
          clear hc
          rcases (show c = 0 ∨ c = 1 ∨ c = 2 by omega) with h | h | h
          · subst h
            rw [bytes0 HC.out] at HL1
            go_wp2_with fail
            refine (rNum_read bq it.n _ s _ ((HR1.out.alloc _).alloc _) (by have := HSz.out; unfold maxLen; omega) HO.out.2.1 HL1.out).mono ?_
            rintro e w4 ⟨rfl, s4, hr4, hl4, hs4⟩
            have HB4 : Hid _ := back_below HB1.out hbw (fun i hi => by cases hi) hs4
            have hcn := item_kept hs4 hlr 1
            have HR4 : Hid _ := hr4
            have HL4 : Hid _ := hl4
            simp at hcn
            clear hs4 hr4 hl4
            go_wp2
            go_roundw
            case rel => exact ⟨k + 1, s4, by omega, by go_num, HR4, HL4, HB4⟩
            case measure => simp [intOf]; omega
          · subst h
            rw [bytes1 HC.out] at HL1
            have hbd := int_bd it
            go_wp2_with fail
            refine (rInt_read bq (fold it.int) _ s _ ((HR1.out.alloc _).alloc _) (by have := HSz.out; unfold maxLen; omega) (fold_lt hbd.1 hbd.2) HL1.out).mono ?_
            rintro e w4 ⟨rfl, s4, hr4, hl4, hs4⟩
            have HB4 : Hid _ := back_below HB1.out hbw (fun i hi => by cases hi) hs4
            have hcn := item_kept hs4 hlr 1
            have HR4 : Hid _ := hr4
            have HL4 : Hid _ := hl4
            simp at hcn
            clear hs4 hr4 hl4
            rw [unfold_fold, It.int]
            go_wp2
            go_roundw
            case rel => exact ⟨k + 1, s4, by omega, by go_num, HR4, HL4, HB4⟩
            case measure => simp [intOf]; omega
          · subst h
            rw [bytes2 HC.out] at HL1
            go_wp2_with fail
            refine (rText_read bq it.s.data.toList _ s _ ((HR1.out.alloc _).alloc _) (by have := HSz.out; omega) HL1.out).mono ?_
            rintro e w4 ⟨rfl, s4, hr4, hl4, hs4⟩
            have HB4 : Hid _ := back_below HB1.out hbw (fun i hi => by cases hi) hs4
            have hcn := item_kept hs4 hlr 2
            have HR4 : Hid _ := hr4
            have HL4 : Hid _ := hl4
            simp at hcn
            clear hs4 hr4 hl4
            rw [str_back]
            go_wp2
            go_roundw
            case rel => exact ⟨k + 1, s4, by omega, by go_num, HR4, HL4, HB4⟩
            case measure => simp [intOf]; omega
        · have hk' : k = its.length := by omega
          subst hk'
          have hz : s.size = 0 := by rw [Lib.size_eq, HL1.out]; simp
          have HZ : Hid _ := hz
          clear hz
          go_wp2_with fail
          refine (done_any bq s _ HR1.out).mono ?_
          rintro e w7 ⟨rfl, rfl⟩
          rw [HZ.out]
          go_wp2_with fail
          refine (left_any bq s _ HR1.out).mono ?_
          rintro e w8 ⟨rfl, rfl⟩
          rw [HZ.out]
          go_wp2
          go_ret
          exact ⟨rfl, HB1.out⟩

end Go.Proofs.Ytnhmabhcegiekaa.Pk
