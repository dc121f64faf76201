/-
  Package order's reader: numbers, texts and parts taken from what is left of a key.
-/
import Derived.Test.YtceghgbkiafklaaDoorOrderReadMath
import Derived.Test.YtceghgbkiafklaaDoorOrderInts
import Derived.Test.YtceghgbkiafklaaDoorOrderEnd
namespace Go.Proofs.YtceghgbkiafklaaDoor.Od
open Go.RowKit
open Go.Proofs.YtceghgbkiafklaaDoor.Cm
attribute [local go_sem ↓] Go.wp_at_zero Go.wp_at_succ
set_option linter.unusedVariables false

/-- Block b is a reader: what it gathers, and what is left. -/
def RAt (w : World) (base b : Nat) (r : Option Nat) (bs : List UInt8) (rest : ByteArray) : Prop := GAt w base b 54 [.string rest] r bs
section
variable {w w' : World} {base b : Nat} {r : Option Nat} {bs : List UInt8} {rs : ByteArray}
theorem RAt.left (h : RAt w base b r bs rs) : w.cell? ⟨b, 1, none⟩ = some (.string rs) ∧ w.frozen? ⟨b, 1, none⟩ = false := by
  obtain ⟨v, hb, _⟩ := h
  exact ⟨by rw [Joins.cell_of_block hb]; rfl, by simp [World.frozen?, hb]⟩
theorem RAt.set (h : RAt w base b r bs rs) (s : ByteArray) : RAt (w.setCell ⟨b, 1, none⟩ (.string s)) base b r bs s ∧ Step b w r (w.setCell ⟨b, 1, none⟩ (.string s)) r := by
  refine ⟨?_, Step.set b r w 1 _⟩
  obtain ⟨v, hb, hown, hr, hne⟩ := h
  refine ⟨v, ?_, ownsRow_setCell_other hown hne _, hr, hne⟩
  rw [Joins.block_setCell hb]
  rfl
/-- Cutting what was gathered to nothing. -/
theorem RAt.empty (h : RAt w base b r bs rs) : ∃ v v', w.cell? ⟨b, 0, none⟩ = some v ∧ w.frozen? ⟨b, 0, none⟩ = false ∧ (∀ W : World, (Instr.slice 43 v none (some (.int .i64 0)) none).run Tryd.prog W = .ok v' W) ∧
    RAt (w.setCell ⟨b, 0, none⟩ v') base b r [] rs ∧ ((v = .slice none 0 0 ∧ v' = .slice none 0 0) ∨ ∃ g n cap, v = .slice (some ⟨g, 0, none⟩) n cap ∧ v' = .slice (some ⟨g, 0, none⟩) 0 cap) := by
  obtain ⟨v, hb, hown, hr, hne⟩ := h
  have hc : w.cell? ⟨b, 0, none⟩ = some v := by rw [Joins.cell_of_block hb]; rfl
  have hf : w.frozen? ⟨b, 0, none⟩ = false := by simp [World.frozen?, hb]
  have hel : Tryd.prog.elem 43 = 5 := by kernel_rfl
  have hrun : ∀ (ao : Option Addr) (len cap : Nat) (W : World), (Instr.slice 43 (.slice ao len cap) none (some (.int .i64 0)) none).run Tryd.prog W = .ok (.slice ao 0 cap) W := fun ao len cap W => by
    have h := run_slice_h (P := Tryd.prog) W 43 ao len cap (by rw [hel]; exact Tryd.underlying43) .i64 0 (by omega) (by omega)
    rw [h]
    have e : ao.map (·.add 0) = ao := by
      cases ao with
      | none => rfl
      | some a => cases a; simp [Addr.add]
    rw [hel, Tryd.sizeOf5 W]
    simp [Result.andThen, sliced, e]
  rcases hown.2 with ⟨rfl, hn⟩ | ⟨g, cap, cur, rfl, hB, hg, hle, hcm, hcs, _⟩
  · refine ⟨_, .slice none 0 0, hc, hf, hrun _ _ _, ⟨.slice none 0 0, ?_, ⟨rfl, .inl ⟨rfl, rfl⟩⟩, hr, hne⟩, .inl ⟨rfl, rfl⟩⟩
    rw [Joins.block_setCell hb]; rfl
  · refine ⟨_, .slice (some ⟨g, 0, none⟩) 0 cap, hc, hf, hrun _ _ _, ⟨.slice (some ⟨g, 0, none⟩) 0 cap, ?_, ?_, hr, hne⟩, .inr ⟨g, _, cap, rfl, rfl⟩⟩
    · rw [Joins.block_setCell hb]; rfl
    · refine ownsRow_setCell_other ?_ hne _
      exact ⟨rfl, .inr ⟨g, cap, cur, rfl, hB, hg, Nat.zero_le _, hcm, hcs, by simp⟩⟩
end
theorem sl_from (s : ByteArray) (m : Nat) (h : m ≤ s.size) (W : World) : (Instr.slice 9 (.string s) (some (.int .i64 (m : Int))) none none).run Tryd.prog W = .ok (.string (s.extract m s.size)) W := by
  have h2 := run_slice_string_from_if (P := Tryd.prog) W 9 s .i64 (m : Int) Tryd.underlying9
  rw [if_pos ⟨by omega, by omega⟩, Int.toNat_natCast] at h2
  exact h2
theorem ext_drop (s : ByteArray) (m : Nat) : s.extract m s.size = ⟨(s.data.toList.drop m).toArray⟩ := by
  apply bytes_inj
  rw [ByteArray.data_extract, Array.toList_extract, List.extract_eq_take_drop, List.take_of_length_le (by rw [List.length_drop, ← Lib.size_eq]; omega)]
theorem xor_back {u : Nat} (h : u < 18446744073709551616) : IntKind.i64.wrap (bits .xor .u64 (u : Int) 9223372036854775808) = (u : Int) - 9223372036854775808 := by
  have := u64_xor_nat u 9223372036854775808 h (by omega)
  rw [show (9223372036854775808 : Int) = ((9223372036854775808 : Nat) : Int) from rfl, this, xor_top h]
  by_cases h2 : u < 9223372036854775808
  · rw [show (u + 9223372036854775808) % 18446744073709551616 = u + 9223372036854775808 by omega]
    rw [IntKind.wrap_i64]
    omega
  · rw [show (u + 9223372036854775808) % 18446744073709551616 = u - 9223372036854775808 by omega, IntWalk.i64_in _ ⟨by omega, by omega⟩]
    omega

theorem or_byte {x : Nat} (c : UInt8) (h : x < 72057594037927936) : bits .or .u64 (IntKind.u64.wrap ((x : Int) * 256)) (IntKind.u64.wrap (c.toNat : Int)) = ((x * 256 + c.toNat : Nat) : Int) := by
  have hc := c.toNat_lt
  rw [IntWalk.u64_in _ ⟨by omega, by omega⟩, IntWalk.u64_in _ ⟨by omega, by omega⟩]
  have := u64_or_nat (x * 256) c.toNat (by omega) (by omega)
  rw [show ((x : Int) * 256) = ((x * 256 : Nat) : Int) by omega, this]
  have h2 := Nat.two_pow_add_eq_or_of_lt (i := 8) (b := c.toNat) (by omega) x
  rw [show 2 ^ 8 * x = x * 256 by omega] at h2
  rw [← h2]
/-- What takeInt answers, where the bytes l are left. -/
def IntAns (w : World) (base b : Nat) (r : Option Nat) (bs l : List UInt8) (e : Ending) (w' : World) : Prop :=
  (l.length < 8 ∧ e = .returned (.tuple #[.int .i64 0, .bool false]) ∧ w' = w) ∨
  (8 ≤ l.length ∧ e = .returned (.tuple #[.int .i64 (numOf (l.take 8)), .bool true]) ∧ RAt w' base b r bs ⟨(l.drop 8).toArray⟩ ∧ Step b w r w' r)
set_option maxRecDepth 100000 in
set_option maxHeartbeats 500000 in
theorem takeInt_any (base b : Nat) (r : Option Nat) (bs : List UInt8) (s : ByteArray) (w : World) (hw : RAt w base b r bs s) (hs : s.size ≤ 140737488355328) :
    Calls Tryd.prog 36 #[.pointer (some ⟨b, 0, none⟩)] w fun e w' => IntAns w base b r bs s.data.toList e w' := by
  obtain ⟨hc, hf⟩ := hw.left
  by_cases hlt : s.size < 8
  · have hd : decide ((s.size : Int) < 8) = true := decide_eq_true (by omega)
    go_enter Tryd.func36, Tryd.ntmps36
    go_wp2
    go_ret2
    exact .inl ⟨by rw [← Lib.size_eq]; exact hlt, rfl, rfl⟩
  · have hd : decide ((s.size : Int) < 8) = false := decide_eq_false (by omega)
    have HW : Hid (RAt w base b r bs s) := hw
    clear hw
    go_enter Tryd.func36, Tryd.ntmps36
    go_wp2_with fail
    go_loop [4, 12] (fun u i => ∃ k x : Nat, k ≤ 8 ∧ i = .int .i64 k ∧ u = .int .u64 x ∧ Hid (x = val (s.data.toList.take k))) (fun _ i => 8 - (intOf i).toNat)
    case atStart => exact ⟨0, 0, by omega, rfl, rfl, rfl⟩
    case round =>
      obtain ⟨k, x, hk, rfl, rfl, HV⟩ := hrel
      by_cases h8 : k < 8
      · have hix := idx_str s k (by omega)
        have hlk : k < s.data.toList.length := by rw [← Lib.size_eq]; omega
        have hvl := val_lt (s.data.toList.take k)
        have HN : Hid (val (s.data.toList.take (k + 1)) = x * 256 + (s.data.toList[k]).toNat) := by
          show _ = _
          rw [List.take_add_one, List.getElem?_eq_getElem hlk, Option.toList_some, val_snoc, ← HV.out]
        generalize s.data.toList[k] = c at *
        have hxl : x < 72057594037927936 := by
          have h1 := HV.out
          rw [List.length_take, Nat.min_eq_left (by omega)] at hvl
          have h2 : 256 ^ k ≤ 256 ^ 7 := Nat.pow_le_pow_right (by omega) (by omega)
          rw [← h1] at hvl
          omega
        have HOR : Hid (bits .or .u64 ((x : Int) * 256) (IntKind.u64.wrap (c.toNat : Int)) = ((x * 256 + c.toNat : Nat) : Int)) := by
          have h1 := or_byte c hxl
          rw [IntWalk.u64_in ((x : Int) * 256) ⟨by omega, by omega⟩] at h1
          exact h1
        clear hvl
        go_wp2
        go_round
        case rel => exact ⟨k + 1, x * 256 + c.toNat, by omega, by go_num, by rw [HOR.out], HN.out.symm⟩
        case measure => simp [intOf]; omega
      · obtain rfl : k = 8 := by omega
        have hl8 : (s.data.toList.take 8).length = 8 := by rw [List.length_take, ← Lib.size_eq]; omega
        have hvl := val_lt (s.data.toList.take 8)
        rw [hl8, ← HV.out] at hvl
        have hxb := xor_back (u := x) (by simpa using hvl)
        have hsl := sl_from s 8 (by omega)
        have hst := HW.out.set (s.extract 8 s.size)
        have HST : Hid _ := hst
        clear hst hvl
        go_wp2
        go_ret2
        refine .inr ⟨by rw [← Lib.size_eq]; omega, ?_, ?_, HST.out.2⟩
        · simp only [numOf, ← HV.out]; rfl
        · rw [← ext_drop]; exact HST.out.1

/-- What takeText answers, where the bytes l are left. -/
def TextAns (w : World) (base b : Nat) (r : Option Nat) (l : List UInt8) (e : Ending) (w' : World) : Prop :=
  (¬ hasText l ∧ e = .returned (.tuple #[.string ⟨#[]⟩, .bool false]) ∧ ∃ r' bs' s', RAt w' base b r' bs' s' ∧ Step b w r w' r') ∨
  (∃ t rs, l = esc t ++ 0 :: 0 :: rs ∧ e = .returned (.tuple #[.string ⟨t.toArray⟩, .bool true]) ∧ ∃ r', RAt w' base b r' t ⟨rs.toArray⟩ ∧ Step b w r w' r')
def leftSize (w : World) (b : Nat) : Nat := match w.cell? ⟨b, 1, none⟩ with
  | some (.string s) => s.size
  | _ => 0
theorem leftSize_of {w : World} {base b : Nat} {r : Option Nat} {bs : List UInt8} {s : ByteArray} (h : RAt w base b r bs s) : leftSize w b = s.size := by
  unfold leftSize; rw [h.left.1]
theorem RAt.drew {w : World} {base b n : Nat} {r : Option Nat} {bs : List UInt8} {s : ByteArray} (h : RAt w base b r bs s) : RAt (w.drewN n) base b r bs s := h
theorem Step.drewN {w w' : World} {b n : Nat} {r r' : Option Nat} (h : Step b w r w' r') : Step b w r (w'.drewN n) r' := ⟨⟨h.kept.os, h.kept.tape, h.kept.output, h.kept.size, h.kept.block⟩, h.row⟩
theorem size_mk (l : List UInt8) : (⟨l.toArray⟩ : ByteArray).size = l.length := by rw [Lib.size_eq]
theorem MaxOk.step {w w' : World} {b base : Nat} {r r' : Option Nat} (h : MaxOk w) (hs : Step b w r w' r') (hb : 0 ≠ b) (hr : ∀ k, r = some k → base ≤ k) (h0 : 0 < base) : MaxOk w' :=
  h.keep (hs.kept.block 0 h.lt hb (fun e => by have := hr 0 e.symm; omega))

set_option maxRecDepth 100000 in
set_option maxHeartbeats 500000 in
theorem takeText_any (base b : Nat) (r : Option Nat) (bs : List UInt8) (s : ByteArray) (w : World) (hw : RAt w base b r bs s) (hm : MaxOk w) (h0 : 0 < base) (hb0 : 0 ≠ b) (hs : s.size < 4294967281) (hbase : base ≤ w.heap.size) :
    Calls Tryd.prog 37 #[.pointer (some ⟨b, 0, none⟩)] w fun e w' => TextAns w base b r s.data.toList e w' := by
  obtain ⟨v, v', hc, hf, hsl0, hE, hform⟩ := hw.empty
  have hrow := fun k hk => (hw.row_ge k hk).1
  have HE : Hid (RAt (w.setCell ⟨b, 0, none⟩ v') base b r [] s) := hE
  have HST : Hid (Step b w r (w.setCell ⟨b, 0, none⟩ v') r) := Step.set b r w 0 v'
  have HW : Hid (RAt w base b r bs s) := hw
  clear hw hE
  rcases hform with ⟨rfl, rfl⟩ | ⟨g, n, cap, rfl, rfl⟩
  all_goals
    go_enter Tryd.func37, Tryd.ntmps37
    go_wp2_with fail
    go_loopw [2] (fun u wr => ∃ (d : List UInt8) (r1 : Option Nat) (s1 : ByteArray), u = .string ⟨#[]⟩ ∧ Hid (s.data.toList = esc d ++ s1.data.toList) ∧ Hid (d.length + s1.size ≤ s.size) ∧ Hid (RAt wr base b r1 d s1) ∧ Hid (Step b w r wr r1)) (fun _ wr => leftSize wr b)
    case atStart => exact ⟨[], r, s, rfl, rfl, by show _ ≤ _; simp, HE, HST⟩
    case round =>
      clear HE HST hsl0
      obtain ⟨d, r1, s1, rfl, HL, HZ, HR, HS⟩ := hrel
      have hsz := HS.out.kept.size
      obtain ⟨hc1, hf1⟩ := HR.out.left
      have hm1 : MaxOk wr := hm.step HS.out hb0 hrow h0
      have hz := HZ.out
      have HCut : Hid _ := cut_any s1 wr hm1 (by omega)
      have HM : Hid (leftSize wr b = s1.size) := leftSize_of HR.out
      rcases zero_form s1.data.toList with hno | ⟨p, r0, hl1, hno⟩
      · rw [cut_none hno] at HCut
        have HNO : Hid (¬ hasText s.data.toList) := by
          show ¬ _
          rw [HL.out]
          exact noText_of fun ⟨t, r, e⟩ => esc_no_zero hno e
        go_wp2_with fail
        refine Calls.mono HCut.out ?_
        rintro e w2 ⟨rfl, m, rfl⟩
        go_wp2
        go_ret2
        exact .inl ⟨HNO.out, rfl, _, _, _, HR.out.drew, HS.out.drewN⟩
      · rw [hl1, cut_some hno] at HCut
        have hep := esc_plain hno
        cases r0 with
        | nil =>
          have HNO : Hid (¬ hasText s.data.toList) := by
            show ¬ _
            rw [HL.out, hl1]
            exact noText_of fun ⟨t, r, e⟩ => esc_short hep e
          go_wp2_with fail
          refine Calls.mono HCut.out ?_
          rintro e w2 ⟨rfl, m, rfl⟩
          go_wp2
          go_ret2
          exact .inl ⟨HNO.out, rfl, _, _, _, HR.out.drew, HS.out.drewN⟩
        | cons c rr =>
          have hlen : s1.size = p.length + rr.length + 2 := by
            rw [Lib.size_eq, hl1]; simp; omega
          obtain ⟨BH, hBH⟩ : ∃ BH : ByteArray, BH = ⟨(c :: rr).toArray⟩ := ⟨_, rfl⟩
          obtain ⟨PL, hPL⟩ : ∃ PL : ByteArray, PL = ⟨p.toArray⟩ := ⟨_, rfl⟩
          have hBs : BH.size = rr.length + 1 := by rw [hBH, size_mk]; rfl
          have hPs : PL.size = p.length := by rw [hPL, size_mk]
          have hemp : BH.toList.isEmpty = false := by rw [hBH, Lib.toList_data]; rfl
          have hs1 : BH.extract 1 BH.size = ⟨rr.toArray⟩ := by rw [ext_drop, hBH]; rfl
          have hs2 : BH.extract 0 1 = ⟨#[c]⟩ := by rw [hBH]; apply bytes_inj; rw [ByteArray.data_extract, Array.toList_extract]; simp
          have hb1 : (1 : Int) ≤ (BH.size : Int) := by omega
          rw [← hBH, ← hPL] at HCut
          have HPd : Hid (PL.data.toList = p) := by show _ = _; rw [hPL]
          have HBs : Hid (PL.size = p.length) := hPs
          obtain ⟨RR, hRR⟩ : ∃ RR : ByteArray, RR = ⟨rr.toArray⟩ := ⟨_, rfl⟩
          rw [← hRR] at hs1
          have HRR : Hid (RR.data.toList = rr ∧ RR.size = rr.length) := by rw [hRR]; exact ⟨rfl, size_mk rr⟩
          have HRR2 : Hid (RR = ⟨rr.toArray⟩) := hRR
          have HLn : Hid (s1.size = p.length + rr.length + 2) := hlen
          have HL1 : Hid (s.data.toList = esc d ++ (p ++ 0 :: c :: rr)) := by show _ = _; rw [HL.out, hl1]
          have HEP : Hid (esc p = p) := hep
          clear hBH hPL hBs hPs hRR hlen hl1 hep
          go_wp2_with fail
          refine Calls.mono HCut.out ?_
          rintro e w2 ⟨rfl, m, rfl⟩
          clear HCut
          go_wp2_with fail
          refine (putText_any base b 54 [.string s1] r1 d PL _ HR.out.drew (by rw [HBs.out]; have := HLn.out; omega) (by show base ≤ wr.heap.size; omega)).mono ?_
          rintro e w3 ⟨rfl, r3, hw3, st3⟩
          rw [HPd.out] at hw3
          have HR3 : Hid (RAt w3 base b r3 (d ++ p) s1) := hw3
          have HS3 : Hid (Step b w r w3 r3) := HS.out.drewN.trans st3
          obtain ⟨hc3, hf3⟩ := HR3.out.left
          have HR4 : Hid (RAt (w3.setCell ⟨b, 1, none⟩ (.string RR)) base b r3 (d ++ p) RR) := (HR3.out.set RR).1
          have HS4 : Hid (Step b w r (w3.setCell ⟨b, 1, none⟩ (.string RR)) r3) := HS3.out.trans (HR3.out.set RR).2
          have hs3 := HS3.out.kept.size
          clear hw3 st3 HR HS
          by_cases hc0 : c = 0
          · subst hc0
            go_wp2_with fail
            refine (all_any _ _ _ _ _ _ _ HR4.out).mono ?_
            rintro e w5 ⟨rfl, rfl⟩
            go_wp2
            go_ret2
            refine .inr ⟨d ++ p, rr, ?_, rfl, r3, by rw [← HRR2.out]; exact HR4.out, HS4.out⟩
            rw [HL1.out, esc_append, HEP.out]; simp
          · have hq0 : (c == 0) = false := beq_eq_false_iff_ne.2 hc0
            by_cases hc255 : c = 255
            · subst hc255
              go_wp2_with fail
              refine (putText_any base b 54 [.string RR] r3 (d ++ p) ⟨#[0]⟩ _ HR4.out (by have := HLn.out; have := HZ.out; simp; show _ + 1 ≤ _; omega) (by show base ≤ (w3.setCell _ _).heap.size; simp [World.setCell]; omega)).mono ?_
              rintro e w5 ⟨rfl, r5, hw5, st5⟩
              have HR5 : Hid (RAt w5 base b r5 (d ++ p ++ [0]) RR) := hw5
              have HS5 : Hid (Step b w r w5 r5) := HS4.out.trans st5
              have HM5 : Hid (leftSize w5 b = RR.size) := leftSize_of HR5.out
              clear hw5 st5
              go_wp2
              go_roundw
              case rel =>
                refine ⟨d ++ p ++ [0], r5, RR, rfl, ?_, ?_, HR5, HS5⟩
                · show _ = _
                  rw [HL1.out, esc_append, esc_append, HEP.out, HRR.out.1]; simp [esc]
                · show _ ≤ _
                  have h1 := HLn.out; have h2 := HZ.out; have h3 := HRR.out.2
                  simp; omega
              case measure =>
                have h1 := HLn.out; have h2 := HM.out; have h3 := HM5.out; have h4 := HRR.out.2
                omega
            · have hq255 : (c == 255) = false := beq_eq_false_iff_ne.2 hc255
              have HNO : Hid (¬ hasText s.data.toList) := by
                show ¬ _
                rw [HL1.out]
                exact noText_of fun ⟨t, r, e⟩ => esc_other HEP.out hc0 hc255 e
              go_wp2
              go_ret2
              exact .inl ⟨HNO.out, rfl, _, _, _, HR4.out, HS4.out⟩
end Go.Proofs.YtceghgbkiafklaaDoor.Od
