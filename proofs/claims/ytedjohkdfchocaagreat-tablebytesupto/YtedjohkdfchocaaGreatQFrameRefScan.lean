/-
  The texts FrameRefScan.
-/
import Derived.Test.YtedjohkdfchocaaGreatPart5
import Derived.Deep.RegionHeld3
import Derived.Deep.DrawnRows

/-
  The document's First and Scan of layer 2.
-/
namespace Go.Proofs.YtedjohkdfchocaaGreat.Fr
open Go.RowKit Cm
set_option linter.unusedVariables false
attribute [local go_sem ↓] Go.wp_at_zero Go.wp_at_succ

/-- What the first bytes come to, one behind the other. -/
def val (l : List UInt8) : Nat := l.foldl (fun n c => 256 * n + c.toNat) 0
theorem val_snoc (l : List UInt8) (c : UInt8) : val (l ++ [c]) = 256 * val l + c.toNat := by rw [val, List.foldl_append]; rfl
theorem val_word {l : List UInt8} (h : l.length = 4) : val l = word l := by
  obtain ⟨a, b, c, d, rfl⟩ := list4 h
  simp only [val, word, List.foldl_cons, List.foldl_nil, List.getD_cons_zero, List.getD_cons_succ]
  omega
theorem val_from (l : List UInt8) (n : Nat) : l.foldl (fun n c => 256 * n + c.toNat) n < (n + 1) * 256 ^ l.length := by
  induction l generalizing n with
  | nil => simp
  | cons c l ih =>
    have h := ih (256 * n + c.toNat)
    have hc := c.toNat_lt
    have h2 : (256 * n + c.toNat + 1) * 256 ^ l.length ≤ (256 * (n + 1)) * 256 ^ l.length := Nat.mul_le_mul_right _ (by omega)
    rw [List.foldl_cons, List.length_cons, Nat.pow_succ, Nat.mul_comm (256 ^ l.length), ← Nat.mul_assoc, Nat.mul_comm (n + 1) 256]
    omega
theorem val_lt (l : List UInt8) (h : l.length ≤ 4) : val l < 4294967296 := by
  have h1 := val_from l 0
  have h2 : (256 : Nat) ^ l.length ≤ 256 ^ 4 := Nat.pow_le_pow_right (by decide) h
  unfold val
  omega
theorem val_byte (l : List UInt8) (s : ByteArray) (n j : Nat) (hl : l = s.data.toList.drop n) (h : n + j < s.size) : val (l.take (j + 1)) = 256 * val (l.take j) + (s[n + j]).toNat := by
  have hj : j < l.length := by rw [hl, List.length_drop, ← Lib.size_eq]; omega
  rw [List.take_succ_eq_append_getElem hj, val_snoc]
  congr 2
  subst hl
  rw [List.getElem_drop]
  rfl

set_option maxRecDepth 100000 in
set_option maxHeartbeats 1000000 in
theorem refFirst_short (T : ByteArray) (k : Int) (w : World) (hT : T.size ≤ 140737488355328) (hk1 : -9223372036854775808 ≤ k) (hk2 : k ≤ 9223372036854775807) (h : k < 0 ∨ (T.size : Int) < k + 8) :
    Calls Tryz.prog 59 #[.string T, .int .i64 k] w fun e w' => e = .returned (.tuple #[.string ⟨#[]⟩, .int .i64 0, .int .i64 1]) ∧ Below w.heap.size w w' := by
  by_cases hn : k < 0
  · clear h
    go_enter Tryz.func59, Tryz.ntmps59
    go_wp2
    go_ret3
    exact ⟨rfl, Below.refl _ _⟩
  · by_cases hb : (T.size : Int) < k
    · clear h
      go_enter Tryz.func59, Tryz.ntmps59
      go_wp2
      go_ret3
      exact ⟨rfl, Below.refl _ _⟩
    · have h8 : (T.size : Int) - k < 8 := by omega
      clear h
      go_enter Tryz.func59, Tryz.ntmps59
      go_wp2
      go_ret3
      exact ⟨rfl, Below.refl _ _⟩

/-- Where the first four bytes are there: the frame that the document's First looks for. -/
theorem frame_of_first {l p : List UInt8} (h8 : 8 ≤ l.length) (hp : p = (l.drop 8).take (word (l.take 4))) (hlen : p.length = word (l.take 4)) (h : frame p = l.take (8 + word (l.take 4))) (hsm : p.length ≤ 65536) : first l = some (word (l.take 4)) := by
  have : l = frame p ++ l.drop (8 + word (l.take 4)) := by rw [h, List.take_append_drop]
  rw [← hlen]
  conv => lhs; rw [this]
  exact first_frame p _ hsm
theorem frame_of_not {l p : List UInt8} (hp : p = (l.drop 8).take (word (l.take 4))) (hlen : p.length = word (l.take 4)) (h : frame p ≠ l.take (8 + word (l.take 4))) : first l = none := by
  cases hf : first l with
  | none => rfl
  | some n =>
    exfalso
    obtain ⟨q, r, hq, hsm, rfl⟩ := first_some hf
    have hw : word ((frame q ++ r).take 4) = q.length := by
      rw [frame, List.append_assoc, List.take_left' (four_len _), word_four _ (by omega)]
    have hd : (frame q ++ r).drop 8 = q ++ r := by
      rw [frame, List.append_assoc, show 8 = 4 + 4 from rfl, ← List.drop_drop, List.drop_left' (four_len _), List.append_assoc, List.drop_left' (four_len _)]
    rw [hw] at hp h
    rw [hd, List.take_left' rfl] at hp
    subst hp
    exact h (by rw [List.take_left' (by rw [frame_len])])

theorem str_slice (s : ByteArray) (a b : Nat) (hab : a ≤ b) (h : b ≤ s.size) (W : World) : (Instr.slice 9 (.string s) (some (.int .i64 (a : Int))) (some (.int .i64 (b : Int))) none).run Tryz.prog W = .ok (.string (s.extract a b)) W := by
  have := run_slice_string (P := Tryz.prog) W 9 s .i64 .i64 (a : Int) (b : Int) Tryz.underlying9 (by omega) (by omega) (by omega)
  rwa [Int.toNat_natCast, Int.toNat_natCast] at this
theorem text_ne {F E : ByteArray} (h : F ≠ E) : (F.toList == E.toList) = false := by
  rw [beq_eq_false_iff_ne, Lib.toList_data, Lib.toList_data]
  exact fun k => h (ByteArray.ext (Array.ext' k))
/-- What First answers at place n, where the text goes on with l. -/
def FirstAns (l : List UInt8) (n : Nat) (e : Ending) : Prop :=
  (Fr.first l = none ∧ e = .returned (.tuple #[.string ⟨#[]⟩, .int .i64 0, .int .i64 1])) ∨
    ∃ p r, l = frame p ++ r ∧ p.length ≤ 65536 ∧ e = .returned (.tuple #[.string (str p), .int .i64 ((n : Int) + 8 + (p.length : Int)), .int .i64 0])

set_option maxRecDepth 100000 in
set_option maxHeartbeats 1000000 in
theorem refFirst_long (T : ByteArray) (n : Nat) (w : World) (hT : T.size ≤ 140737488355328) (h8 : n + 8 ≤ T.size) :
    Calls Tryz.prog 59 #[.string T, .int .i64 n] w fun e w' => FirstAns (T.data.toList.drop n) n e ∧ Below w.heap.size w w' := by
  obtain ⟨l, hl⟩ : ∃ l, l = T.data.toList.drop n := ⟨_, rfl⟩
  have HL : Hid (l = T.data.toList.drop n) := hl
  have hll : l.length = T.size - n := by rw [hl, List.length_drop, ← Lib.size_eq]
  rw [← hl]
  clear hl
  have hguard : decide ((T.size : Int) - (n : Int) < 8) = false := by simp; omega
  have hg1 : decide ((n : Int) < 0) = false := by simp
  have hg2 : decide (T.size < n) = false := by simp; omega
  have hg3 : decide ((T.size : Int) < (n : Int)) = false := by simp; omega
  go_enter Tryz.func59, Tryz.ntmps59
  go_wp2
  go_loopw [7, 8] (fun v i wr => ∃ j m : Nat, j ≤ 4 ∧ i = .int .i64 j ∧ v = .int .i64 m ∧ m < 4294967296 ∧ Hid (m = val (l.take j)) ∧ wr = w) (fun _ i _ => 4 - (intOf i).toNat)
  case atStart => exact ⟨0, 0, by omega, rfl, rfl, by omega, hid_rfl, rfl⟩
  case round =>
    obtain ⟨j, m, hj, rfl, rfl, hm, HM, rfl⟩ := hrel
    by_cases hlt : j < 4
    · have hnj : n + j < T.size := by omega
      have HV := val_byte l T n j HL.out hnj
      rw [← HM.out] at HV
      have hv4 := val_lt (l.take (j + 1)) (by rw [List.length_take]; omega)
      have hcl := (T[n + j]).toNat_lt
      rw [HV] at hv4
      have HV0 : Hid _ := HV
      clear HV HM
      generalize hcj : T[n + j] = c at *
      go_wp2
      go_roundw
      case rel => exact ⟨j + 1, 256 * m + c.toNat, by omega, by go_num, by go_num, hv4, HV0.out.symm, trivial⟩
      case measure => simp [intOf]; omega
    · have hj' : j = 4 := by omega
      subst hj'
      have HW : Hid (m = word (l.take 4)) := by rw [HM.out]; exact val_word (by rw [List.length_take]; omega)
      clear HM
      by_cases hbig : 65536 < m
      · have HF : Hid (Fr.first l = none) := by
          show Fr.first l = none
          unfold Fr.first; rw [if_neg (by omega), ← HW.out, if_pos (.inl hbig)]
        go_wp2
        go_ret3
        exact ⟨.inl ⟨HF.out, rfl⟩, Below.refl _ _⟩
      · by_cases hlong : T.size - n - 8 < m
        · have HF : Hid (Fr.first l = none) := by
            show Fr.first l = none
            unfold Fr.first; rw [if_neg (by omega), ← HW.out, if_pos (.inr (by omega))]
          have hlongi : (T.size : Int) - (n : Int) - 8 < (m : Int) := by omega
          go_wp2
          go_ret3
          exact ⟨.inl ⟨HF.out, rfl⟩, Below.refl _ _⟩
        · have hnl : decide ((T.size : Int) - (n : Int) - 8 < (m : Int)) = false := by simp; omega
          have hsl : ∀ W : World, (Instr.slice 9 (.string T) (some (.int .i64 ((n : Int) + 8))) (some (.int .i64 ((n : Int) + 8 + (m : Int)))) none).run Tryz.prog W = .ok (.string (T.extract (n + 8) (n + 8 + m))) W := fun W => str_slice T (n + 8) (n + 8 + m) (by omega) (by omega) W
          have hsl2 : ∀ W : World, (Instr.slice 9 (.string T) (some (.int .i64 (n : Int))) (some (.int .i64 ((n : Int) + 8 + (m : Int)))) none).run Tryz.prog W = .ok (.string (T.extract n (n + 8 + m))) W := fun W => str_slice T n (n + 8 + m) (by omega) (by omega) W
          obtain ⟨Q, hQ⟩ : ∃ Q, Q = T.extract (n + 8) (n + 8 + m) := ⟨_, rfl⟩
          obtain ⟨E, hE⟩ : ∃ E, E = T.extract n (n + 8 + m) := ⟨_, rfl⟩
          rw [← hQ] at hsl
          rw [← hE] at hsl2
          have hQs : Q.size = m := by rw [hQ]; simp; omega
          have HQ : Hid (Q.data.toList = (l.drop 8).take (word (l.take 4))) := by rw [hQ, ext_list, HL.out, List.drop_drop, ← HL.out, ← HW.out, Nat.add_sub_cancel_left]; exact hid_rfl
          have HE : Hid (E.data.toList = l.take (8 + word (l.take 4))) := by rw [hE, ext_list, ← HL.out, ← HW.out, show n + 8 + m - n = 8 + m by omega]; exact hid_rfl
          clear hQ hE
          go_wp2_with fail
          have hFr : ∀ W : World, Calls Tryz.prog 54 #[.string Q] W fun e w' => e = .returned (.string (str (frame Q.data.toList))) ∧ Below W.heap.size W w' := fun W => refFrame_any Q (by omega) W
          have HFr : Hid _ := hFr
          clear hFr
          obtain ⟨F, hF⟩ : ∃ F, F = str (frame Q.data.toList) := ⟨_, rfl⟩
          have HF : Hid (F.data.toList = frame Q.data.toList) := by rw [hF]; exact hid_rfl
          rw [← hF] at HFr
          clear hF
          have hw1 : IntKind.i64.wrap ((n : Int) + 8) = (n : Int) + 8 := IntWalk.i64_in _ ⟨by omega, by omega⟩
          have hw2 : IntKind.i64.wrap ((n : Int) + 8 + (m : Int)) = (n : Int) + 8 + (m : Int) := IntWalk.i64_in _ ⟨by omega, by omega⟩
          have hlQ : Q.data.toList.length = word (l.take 4) := by rw [← Lib.size_eq, hQs]; exact HW.out
          by_cases hFE : F = E
          · have HA : Hid (l = frame Q.data.toList ++ l.drop (8 + word (l.take 4))) := by
              show l = _
              rw [← HF.out, hFE, HE.out, List.take_append_drop]
            have hQl : Q.data.toList.length = m := by rw [← Lib.size_eq]; exact hQs
            have heq : (F.toList == E.toList) = true := by rw [hFE]; simp
            have HQl : Hid _ := hQl
            clear hQl hlQ hFE
            go_region_held3 (fun w' => True) (trivial) ((go_at_call 54; refine (HFr.out _).mono ?_; rintro e w2 ⟨rfl, hb2⟩))
            have HB : Hid (Below wr.heap.size wr w2) := (Below.drew (Below.refl _ wr)).trans hb2
            clear hb2 HFr hsl hsl2
            go_wp2
            go_ret3
            refine ⟨.inr ⟨Q.data.toList, _, HA.out, by have := HQl.out; omega, ?_⟩, HB.out⟩
            rw [str_self, HQl.out]
            rfl
          · have HA : Hid (Fr.first l = none) := by
              refine frame_of_not HQ.out hlQ fun h => hFE ?_
              rw [← str_self F, ← str_self E, HF.out, HE.out, h]
            have hne : (F.toList == E.toList) = false := text_ne hFE
            clear hlQ hFE
            go_region_held3 (fun w' => True) (trivial) ((go_at_call 54; refine (HFr.out _).mono ?_; rintro e w2 ⟨rfl, hb2⟩))
            have HB : Hid (Below wr.heap.size wr w2) := (Below.drew (Below.refl _ wr)).trans hb2
            clear hb2 HFr hsl hsl2
            go_wp2
            go_ret3
            exact ⟨.inl ⟨HA.out, rfl⟩, HB.out⟩

theorem refFirst_none (T : ByteArray) (k : Int) (w : World) (hT : T.size ≤ 140737488355328) (hk1 : -9223372036854775808 ≤ k) (hk2 : k ≤ 9223372036854775807) (h : 0 ≤ k → k ≤ T.size → Fr.first (T.data.toList.drop k.toNat) = none) :
    Calls Tryz.prog 59 #[.string T, .int .i64 k] w fun e w' => e = .returned (.tuple #[.string ⟨#[]⟩, .int .i64 0, .int .i64 1]) ∧ Below w.heap.size w w' := by
  by_cases hs : k < 0 ∨ (T.size : Int) < k + 8
  · exact refFirst_short T k w hT hk1 hk2 hs
  · obtain ⟨n, rfl⟩ := Int.eq_ofNat_of_zero_le (show 0 ≤ k by omega)
    refine (refFirst_long T n w hT (by omega)).mono ?_
    rintro e w' ⟨(⟨_, rfl⟩ | ⟨p, r, hp, hsm, rfl⟩), hB⟩
    · exact ⟨rfl, hB⟩
    · have h1 := h (by omega) (by omega)
      rw [Int.toNat_natCast, hp, first_frame p r hsm] at h1
      cases h1
theorem refFirst_at (T : ByteArray) (n : Nat) (w : World) (hT : T.size ≤ 140737488355328) (p r : List UInt8) (hp : p.length ≤ 65536) (h : T.data.toList.drop n = frame p ++ r) :
    Calls Tryz.prog 59 #[.string T, .int .i64 n] w fun e w' => e = .returned (.tuple #[.string (str p), .int .i64 ((n : Int) + 8 + (p.length : Int)), .int .i64 0]) ∧ Below w.heap.size w w' := by
  have hl := congrArg List.length h
  rw [List.length_drop, List.length_append, frame_len, ← Lib.size_eq] at hl
  refine (refFirst_long T n w hT (by omega)).mono ?_
  rintro e w' ⟨(⟨hf, rfl⟩ | ⟨q, s, hq, hsm, rfl⟩), hB⟩
  · rw [h, first_frame p r hp] at hf
    cases hf
  · obtain ⟨rfl, _⟩ := frame_first hp hsm (h.symm.trans hq)
    exact ⟨rfl, hB⟩

set_option maxRecDepth 100000 in
set_option maxHeartbeats 2000000 in
theorem refScan_any (T : ByteArray) (w : World) (hT : T.size ≤ 70368744177600) :
    Calls Tryz.prog 30 #[.string T] w fun e w' => ScanAns w.heap.size T.data.toList e w' ∧ Below w.heap.size w w' := by
  obtain ⟨i0, hi0, hz0, hz1, hz2⟩ := info_parts infoStr
  have HLen : Hid (T.data.toList.length = T.size) := by rw [← Lib.size_eq]; exact hid_rfl
  go_enter Tryz.func30, Tryz.ntmps30
  go_wp2
  go_loopw [4, 5] (fun v i wr => ∃ (n : Nat) (ps : List (List UInt8)), n ≤ T.size ∧ i = .int .i64 n ∧ Hid (Upto T.data.toList ps n) ∧ Hid (wr.ownsRow w.heap.size 9 1 v ps.length (strVals (strs ps))) ∧ Hid (Below w.heap.size w wr)) (fun _ i _ => T.size - (intOf i).toNat)
  case atStart => exact ⟨0, [], by omega, rfl, ⟨by simp [frames], by simp [frames], by simp⟩, World.ownsRow_nil _ _ _ _, Below.refl _ _⟩
  case round =>
    obtain ⟨n, ps, hn, rfl, HU, HO, HB⟩ := hrel
    have hsr := HB.out.size
    cases hf : Fr.first (T.data.toList.drop n) with
    | none =>
      have HF : Hid _ := hf
      clear hf
      go_wp2_with fail
      refine (refFirst_none T n _ (by omega) (by omega) (by omega) (fun _ _ => by rw [Int.toNat_natCast]; exact HF.out)).mono ?_
      rintro e w1 ⟨rfl, hb1⟩
      have hown1 := own_keep HO.out (fun k hk => hb1.block k (HO.out.lt k hk).2)
      have HO1 : Hid (w1.ownsRow w.heap.size 9 1 u4 ps.length (strVals (strs ps))) := hown1
      have HB1 : Hid (Below w.heap.size w w1) := HB.out.trans (hb1.mono hsr)
      clear hown1 hb1
      go_wp2
      go_ret2
      exact ⟨⟨_, n, ps, rfl, HU.out, HF.out, HO1.out⟩, HB1.out⟩
    | some m =>
      obtain ⟨p, r, rfl, hp, hr⟩ := first_some hf
      have hln : n + 8 + p.length ≤ T.size := by
        have h1 := congrArg List.length hr
        rw [List.length_drop, List.length_append, frame_len, HLen.out] at h1
        omega
      have HU1 : Hid (Upto T.data.toList (ps ++ [p]) (n + 8 + p.length)) := HU.out.step hp hr
      have hmany := HU.out.many
      have HR : Hid _ := hr
      clear hf hr
      go_wp2_with fail
      refine (refFirst_at T n _ (by omega) p r hp HR.out).mono ?_
      rintro e w1 ⟨rfl, hb1⟩
      have hown1 := own_keep HO.out (fun k hk => hb1.block k (HO.out.lt k hk).2)
      have HB1 : Hid (Below w.heap.size w w1) := HB.out.trans (hb1.mono hsr)
      have hs1 := HB1.out.size
      clear hb1
      obtain ⟨X, hX⟩ : ∃ X, X = str p := ⟨_, rfl⟩
      rw [← hX]
      have HX : Hid (X = str p) := hX
      clear hX
      go_wp2_with (at_builtin; refine wpList_append_any _ rfl _ _ 52 rfl w.heap.size 9 i0 (.string ⟨#[]⟩) 16 Tryz.underlying52 hi0 hz0 hz1 hz2 rfl u4 ps.length (strVals (strs ps)) rfl (hown1.alloc _) (some ⟨w1.heap.size, 0, none⟩) 1 1 (strVals [X]) rfl (by simp) rfl (cells1' X) ?c0 ?c1 ?c2 ?c3 ?_)
      case c0 => intro u hu; simp [strVals] at hu; subst hu; rfl
      case c1 => unfold maxLen; omega
      case c2 => omega
      case c3 => simp; omega
      intro v2 w2 hown2 hgrow2 hat2
      have HB2 : Hid (Below w.heap.size w w2) := by
        have h1 : Below w.heap.size w (w1.alloc (.cells #[.string X] 9)) := HB1.out.alloc hs1 _
        exact h1.grown hgrow2 (by simp; omega) (fun k hk => (hown1.lt k hk).1)
      have HO2 : Hid (w2.ownsRow w.heap.size 9 1 v2 (ps ++ [p]).length (strVals (strs (ps ++ [p])))) := by
        show World.ownsRow _ _ _ _ _ _ _
        rw [List.length_append, strs, List.map_append, strVals, List.map_append]
        rw [HX.out] at hown2
        exact hown2
      clear hown1 hown2 hgrow2 hat2
      go_wp2
      go_roundw
      case rel => exact ⟨n + 8 + p.length, ps ++ [p], by omega, by go_num, HU1, HO2, HB2⟩
      case measure => simp [intOf]; omega

end Go.Proofs.YtedjohkdfchocaaGreat.Fr
