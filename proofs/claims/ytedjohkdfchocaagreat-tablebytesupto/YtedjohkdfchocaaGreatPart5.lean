/-
  The texts FrameRef, FrameRefSeal.
-/
import Derived.Test.YtedjohkdfchocaaGreatPart3

/-
  The document's answers for layer 2: the sum, four bytes, a frame.
-/
namespace Go.Proofs.YtedjohkdfchocaaGreat.Fr
open Go.RowKit Cm
set_option linter.unusedVariables false

set_option maxHeartbeats 1000000 in
theorem refSum_any (s : ByteArray) (w : World) (hs : s.size ≤ 9223372036854775800) :
    Calls Tryz.prog 78 #[.string s] w fun e w' => e = .returned (.int .u32 (sum s.data.toList : Nat)) ∧ w' = w := by
  go_enter Tryz.func78, Tryz.ntmps78
  go_wp2
  go_loop [3, 4] (fun rv i => ∃ j m : Nat, j ≤ s.size ∧ i = .int .i64 j ∧ rv = .int .u32 m ∧ m < 4294967296 ∧ Hid (m = run 4294967295 (s.data.toList.take j))) (fun _ i => s.size - (intOf i).toNat)
  case atStart => exact ⟨0, 4294967295, by omega, rfl, rfl, by omega, hid_rfl⟩
  case round =>
    obtain ⟨j, m, hj, rfl, rfl, hm, HM⟩ := hrel
    by_cases hlt : j < s.size
    · have HF := run_bytes 4294967295 s j hlt
      have hxb := xor_byte m hm s[j]
      have hxl := xor_byte_lt hm s[j]
      rw [← HM.out] at HF
      have HF0 : Hid _ := HF
      clear HF HM
      generalize hcj : s[j] = c at *
      generalize m ^^^ c.toNat = y at *
      go_wp2
      go_loop [3, 5] (fun rv i => ∃ k z : Nat, k ≤ 8 ∧ i = .int .i64 k ∧ rv = .int .u32 z ∧ z < 4294967296 ∧ Hid (z = stepN k y)) (fun _ i => 8 - (intOf i).toNat)
      case atStart => exact ⟨0, y, by omega, rfl, rfl, hxl, hid_rfl⟩
      case round =>
        obtain ⟨k, z, hk, rfl, rfl, hz, HZ⟩ := hrel
        by_cases hlk : k < 8
        · have hx : bits .xor .u32 ((z : Int) / 2) 3988292384 = ((z / 2 ^^^ poly : Nat) : Int) := by rw [show (z : Int) / 2 = ((z / 2 : Nat) : Int) by omega]; exact xorPoly _ (by omega)
          have HN : Hid (step z = stepN (k + 1) y) := by rw [HZ.out]; exact hid_rfl
          rcases Nat.mod_two_eq_zero_or_one z with h2 | h2
          · have HS : Hid (z / 2 = step z) := by unfold step; rw [if_neg (by omega)]; exact hid_rfl
            have h2i : (z : Int) % 2 = 0 := by omega
            go_wp2
            go_round
            case rel => exact ⟨k + 1, z / 2, by omega, by go_num, by go_num, by omega, by rw [HS.out]; exact HN⟩
            case measure => simp [intOf]; omega
          · have HS : Hid (z / 2 ^^^ poly = step z) := by unfold step; rw [if_pos h2]; exact hid_rfl
            have h2i : (z : Int) % 2 = 1 := by omega
            have hl : z / 2 ^^^ poly < 4294967296 := xor_lt32 (by omega) (by decide)
            go_wp2
            go_round
            case rel => exact ⟨k + 1, z / 2 ^^^ poly, by omega, by go_num, by go_num, hl, by rw [HS.out]; exact HN⟩
            case measure => simp [intOf]; omega
        · have hk' : k = 8 := by omega
          subst hk'
          have hz' : z = shift y := HZ.out
          subst hz'
          clear HZ
          go_wp2
          go_round
          case rel => exact ⟨j + 1, shift y, by omega, by go_num, rfl, hz, HF0⟩
          case measure => simp [intOf]; omega
    · have hj' : j = s.size := by omega
      subst hj'
      have HQ : Hid (4294967295 - m = sum s.data.toList) := by rw [HM.out, List.take_of_length_le (by simp)]; exact hid_rfl
      have hw : IntKind.u32.wrap (4294967295 - (m : Int)) = ((4294967295 - m : Nat) : Int) := by rw [IntKind.wrap_u32']; omega
      go_wp2
      go_ret
      rw [← HQ.out]
      exact ⟨ret_int (by omega), rfl⟩

set_option maxHeartbeats 500000 in
theorem refFour_any (n : Nat) (h : n < 4294967296) (w : World) :
    Calls Tryz.prog 77 #[.int .u32 n] w fun e w' => e = .returned (.string (str (four n))) ∧ Below w.heap.size w w' := by
  have hcv := conv4 n h w
  go_enter Tryz.func77, Tryz.ntmps77
  go_wp2
  go_ret
  exact ⟨rfl, (Below.refl _ _).alloc (Nat.le_refl _) _⟩

theorem str_append (a b : List UInt8) : str a ++ str b = str (a ++ b) := ByteArray.ext (by simp [str])
theorem str_self (s : ByteArray) : str s.data.toList = s := str_back s

set_option maxHeartbeats 500000 in
theorem refFrame_any (s : ByteArray) (hs : s.size ≤ 65536) (w : World) :
    Calls Tryz.prog 54 #[.string s] w fun e w' => e = .returned (.string (str (frame s.data.toList))) ∧ Below w.heap.size w w' := by
  go_enter Tryz.func54, Tryz.ntmps54
  go_wp2_with fail
  refine (refFour_any s.size (by omega) _).mono ?_
  rintro e w1 ⟨rfl, hb1⟩
  obtain ⟨F, hF⟩ : ∃ F, F = str (four s.size) := ⟨_, rfl⟩
  rw [← hF]
  have hFs : F.size = 4 := by rw [hF, str_size]; rfl
  have HF : Hid (F = str (four s.data.toList.length)) := by rw [hF, ← Lib.size_eq]; exact hid_rfl
  clear hF
  go_wp2_with fail
  refine (refSum_any (F ++ s) _ (by rw [ByteArray.size_append]; omega)).mono ?_
  rintro e w2 ⟨rfl, rfl⟩
  have hq := sum_lt (F ++ s).data.toList
  have HQ : Hid (sum (F ++ s).data.toList = sum (four s.data.toList.length ++ s.data.toList)) := by
    rw [HF.out, ByteArray.data_append, Array.toList_append]; exact hid_rfl
  generalize sum (F ++ s).data.toList = q at *
  have hs1 := hb1.size
  go_wp2_with fail
  refine (refFour_any q hq _).mono ?_
  rintro e w3 ⟨rfl, hb3⟩
  obtain ⟨G, hG⟩ : ∃ G, G = str (four q) := ⟨_, rfl⟩
  rw [← hG]
  have hGs : G.size = 4 := by rw [hG, str_size]; rfl
  have HG : Hid (G = str (four q)) := hG
  clear hG
  have hFG : (F ++ G).size = 8 := by rw [ByteArray.size_append]; omega
  go_wp2
  go_ret
  have hfin : F ++ G ++ s = str (frame s.data.toList) := by
    rw [HF.out, HG.out, HQ.out, ← str_self s, str_append, str_append, str_self, frame, List.append_assoc]
  rw [← hfin]
  exact ⟨rfl, hb1.trans (hb3.mono hs1)⟩

end Go.Proofs.YtedjohkdfchocaaGreat.Fr

/-
  The document's Seal.
-/
namespace Go.Proofs.YtedjohkdfchocaaGreat.Fr
open Go.RowKit Cm
set_option linter.unusedVariables false

set_option maxRecDepth 100000 in
set_option maxHeartbeats 2000000 in
theorem refSeal_any (ao : Option Addr) (cap : Nat) (xs : List ByteArray) (w : World) (hc : CellsAt w ao (strVals xs)) (hb : 8 * xs.length + total xs ≤ 70368744177600) :
    Calls Tryz.prog 27 #[.slice ao xs.length cap] w fun e w' => e = .returned (sealed xs) ∧ Below w.heap.size w w' := by
  obtain ⟨i0, hi0, hz0, hz1, hz2⟩ := info_parts info8
  have hlen : xs.length ≤ 70368744177600 := by omega
  go_enter Tryz.func27, Tryz.ntmps27
  go_wp2
  go_loopw [4, 9] (fun v i wr => ∃ k : Nat, k ≤ xs.length ∧ i = .int .i64 k ∧ Hid (∀ x ∈ xs.take k, x.size ≤ 65536) ∧ Hid (wr.ownsRow w.heap.size 5 1 v (framesB (xs.take k)).length ((framesB (xs.take k)).map B8)) ∧ Hid (Below w.heap.size w wr)) (fun _ i _ => xs.length - (intOf i).toNat)
  case atStart => exact ⟨0, by omega, rfl, fun x hx => by simp at hx, World.ownsRow_nil _ _ _ _, Below.refl _ _⟩
  case round =>
    obtain ⟨k, hk, rfl, HS, HO, HB⟩ := hrel
    have hsr := HB.out.size
    by_cases hlt : k < xs.length
    · rcases hc.below HB.out with h0 | ⟨b, off, rfl, hbl, hcells⟩
      · have : xs.length = 0 := by have := congrArg List.length h0; simpa [strVals] using this
        omega
      have hck := hcells k (by simpa [strVals] using hlt)
      have hx : (strVals xs)[k]? = some (.string (xs.getD k ByteArray.empty)) := by simp [strVals, hlt]
      have hmem : xs.getD k ByteArray.empty ∈ xs := by rw [getD_lt _ _ _ hlt]; exact List.getElem_mem hlt
      have hsz := size_total hmem
      have HN : Hid _ := framesB_snoc xs k hlt
      have HT : Hid (xs.take (k + 1) = xs.take k ++ [xs.getD k ByteArray.empty]) := by rw [getD_lt _ _ _ hlt]; exact List.take_succ_eq_append_getElem hlt
      have HL1 : Hid ((framesB (xs.take (k + 1))).length ≤ 70368744177600) := by have := framesB_take xs (k + 1); show _ ≤ _; omega
      rw [hx] at hck
      rw [HN.out, List.length_append, frame_len, ← Lib.size_eq] at HL1
      generalize xs.getD k ByteArray.empty = s at *
      have hsz : s.size ≤ 70368744177600 := by omega
      by_cases hbig : 65536 < s.size
      · have HA : Hid (sealed xs = .tuple #[.string ⟨#[]⟩, .int .i64 2]) := sealed_long (fun h => by have := h s hmem; omega)
        clear hcells hx HN HL1 hmem HT hb
        go_wp2
        go_ret2
        rw [HA.out]
        exact ⟨rfl, HB.out⟩
      · have HS1 : Hid (∀ x ∈ xs.take (k + 1), x.size ≤ 65536) := by
          intro x hx
          rw [HT.out] at hx
          rcases List.mem_append.1 hx with h | h
          · exact HS.out x h
          · simp at h; rw [h]; omega
        generalize framesB (xs.take k) = bs at *
        clear hcells hx hmem HT hb
        go_wp2_with fail
        refine (refFrame_any s (by omega) _).mono ?_
        rintro e w1 ⟨rfl, hb1⟩
        have hown1 := own_keep_below HO.out hb1
        have hs1 := hb1.size
        obtain ⟨F, hF⟩ : ∃ F, F = str (frame s.data.toList) := ⟨_, rfl⟩
        rw [← hF]
        have HFs : Hid (F.size = 8 + s.size) := by rw [hF, str_size, frame_len, ← Lib.size_eq]; exact hid_rfl
        have HFd : Hid (F.data.toList = frame s.data.toList) := by rw [hF]; exact hid_rfl
        clear hF
        go_wp2_with (at_builtin; refine wpList_append_str_at _ rfl _ _ 76 9 rfl w.heap.size 5 i0 Tryz.underlying76 Tryz.underlying9 hi0 hz0 hz1 hz2 u4 bs.length (bs.map B8) rfl hown1 F rfl ?c1 ?c3 ?c2 ?_)
        case c1 => have := HL1.out; have := HFs.out; unfold maxLen; omega
        case c2 => omega
        case c3 => have := HL1.out; have := HFs.out; omega
        intro v2 w2 hown2 hgrow2 hat2
        have HB2 : Hid (Below w.heap.size w w2) := own_text_below HB.out (Nat.le_refl _) hb1 HO.out hgrow2
        have HO2 : Hid (w2.ownsRow w.heap.size 5 1 v2 (framesB (xs.take (k + 1))).length ((framesB (xs.take (k + 1))).map B8)) := by rw [HN.out]; exact own_bytes HFd.out hown2
        clear hown1 hown2 hgrow2 hat2 hb1
        go_wp2
        go_roundw
        case rel => exact ⟨k + 1, by omega, by go_num, HS1, HO2, HB2⟩
        case measure => simp [intOf]; omega
    · have hk' : k = xs.length := by omega
      subst hk'
      rw [List.take_length] at HO HS
      have hstr := own_string HO.out
      have HA : Hid (sealed xs = .tuple #[.string (str (framesB xs)), .int .i64 0]) := by show _ = _; unfold sealed; rw [if_pos HS.out]
      go_wp2
      go_ret2
      rw [HA.out]
      exact ⟨rfl, HB.out⟩
end Go.Proofs.YtedjohkdfchocaaGreat.Fr
