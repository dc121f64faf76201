/-
  The walk of the statement BloomGrows.
-/
import Derived.Test.YtcnlipomealojaaBloomLives
import Derived.Test.YtcnlipomealojaaCmTexts
namespace Go.Proofs.Ytcnlipomealojaa.Bl
open Go.RowKit Cm
set_option linter.unusedVariables false

theorem join_or (a b : UInt8) : bits .or .u8 (a.toNat : Int) (b.toNat : Int) = ((UInt8.ofNat (a.toNat ||| b.toNat)).toNat : Int) := by
  have h1 : a.toNat < 2 ^ 8 := a.toNat_lt
  have h2 : b.toNat < 2 ^ 8 := b.toNat_lt
  rw [UInt8.toNat_ofNat_of_lt' (Nat.or_lt_two_pow h1 h2), u8_or_nat _ _ (by omega) (by omega)]
theorem getD_byte (F : ByteArray) (k : Nat) (h : k < F.size) : F.data.toList.getD k 0 = F[k] := by
  rw [getD_lt _ _ _ (by simpa using h)]
  rfl
theorem bytes_new (c : UInt8) (w : World) : CellsAt (w.alloc (.cells #[B8 c] 5)) (some ⟨w.heap.size, 0, none⟩) [B8 c] := by
  right
  refine ⟨w.heap.size, 0, rfl, by simp, fun j hj => ?_⟩
  rw [Joins.cell_of_block (heap_alloc_new w _)]
  simp
set_option maxRecDepth 100000 in
set_option maxHeartbeats 1000000 in
theorem grows_walk (F M : ByteArray) (ao : Option Addr) (cap : Nat) (xs : List ByteArray) (w : World) (hF : F.size ≤ 140737488351232) (hM : M.size ≤ 140737488351232) (hc : CellsAt w ao (strVals xs)) (hlen : xs.length ≤ 8796093021952) (hs : ∀ x ∈ xs, x.size ≤ 9223372036854775807) :
    Calls Try.prog 5 #[.string F, .string M, .slice ao xs.length cap] w fun e w' => e = .returned (.bool true) ∧ Below w.heap.size w w' := by
  obtain ⟨i0, hi0, hz0, hz1, hz2⟩ := info_parts info8
  have HS : Hid _ := hs
  clear hs
  go_enter Try.func5, Try.ntmps5
  go_wp2_with fail
  refine (lives_any _).mono ?_
  rintro e w1 ⟨rfl, hb1⟩
  have hs1 := hb1.size
  go_wp2
  go_loopw [7, 8] (fun v i wr => ∃ (k : Nat) (bs : List UInt8), k ≤ F.size ∧ i = .int .i64 k ∧ bs.length = k ∧ Hid (bs = joined F.data.toList M.data.toList k) ∧ Hid (wr.ownsRow w.heap.size 5 1 v bs.length (bs.map B8)) ∧ Hid (Below w.heap.size w wr)) (fun _ i _ => F.size - (intOf i).toNat)
  case atStart => exact ⟨0, [], by omega, rfl, rfl, hid_rfl, World.ownsRow_nil _ _ _ _, hb1⟩
  case round =>
    obtain ⟨k, bs, hk, rfl, hbl, HJ, HO, HB⟩ := hrel
    have hsr := HB.out.size
    by_cases hlt : k < F.size
    · have HN := joined_succ F.data.toList M.data.toList k
      rw [← HJ.out] at HN
      have HJ2 : Hid _ := HN.symm
      have HQ : Hid (joinAt F.data.toList M.data.toList k = if k < M.size then UInt8.ofNat (F[k].toNat ||| (M.data.toList.getD k 0).toNat) else F[k]) := by
        unfold joinAt
        rw [← Lib.size_eq, getD_byte F k hlt]
        exact hid_rfl
      have HBl : Hid _ := hbl
      have hbl2 : bs.length + 1 ≤ 140737488351232 := by omega
      clear HN hbl
      generalize joinAt F.data.toList M.data.toList k = c at *
      by_cases hm : k < M.size
      · have hq := HQ.out
        rw [if_pos hm, getD_byte M k hm] at hq
        have hor := join_or F[k] M[k]
        rw [← hq] at hor
        clear HQ hq
        go_wp2_with (at_builtin; refine wpList_append_any _ rfl _ _ 32 rfl w.heap.size 5 i0 (.int .u8 0) 1 Try.underlying32 hi0 hz0 hz1 hz2 rfl u7 bs.length (bs.map B8) rfl (HO.out.alloc _) (some ⟨wr.heap.size, 0, none⟩) 1 1 [B8 c] rfl (by simp) rfl ?c0 ?c1 ?c2 ?c3 ?c4 ?_)
        case c0 => exact bytes_new c wr
        case c1 => intro u hu; simp at hu; subst hu; rfl
        case c2 => unfold maxLen; omega
        case c3 => omega
        case c4 => simp; omega
        intro v' w4 hown4 hg4 hat4
        have HO4 : Hid (w4.ownsRow w.heap.size 5 1 v' (bs ++ [c]).length ((bs ++ [c]).map B8)) := by
          show World.ownsRow _ _ _ _ _ _ _
          rw [List.length_append, List.map_append]; exact hown4
        have HB4 : Hid (Below w.heap.size w w4) := (HB.out.alloc (by omega) _).grown hg4 (by simp; omega) (fun j hj => (HO.out.lt j hj).1)
        clear hown4 hg4 hat4 HO HB
        go_wp2
        go_roundw
        case rel => exact ⟨k + 1, bs ++ [c], by omega, by go_num, by have := HBl.out; simp; omega, HJ2, HO4, HB4⟩
        case measure => simp [intOf]; omega
      · have hq := HQ.out
        rw [if_neg hm] at hq
        clear HQ
        have hcc : (F[k].toNat : Int) = (c.toNat : Int) := by rw [hq]
        clear hq
        go_wp2_with (at_builtin; refine wpList_append_any _ rfl _ _ 32 rfl w.heap.size 5 i0 (.int .u8 0) 1 Try.underlying32 hi0 hz0 hz1 hz2 rfl u7 bs.length (bs.map B8) rfl (HO.out.alloc _) (some ⟨wr.heap.size, 0, none⟩) 1 1 [B8 c] rfl (by simp) rfl ?c0 ?c1 ?c2 ?c3 ?c4 ?_)
        case c0 => exact bytes_new c wr
        case c1 => intro u hu; simp at hu; subst hu; rfl
        case c2 => unfold maxLen; omega
        case c3 => omega
        case c4 => simp; omega
        intro v' w4 hown4 hg4 hat4
        have HO4 : Hid (w4.ownsRow w.heap.size 5 1 v' (bs ++ [c]).length ((bs ++ [c]).map B8)) := by
          show World.ownsRow _ _ _ _ _ _ _
          rw [List.length_append, List.map_append]; exact hown4
        have HB4 : Hid (Below w.heap.size w w4) := (HB.out.alloc (by omega) _).grown hg4 (by simp; omega) (fun j hj => (HO.out.lt j hj).1)
        clear hown4 hg4 hat4 HO HB
        go_wp2
        go_roundw
        case rel => exact ⟨k + 1, bs ++ [c], by omega, by go_num, by have := HBl.out; simp; omega, HJ2, HO4, HB4⟩
        case measure => simp [intOf]; omega
    · have hk' : k = F.size := by omega
      subst hk'
      have HX : Hid (bs = joined F.data.toList M.data.toList F.data.toList.length) := by rw [← Lib.size_eq]; exact HJ
      have HK : Hid (∀ x, may F.data.toList x = true → may bs x = true) := fun x hx => by rw [HX.out]; exact may_grows hx
      obtain ⟨X, hX⟩ : ∃ X : ByteArray, X = ⟨bs.toArray⟩ := ⟨_, rfl⟩
      have hXd : X.data.toList = bs := by rw [hX]
      have hXs : X.size ≤ 1152921504606846975 := by rw [Lib.size_eq, hXd]; omega
      rw [← hXd] at HK
      have HC : Hid (∀ w' : World, w'.ownsRow w.heap.size 5 1 u7 bs.length (bs.map B8) → (convert 32 9 u7).run Try.prog w' = .ok (.string X) w') := fun w' h => by rw [hX]; exact own_string h
      clear hX hXd HX HJ hi0 hz0 hz1 hz2 hbl
      have hFs : F.size ≤ 1152921504606846975 := by omega
      generalize wr = w2 at *
      go_wp2
      go_loopw [38] (fun i wr => ∃ k : Nat, k ≤ xs.length ∧ i = .int .i64 k ∧ Hid (wr.ownsRow w.heap.size 5 1 u7 bs.length (bs.map B8)) ∧ Hid (Below w.heap.size w wr)) (fun i _ => xs.length - (intOf i).toNat)
      case atStart => exact ⟨0, by omega, rfl, HO, HB⟩
      case round =>
        obtain ⟨k, hk4, rfl, HO4, HB4⟩ := hrel
        by_cases hlt2 : k < xs.length
        · rcases hc.below HB4.out with h0 | ⟨b, off, rfl, hbl, hcells⟩
          · have : xs.length = 0 := by have := congrArg List.length h0; simpa [strVals] using this
            omega
          have hck := hcells k (by simpa [strVals] using hlt2)
          have hx : (strVals xs)[k]? = some (.string (xs.getD k ByteArray.empty)) := by simp [strVals, hlt2]
          have hmem : xs.getD k ByteArray.empty ∈ xs := by rw [getD_lt _ _ _ hlt2]; exact List.getElem_mem hlt2
          have hsz := HS.out _ hmem
          rw [hx] at hck
          clear hmem hcells hx
          generalize xs.getD k ByteArray.empty = s at *
          go_wp2_with fail
          refine (may_any F s hsz hFs _).mono ?_
          rintro e w5 ⟨rfl, hb5⟩
          have HB5 : Hid (Below w.heap.size w w5) := HB4.out.trans (hb5.mono HB4.out.size)
          have HO5 : Hid _ := own_keep_below HO4.out hb5
          have hcv := HC.out w5 HO5.out
          clear hb5 HO4 HB4
          rcases Bool.eq_false_or_eq_true (may F.data.toList s) with hm | hm
          · rw [hm]
            have HM : Hid (may X.data.toList s = true) := HK.out s hm
            clear hm
            go_wp2_with fail
            refine (may_any X s hsz hXs _).mono ?_
            rintro e w6 ⟨rfl, hb6⟩
            have HB6 : Hid (Below w.heap.size w w6) := HB5.out.trans (hb6.mono HB5.out.size)
            have HO6 : Hid _ := own_keep_below HO5.out hb6
            rw [HM.out]
            clear hb6 HO5 HB5
            go_wp2
            go_roundw
            case rel => exact ⟨k + 1, by omega, by go_num, HO6, HB6⟩
            case measure => simp [intOf]; omega
          · rw [hm]
            clear hm
            go_wp2
            go_roundw
            case rel => exact ⟨k + 1, by omega, by go_num, HO5, HB5⟩
            case measure => simp [intOf]; omega
        · have hk' : k = xs.length := by omega
          subst hk'
          go_wp2
          go_ret
          exact ⟨rfl, HB4.out⟩

end Go.Proofs.Ytcnlipomealojaa.Bl
