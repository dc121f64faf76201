/-
  The walk of the statement BloomKeeps.
-/
import Derived.Test.YtcnlipomealojaaBloomLives
import Derived.Test.YtcnlipomealojaaCmTexts
namespace Go.Proofs.Ytcnlipomealojaa.Bl
open Go.RowKit Cm
set_option linter.unusedVariables false

theorem IsFilter.empty {xs : List ByteArray} {f : ByteArray} (h : IsFilter xs f.data.toList) : f.toList.isEmpty = decide (xs.length = 0) := by
  rw [ByteArray.toList_eq, Bool.eq_iff_iff, List.isEmpty_iff, decide_eq_true_eq]
  exact h.nil_iff
theorem rev_snoc (xs : List ByteArray) (m : Nat) (h : m < xs.length) : (xs.drop m).reverse = (xs.drop (m + 1)).reverse ++ [xs.getD m ByteArray.empty] := by
  rw [getD_lt _ _ _ h, ← List.reverse_cons, ← List.drop_eq_getElem_cons h]
set_option maxRecDepth 100000 in
set_option maxHeartbeats 1000000 in
theorem keeps_walk (ao : Option Addr) (cap : Nat) (xs : List ByteArray) (w : World) (hc : CellsAt w ao (strVals xs)) (hlen : xs.length ≤ 8796093021952) (hs : ∀ x ∈ xs, x.size ≤ 9223372036854775807) :
    Calls Try.prog 4 #[.slice ao xs.length cap] w fun e w' => e = .returned (.bool true) ∧ Below w.heap.size w w' := by
  obtain ⟨i0, hi0, hz0, hz1, hz2⟩ := info_parts infoStr
  have HS : Hid _ := hs
  clear hs
  go_enter Try.func4, Try.ntmps4
  go_wp2_with fail
  refine (lives_any _).mono ?_
  rintro e w1 ⟨rfl, hb1⟩
  have hs1 := hb1.size
  go_wp2
  go_loopw [3, 4] (fun v i wr => ∃ (k : Nat) (ys : List ByteArray), k ≤ xs.length ∧ i = .int .i64 ((k : Int) - 1) ∧ ys.length + k = xs.length ∧ Hid (ys = (xs.drop k).reverse) ∧ Hid (wr.ownsRow w.heap.size 9 1 v ys.length (strVals ys)) ∧ Hid (Below w.heap.size w wr)) (fun _ i _ => (intOf i + 1).toNat)
  case atStart => exact ⟨xs.length, [], by omega, rfl, by simp, by simp [Hid], World.ownsRow_nil _ _ _ _, hb1⟩
  case round =>
    obtain ⟨k, ys, hk, rfl, hyl, HY, HO, HB⟩ := hrel
    have hsr := HB.out.size
    rcases k with _ | m
    · clear hi0 hz0 hz1 hz2
      have hys : ys = xs.reverse := by rw [HY.out]; simp
      subst hys
      obtain ⟨ao2, c2, rfl⟩ := own_any HO.out
      have hcb := (own_slice HO.out).1
      have HL : Hid (xs.reverse.length = xs.length) := List.length_reverse
      rw [HL.out]
      have hcr := hc.below HB.out
      go_wp2_with fail
      refine (build_any ao cap xs _ hcr (by omega) HS.out).mono ?_
      rintro e w2 ⟨⟨f, rfl, hf⟩, hb2⟩
      have hB2 : Below w.heap.size w w2 := HB.out.trans (hb2.mono hsr)
      have hs2 := hB2.size
      have hcb2 := hcb.below hb2
      clear hb2 hcb hcr
      go_wp2_with fail
      have hq := build_any ao2 c2 xs.reverse w2 hcb2 (by rw [HL.out]; omega) (fun x hx => HS.out x (by simpa using hx))
      rw [HL.out] at hq
      refine hq.mono ?_
      rintro e w3 ⟨⟨g, rfl, hg⟩, hb3⟩
      have hB3 : Below w.heap.size w w3 := hB2.trans (hb3.mono hs2)
      have hs3 := hB3.size
      obtain rfl : g = f := ByteArray.ext (Array.ext' (hg.unique hf HL.out (by simp)))
      clear hb3 hB2 hs2 hg hq hcb2 HO hsr HB HY hyl
      have HF : Hid _ := hf
      have HK : Hid (∀ x ∈ xs, may g.data.toList x = true) := fun x hx => hf.keeps hx
      have hgs : g.size ≤ 1152921504606846975 := by have := hf.size; unfold len at this; omega
      have he := hf.empty
      clear hf
      have hc3 := hc.below hB3
      by_cases h0 : xs.length = 0
      · rw [decide_eq_true h0] at he
        obtain rfl : xs = [] := List.eq_nil_of_length_eq_zero h0
        go_wp2
        go_loopw [40] (fun i wr => i = .int .i64 0 ∧ Hid (Below w.heap.size w wr)) (fun i _ => 0)
        case atStart => exact ⟨rfl, hB3⟩
        case round =>
          obtain ⟨rfl, HB4⟩ := hrel
          go_wp2
          go_ret
          exact ⟨rfl, HB4.out⟩
      · rw [decide_eq_false h0] at he
        have hbe : ((xs.length : Int) == 0) = false := beq_eq_false_iff_ne.2 (by omega)
        go_wp2
        clear he hbe
        go_loopw [40] (fun i wr => ∃ k : Nat, k ≤ xs.length ∧ i = .int .i64 k ∧ Hid (Below w.heap.size w wr)) (fun i _ => xs.length - (intOf i).toNat)
        case atStart => exact ⟨0, by omega, rfl, hB3⟩
        case round =>
          obtain ⟨k, hk4, rfl, HB4⟩ := hrel
          by_cases hlt : k < xs.length
          · rcases hc.below HB4.out with h0 | ⟨b, off, rfl, hbl, hcells⟩
            · have : xs.length = 0 := by have := congrArg List.length h0; simpa [strVals] using this
              omega
            have hck := hcells k (by simpa [strVals] using hlt)
            have hx : (strVals xs)[k]? = some (.string (xs.getD k ByteArray.empty)) := by simp [strVals, hlt]
            have hmem : xs.getD k ByteArray.empty ∈ xs := by rw [getD_lt _ _ _ hlt]; exact List.getElem_mem hlt
            have hsz := HS.out _ hmem
            have hmay := HK.out _ hmem
            rw [hx] at hck
            clear hmem hcells hx
            generalize xs.getD k ByteArray.empty = s at *
            have HM : Hid _ := hmay
            clear hmay
            go_wp2_with fail
            refine (may_any g s hsz hgs _).mono ?_
            rintro e w5 ⟨rfl, hb5⟩
            have HB5 : Hid (Below w.heap.size w w5) := HB4.out.trans (hb5.mono HB4.out.size)
            rw [HM.out]
            clear hb5
            go_wp2
            go_roundw
            case rel => exact ⟨k + 1, by omega, by go_num, HB5⟩
            case measure => simp [intOf]; omega
          · have hk' : k = xs.length := by omega
            subst hk'
            go_wp2
            go_ret
            exact ⟨rfl, HB4.out⟩
    · rw [show (((m + 1 : Nat) : Int) - 1) = (m : Int) by omega]
      rcases hc.below HB.out with h0 | ⟨b, off, rfl, hbl, hcells⟩
      · have : xs.length = 0 := by have := congrArg List.length h0; simpa [strVals] using this
        omega
      have hlt : m < xs.length := by omega
      have hck := hcells m (by simpa [strVals] using hlt)
      have hx : (strVals xs)[m]? = some (.string (xs.getD m ByteArray.empty)) := by simp [strVals, hlt]
      have HX : Hid (ys ++ [xs.getD m ByteArray.empty] = (xs.drop m).reverse) := by rw [HY.out, ← rev_snoc xs m hlt]; exact hid_rfl
      rw [hx] at hck
      generalize xs.getD m ByteArray.empty = s at *
      have hyl2 : ys.length + 1 ≤ 8796093021952 := by omega
      have HYl : Hid _ := hyl
      clear hcells hx HY hyl hk
      go_wp2_with (at_builtin; refine wpList_append_any _ rfl _ _ 22 rfl w.heap.size 9 i0 (.string ⟨#[]⟩) 16 Try.underlying22 hi0 hz0 hz1 hz2 rfl u3 ys.length (strVals ys) rfl (HO.out.alloc _) (some ⟨wr.heap.size, 0, none⟩) 1 1 (strVals [s]) rfl (by simp) rfl ?c0 ?c1 ?c2 ?c3 ?c4 ?_)
      case c0 => exact cells_new [s] wr
      case c1 => intro u hu; simp [strVals] at hu; subst hu; rfl
      case c2 => unfold maxLen; omega
      case c3 => omega
      case c4 => simp; omega
      intro v' w4 hown4 hg4 hat4
      have HO4 : Hid (w4.ownsRow w.heap.size 9 1 v' (ys ++ [s]).length (strVals (ys ++ [s]))) := by
        show World.ownsRow _ _ _ _ _ _ _
        rw [List.length_append, strVals, List.map_append]; exact hown4
      have HB4 : Hid (Below w.heap.size w w4) := (HB.out.alloc (by omega) _).grown hg4 (by simp; omega) (fun j hj => (HO.out.lt j hj).1)
      clear hown4 hg4 hat4 HO HB
      go_wp2
      go_roundw
      case rel => exact ⟨m, ys ++ [s], by omega, rfl, by have := HYl.out; simp; omega, HX, HO4, HB4⟩
      case measure => simp [intOf]

end Go.Proofs.Ytcnlipomealojaa.Bl
