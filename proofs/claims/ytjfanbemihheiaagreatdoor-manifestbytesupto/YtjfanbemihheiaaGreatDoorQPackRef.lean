/-
  The document's answer for layer 1 (package tarmacref01): what Num, Fold, Int and Text answer.
-/
import Derived.Test.YtjfanbemihheiaaGreatDoorPart1
import Derived.Lib.SmallJoins
namespace Go.Proofs.YtjfanbemihheiaaGreatDoor.Pk
open Go.RowKit
set_option linter.unusedVariables false

/-- What one append to an owned row comes to, below. -/
theorem own_below {w wr w1 : World} {o : Obj} {v : Value} {n : Nat} {xs : List Value} (hB : Below w.heap.size w wr) (hown : wr.ownsRow w.heap.size 5 1 v n xs) (hgrow : (wr.alloc o).grownBy w1 v.ownBlock) : Below w.heap.size w w1 :=
  (hB.alloc hB.size o).grown hgrow (by have := hB.size; simp; omega) (fun k hk => (hown.lt k hk).1)

set_option maxRecDepth 100000 in
set_option maxHeartbeats 1000000 in
theorem refNum_any (n : Nat) (w : World) (hn : n < 18446744073709551616) :
    Calls Tryz.prog 37 #[.int .u64 n] w fun e w' => e = .returned (.string ⟨(enc n).toArray⟩) ∧ Below w.heap.size w w' := by
  obtain ⟨i0, hi, hz0, hz1, hz2⟩ := info_parts info8
  go_enter Tryz.func37, Tryz.ntmps37
  go_wp2
  go_loopw [0, 3] (fun nv v wr => ∃ (m f : Nat) (bs1 : List UInt8), nv = .int .u64 m ∧ m < 18446744073709551616 ∧ Hid (m < 128 ^ (f + 1)) ∧ Hid (bs1 ++ encF f m = enc n) ∧ Hid (wr.ownsRow w.heap.size 5 1 v bs1.length (bs1.map B8)) ∧ Hid (Below w.heap.size w wr)) (fun nv _ _ => (intOf nv).toNat)
  case atStart => exact ⟨n, 9, [], rfl, hn, by show n < 128 ^ 10; omega, rfl, World.ownsRow_nil _ _ _ _, Below.refl _ _⟩
  case round =>
    obtain ⟨m, f, bs1, rfl, hm, HF, HE, HO, HB⟩ := hrel
    have hl1 : bs1.length + 1 ≤ 10 := by
      have h1 := congrArg List.length HE.out
      have h2 := (encF_len f m).1
      have h3 := (enc_len n).2
      simp at h1; omega
    have hsr := HB.out.size
    have hown := HO.out
    by_cases hge : 128 ≤ m
    · obtain ⟨f, rfl⟩ : ∃ f', f = f' + 1 := by
        cases f with
        | zero => have := HF.out; simp at this; omega
        | succ f => exact ⟨f, rfl⟩
      obtain ⟨c, HC⟩ : ∃ c, Hid (c = UInt8.ofNat (m % 128 + 128)) := ⟨_, rfl⟩
      have HF1 : Hid (m / 128 < 128 ^ (f + 1)) := by have := HF.out; rw [Nat.pow_succ] at this; show m / 128 < 128 ^ (f + 1); omega
      have HE1 : Hid ((bs1 ++ [c]) ++ encF f (m / 128) = enc n) := by
        show (bs1 ++ [c]) ++ encF f (m / 128) = enc n
        rw [← HE.out, encF_big _ _ hge, HC.out]; simp
      have hcv : (m : Int) % 128 + 128 = (c.toNat : Int) := by rw [HC.out, u8_toNat_ofNat (by omega)]; omega
      go_wp2_with (at_builtin; refine wpList_append_lies _ rfl _ _ 65 rfl w.heap.size 5 i0 (.int .u8 0) 1 1 Tryz.underlying65 hi hz0 hz1 hz2 rfl (by decide) u3 bs1.length (bs1.map B8) rfl (hown.alloc _) ⟨wr.heap.size, 0, none⟩ 1 1 [B8 c] rfl rfl ?c1 ?c2 (by decide) ?c3 ?c4 ?c5 (wr.heap.size + 1) (by simp) ?_)
      case c1 => exact World.news_of_block (heap_alloc_new wr _)
      case c2 => intro u hu; simp at hu; subst hu; rfl
      case c3 => unfold maxLen; omega
      case c4 => omega
      case c5 => simp; omega
      intro g cap w1 hown1 hgrow hat hgl
      have HB1 : Hid _ := own_below HB.out hown hgrow
      have HO1 : Hid (w1.ownsRow w.heap.size 5 1 (.slice (some ⟨g, 0, none⟩) (bs1.length + 1) cap) (bs1 ++ [c]).length ((bs1 ++ [c]).map B8)) := by
        show World.ownsRow _ _ _ _ _ _ _
        rw [List.length_append, List.map_append]; exact hown1
      clear hown1 hgrow hat hgl hown
      go_wp2
      go_roundw
      case rel => exact ⟨m / 128, f, bs1 ++ [c], by go_num, by omega, HF1, HE1, HO1, HB1⟩
      case measure => simp [intOf]; omega
    · obtain ⟨c, HC⟩ : ∃ c, Hid (c = UInt8.ofNat m) := ⟨_, rfl⟩
      have hlow : (m : Int) = (c.toNat : Int) := by rw [HC.out]; exact low8 (by omega)
      have HE1 : Hid (bs1 ++ [c] = enc n) := by
        show bs1 ++ [c] = enc n
        rw [← HE.out, encF_small _ _ (by omega), HC.out]
      have hm' : m = c.toNat := by omega
      subst hm'
      clear hlow HC
      go_wp2_with (at_builtin; refine wpList_append_lies _ rfl _ _ 65 rfl w.heap.size 5 i0 (.int .u8 0) 1 1 Tryz.underlying65 hi hz0 hz1 hz2 rfl (by decide) u3 bs1.length (bs1.map B8) rfl (hown.alloc _) ⟨wr.heap.size, 0, none⟩ 1 1 [B8 c] rfl rfl ?d1 ?d2 (by decide) ?d3 ?d4 ?d5 (wr.heap.size + 1) (by simp) ?_)
      case d1 => exact World.news_of_block (heap_alloc_new wr _)
      case d2 => intro u hu; simp at hu; subst hu; rfl
      case d3 => unfold maxLen; omega
      case d4 => omega
      case d5 => simp; omega
      intro g cap w1 hown1 hgrow hat hgl
      have HB1 : Hid _ := own_below HB.out hown hgrow
      have hown2 : w1.ownsRow w.heap.size 5 1 (.slice (some ⟨g, 0, none⟩) (bs1.length + 1) cap) (bs1 ++ [c]).length ((bs1 ++ [c]).map B8) := by
        rw [List.length_append, List.map_append]; exact hown1
      have hstr := own_string hown2
      rw [HE1.out] at hstr
      clear hown1 hgrow hat hgl hown hown2
      go_wp2
      go_ret
      exact ⟨rfl, HB1.out⟩

theorem refFold_any (n : Int) (w : World) (h1 : -9223372036854775808 ≤ n) (h2 : n ≤ 9223372036854775807) :
    Calls Tryz.prog 67 #[.int .i64 n] w fun e w' => e = .returned (.int .u64 (fold n)) ∧ w' = w := by
  by_cases h : n < 0
  · go_enter Tryz.func67, Tryz.ntmps67
    go_wp2
    go_ret
    exact ⟨ret_int (by unfold fold; rw [if_pos (by assumption)]; omega), rfl⟩
  · go_enter Tryz.func67, Tryz.ntmps67
    go_wp2
    go_ret
    exact ⟨ret_int (fold_pos (by omega)), rfl⟩

theorem refInt_any (n : Int) (w : World) (h1 : -9223372036854775808 ≤ n) (h2 : n ≤ 9223372036854775807) :
    Calls Tryz.prog 38 #[.int .i64 n] w fun e w' => e = .returned (.string ⟨(enc (fold n)).toArray⟩) ∧ Below w.heap.size w w' := by
  have h3 := fold_lt h1 h2
  go_enter Tryz.func38, Tryz.ntmps38
  go_wp2_with fail
  refine (refFold_any n _ h1 h2).mono ?_
  rintro e w1 ⟨rfl, rfl⟩
  go_wp2_with fail
  refine (refNum_any (fold n) _ h3).mono ?_
  rintro e w2 ⟨rfl, hb⟩
  go_wp2
  go_ret
  exact ⟨rfl, hb⟩
end Go.Proofs.YtjfanbemihheiaaGreatDoor.Pk
