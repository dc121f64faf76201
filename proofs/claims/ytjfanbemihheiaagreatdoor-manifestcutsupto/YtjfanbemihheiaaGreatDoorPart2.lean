/-
  The texts PackRef, PackRefRead, PackRefRest.
-/
import Derived.Test.YtjfanbemihheiaaGreatDoorPart1
import Derived.Lib.SmallJoins
import Derived.Deep.RegionWith

/-
  The document's answer for layer 1 (package tarmacref01): what Num, Fold, Int and Text answer.
-/
namespace Go.Proofs.YtjfanbemihheiaaGreatDoor.Pk
open Go.RowKit
set_option linter.unusedVariables false

/-- What one append to an owned row comes to, below. -/
theorem own_below {w wr w1 : World} {o : Obj} {v : Value} {n : Nat} {xs : List Value} (hB : Below w.heap.size w wr) (hown : wr.ownsRow w.heap.size 5 1 v n xs) (hgrow : (wr.alloc o).grownBy w1 v.ownBlock) : Below w.heap.size w w1 :=
  (hB.alloc hB.size o).grown hgrow (by have := hB.size; simp; omega) (fun k hk => (hown.lt k hk).1)

set_option maxRecDepth 100000 in
set_option maxHeartbeats 1000000 in
theorem refNum_any (n : Nat) (w : World) (hn : n < 18446744073709551616) :
    Calls Tryz.prog 37 #[.int .u64 n] w fun e w' => e = .returned (.string ⟨(enc n).toArray⟩) ∧ Below w.heap.size w w' := by
  obtain ⟨i0, hi, hz0, hz1, hz2⟩ := info_parts info8
  go_enter Tryz.func37, Tryz.ntmps37
  go_wp2
  go_loopw [0, 3] (fun nv v wr => ∃ (m f : Nat) (bs1 : List UInt8), nv = .int .u64 m ∧ m < 18446744073709551616 ∧ Hid (m < 128 ^ (f + 1)) ∧ Hid (bs1 ++ encF f m = enc n) ∧ Hid (wr.ownsRow w.heap.size 5 1 v bs1.length (bs1.map B8)) ∧ Hid (Below w.heap.size w wr)) (fun nv _ _ => (intOf nv).toNat)
  case atStart => exact ⟨n, 9, [], rfl, hn, by show n < 128 ^ 10; omega, rfl, World.ownsRow_nil _ _ _ _, Below.refl _ _⟩
  case round =>
    obtain ⟨m, f, bs1, rfl, hm, HF, HE, HO, HB⟩ := hrel
    have hl1 : bs1.length + 1 ≤ 10 := by
      have h1 := congrArg List.length HE.out
      have h2 := (encF_len f m).1
      have h3 := (enc_len n).2
      simp at h1; omega
    have hsr := HB.out.size
    have hown := HO.out
    by_cases hge : 128 ≤ m
    · obtain ⟨f, rfl⟩ : ∃ f', f = f' + 1 := by
        cases f with
        | zero => have := HF.out; simp at this; omega
        | succ f => exact ⟨f, rfl⟩
      obtain ⟨c, HC⟩ : ∃ c, Hid (c = UInt8.ofNat (m % 128 + 128)) := ⟨_, rfl⟩
      have HF1 : Hid (m / 128 < 128 ^ (f + 1)) := by have := HF.out; rw [Nat.pow_succ] at this; show m / 128 < 128 ^ (f + 1); omega
      have HE1 : Hid ((bs1 ++ [c]) ++ encF f (m / 128) = enc n) := by
        show (bs1 ++ [c]) ++ encF f (m / 128) = enc n
        rw [← HE.out, encF_big _ _ hge, HC.out]; simp
      have hcv : (m : Int) % 128 + 128 = (c.toNat : Int) := by rw [HC.out, u8_toNat_ofNat (by omega)]; omega
      go_wp2_with (at_builtin; refine wpList_append_lies _ rfl _ _ 65 rfl w.heap.size 5 i0 (.int .u8 0) 1 1 Tryz.underlying65 hi hz0 hz1 hz2 rfl (by decide) u3 bs1.length (bs1.map B8) rfl (hown.alloc _) ⟨wr.heap.size, 0, none⟩ 1 1 [B8 c] rfl rfl ?c1 ?c2 (by decide) ?c3 ?c4 ?c5 (wr.heap.size + 1) (by simp) ?_)
      case c1 => exact World.news_of_block (heap_alloc_new wr _)
      case c2 => intro u hu; simp at hu; subst hu; rfl
      case c3 => unfold maxLen; omega
      case c4 => omega
      case c5 => simp; omega
      intro g cap w1 hown1 hgrow hat hgl
      have HB1 : Hid _ := own_below HB.out hown hgrow
      have HO1 : Hid (w1.ownsRow w.heap.size 5 1 (.slice (some ⟨g, 0, none⟩) (bs1.length + 1) cap) (bs1 ++ [c]).length ((bs1 ++ [c]).map B8)) := by
        show World.ownsRow _ _ _ _ _ _ _
        rw [List.length_append, List.map_append]; exact hown1
      clear hown1 hgrow hat hgl hown
      go_wp2
      go_roundw
      case rel => exact ⟨m / 128, f, bs1 ++ [c], by go_num, by omega, HF1, HE1, HO1, HB1⟩
      case measure => simp [intOf]; omega
    · obtain ⟨c, HC⟩ : ∃ c, Hid (c = UInt8.ofNat m) := ⟨_, rfl⟩
      have hlow : (m : Int) = (c.toNat : Int) := by rw [HC.out]; exact low8 (by omega)
      have HE1 : Hid (bs1 ++ [c] = enc n) := by
        show bs1 ++ [c] = enc n
        rw [← HE.out, encF_small _ _ (by omega), HC.out]
      have hm' : m = c.toNat := by omega
      subst hm'
      clear hlow HC
      go_wp2_with (at_builtin; refine wpList_append_lies _ rfl _ _ 65 rfl w.heap.size 5 i0 (.int .u8 0) 1 1 Tryz.underlying65 hi hz0 hz1 hz2 rfl (by decide) u3 bs1.length (bs1.map B8) rfl (hown.alloc _) ⟨wr.heap.size, 0, none⟩ 1 1 [B8 c] rfl rfl ?d1 ?d2 (by decide) ?d3 ?d4 ?d5 (wr.heap.size + 1) (by simp) ?_)
      case d1 => exact World.news_of_block (heap_alloc_new wr _)
      case d2 => intro u hu; simp at hu; subst hu; rfl
      case d3 => unfold maxLen; omega
      case d4 => omega
      case d5 => simp; omega
      intro g cap w1 hown1 hgrow hat hgl
      have HB1 : Hid _ := own_below HB.out hown hgrow
      have hown2 : w1.ownsRow w.heap.size 5 1 (.slice (some ⟨g, 0, none⟩) (bs1.length + 1) cap) (bs1 ++ [c]).length ((bs1 ++ [c]).map B8) := by
        rw [List.length_append, List.map_append]; exact hown1
      have hstr := own_string hown2
      rw [HE1.out] at hstr
      clear hown1 hgrow hat hgl hown hown2
      go_wp2
      go_ret
      exact ⟨rfl, HB1.out⟩

theorem refFold_any (n : Int) (w : World) (h1 : -9223372036854775808 ≤ n) (h2 : n ≤ 9223372036854775807) :
    Calls Tryz.prog 67 #[.int .i64 n] w fun e w' => e = .returned (.int .u64 (fold n)) ∧ w' = w := by
  by_cases h : n < 0
  · go_enter Tryz.func67, Tryz.ntmps67
    go_wp2
    go_ret
    exact ⟨ret_int (by unfold fold; rw [if_pos (by assumption)]; omega), rfl⟩
  · go_enter Tryz.func67, Tryz.ntmps67
    go_wp2
    go_ret
    exact ⟨ret_int (fold_pos (by omega)), rfl⟩

theorem refInt_any (n : Int) (w : World) (h1 : -9223372036854775808 ≤ n) (h2 : n ≤ 9223372036854775807) :
    Calls Tryz.prog 38 #[.int .i64 n] w fun e w' => e = .returned (.string ⟨(enc (fold n)).toArray⟩) ∧ Below w.heap.size w w' := by
  have h3 := fold_lt h1 h2
  go_enter Tryz.func38, Tryz.ntmps38
  go_wp2_with fail
  refine (refFold_any n _ h1 h2).mono ?_
  rintro e w1 ⟨rfl, rfl⟩
  go_wp2_with fail
  refine (refNum_any (fold n) _ h3).mono ?_
  rintro e w2 ⟨rfl, hb⟩
  go_wp2
  go_ret
  exact ⟨rfl, hb⟩
end Go.Proofs.YtjfanbemihheiaaGreatDoor.Pk

/-
  The document's answer for layer 1 (package tarmacref01): what its reader's Num, Int and Text answer.
-/
namespace Go.Proofs.YtjfanbemihheiaaGreatDoor.Pk
open Go.RowKit
set_option linter.unusedVariables false

/-- Block b is the document's reader with the bytes s left. -/
def RfAt (w : World) (b : Nat) (s : ByteArray) : Prop := w.heap[b]? = some (.cells #[.string s] 83 (0, 0))
theorem RfAt.lt {w : World} {b : Nat} {s : ByteArray} (h : RfAt w b s) : b < w.heap.size := lt_of_block h
theorem RfAt.below {w w' : World} {b : Nat} {s : ByteArray} (h : RfAt w b s) {B : Nat} (hb : Below B w w') (hB : b < B) : RfAt w' b s := (hb.block b hB).trans h

/-- Where byte k is the last: the number's own bytes stand there just if they are a number's. -/
theorem enc_last (s : ByteArray) (k : Nat) (h : k < s.size) (hk : k < 10) (hp : ∀ x ∈ s.data.toList.take k, 128 ≤ x.toNat) (hc : s[k].toNat < 128) (h9 : ¬ (k = 9 ∧ 1 < s[k].toNat)) :
    (dnum s.data.toList = none ∧ enc (val (s.data.toList.take k) + 128 ^ k * s[k].toNat) ≠ s.data.toList.take (k + 1)) ∨
    (dnum s.data.toList = some (val (s.data.toList.take k) + 128 ^ k * s[k].toNat, k + 1) ∧ enc (val (s.data.toList.take k) + 128 ^ k * s[k].toNat) = s.data.toList.take (k + 1)) := by
  have hl := take_len s k (by omega)
  have hd := dnum_last (s.data.toList.take k) s[k] (s.data.toList.drop (k + 1)) (by omega) hp hc
  rw [← split_at s k h, hl] at hd
  have hv := val_lt (s.data.toList.take k)
  rw [hl] at hv
  by_cases h0 : 0 < k ∧ s[k].toNat = 0
  · rw [if_pos (.inl h0)] at hd
    refine .inl ⟨hd, fun e => ?_⟩
    have hb : val (s.data.toList.take k) + 128 ^ k * s[k].toNat < 18446744073709551616 := by
      rw [h0.2]
      have h3 : (128 : Nat) ^ k ≤ 128 ^ 9 := Nat.pow_le_pow_right (by omega) (by omega)
      omega
    have h1 := dnum_enc _ (s.data.toList.drop (k + 1)) hb
    rw [e, List.take_append_drop, hd] at h1
    cases h1
  · rw [if_neg (by omega)] at hd
    refine .inr ⟨hd, ?_⟩
    obtain ⟨_, h2, h3, _⟩ := dnum_some hd
    have h4 := congrArg (List.take (k + 1)) h3
    generalize val (s.data.toList.take k) + 128 ^ k * s[k].toNat = N at *
    rw [h4, h2, List.take_left]

theorem drew1_below {w w2 : World} (h : Below w.drew.heap.size w.drew w2) : Below w.heap.size w w2 := ⟨h.os, h.tape, h.output, h.size, h.block⟩
theorem sum_lt {v c k : Nat} (hv : v < 128 ^ k) (hk : k < 10) (h9 : k = 9 → c % 128 ≤ 1) : v + 128 ^ k * (c % 128) < 18446744073709551616 := by
  by_cases h : k = 9
  · have h1 := h9 h
    have h2 : 128 ^ k = 128 ^ 9 := by rw [h]
    have h4 : 128 ^ k * (c % 128) ≤ 128 ^ 9 * 1 := by rw [h2]; exact Nat.mul_le_mul (Nat.le_refl _) h1
    omega
  · have h3 : (128 : Nat) ^ k ≤ 128 ^ 8 := Nat.pow_le_pow_right (by omega) (by omega)
    have h4 : 128 ^ k * (c % 128) ≤ 128 ^ 8 * 127 := Nat.mul_le_mul h3 (by omega)
    omega
theorem str_to (s : ByteArray) (k : Nat) (h : k + 1 ≤ s.size) (W : World) : (Instr.slice 9 (.string s) none (some (.int .i64 ((k : Int) + 1))) none).run Tryz.prog W = .ok (.string (s.extract 0 (k + 1))) W := by
  have := run_slice_string_h (P := Tryz.prog) W 9 s Tryz.underlying9 .i64 ((k : Int) + 1) (by omega) (by omega)
  rwa [show ((k : Int) + 1).toNat = k + 1 by omega] at this
theorem mul_unit {c k : Nat} (hc : c < 128) (hk : k < 10) (h9 : k = 9 → c ≤ 1) : IntKind.u64.wrap ((c : Int) * ((128 ^ k : Nat) : Int)) = ((128 ^ k * c : Nat) : Int) := by
  rw [show ((c : Int) * ((128 ^ k : Nat) : Int)) = ((128 ^ k * c : Nat) : Int) by rw [Int.natCast_mul, Int.mul_comm]]
  refine IntWalk.u64_in _ ⟨by omega, ?_⟩
  have h2 : 128 ^ k * c ≤ 18446744073709551615 := by
    by_cases h : k = 9
    · subst h; have := h9 rfl; omega
    · have h3 : (128 : Nat) ^ k ≤ 128 ^ 8 := Nat.pow_le_pow_right (by omega) (by omega)
      have h4 : 128 ^ k * c ≤ 128 ^ 8 * 127 := Nat.mul_le_mul h3 (by omega)
      omega
  omega

set_option maxRecDepth 100000 in
set_option maxHeartbeats 2000000 in
theorem fNum_any (b : Nat) (s : ByteArray) (w : World) (hr : RfAt w b s) (hs : s.size ≤ maxLen) :
    Calls Tryz.prog 45 #[.pointer (some ⟨b, 0, none⟩)] w fun e w' =>
      (dnum s.data.toList = none ∧ e = .returned (.tuple #[.int .u64 0, .int .i64 1]) ∧ Below w.heap.size w w') ∨
      (∃ n k, dnum s.data.toList = some (n, k) ∧ e = .returned (.tuple #[.int .u64 n, .int .i64 0]) ∧ ∃ w1, Below w.heap.size w w1 ∧ w' = w1.setCell ⟨b, 0, none⟩ (.string (s.extract k s.size))) := by
  have hc := cell_of_one hr
  have hf := free_of_one hr
  have hlt := hr.lt
  unfold maxLen at hs
  go_enter Tryz.func45, Tryz.ntmps45
  go_wp2
  go_loop [4, 5] (fun n i => ∃ (k : Nat) (m : Int), k ≤ 10 ∧ k ≤ s.size ∧ i = .int .i64 k ∧ n = .int .u64 m ∧ Hid (k < 10 → m = ((val (s.data.toList.take k) : Nat) : Int)) ∧ Hid (∀ x ∈ s.data.toList.take k, 128 ≤ x.toNat)) (fun _ i => 10 - (intOf i).toNat)
  case atStart => exact ⟨0, 0, by omega, by omega, rfl, rfl, fun _ => rfl, fun x hx => by simp at hx⟩
  case round =>
    obtain ⟨k, m, hk, hk2, rfl, rfl, HM, HP⟩ := hrel
    by_cases hk10 : k < 10
    · by_cases hks : k < s.size
      · have hv : val (s.data.toList.take k) < 128 ^ k := by have := val_lt (s.data.toList.take k); rwa [take_len s k (by omega)] at this
        have hcl := u8_lt s[k]
        have hm := HM.out hk10
        subst hm
        clear HM
        by_cases h9 : k = 9 ∧ 1 < s[k].toNat
        · have HD : Hid (dnum s.data.toList = none) := by
            obtain ⟨rfl, h9⟩ := h9
            show dnum _ = none
            by_cases h128 : s[9].toNat < 128
            · have := dnum_last (s.data.toList.take 9) s[9] (s.data.toList.drop 10) (by rw [take_len s 9 (by omega)]; omega) HP.out h128
              rw [← split_at s 9 hks, take_len s 9 (by omega)] at this
              rw [this, if_pos (.inr ⟨rfl, h9⟩)]
            · refine dnum_no_last _ ?_
              rw [take_snoc s 9 hks]
              intro x hx
              rcases List.mem_append.1 hx with hx | hx
              · exact HP.out x hx
              · simp at hx; subst hx; omega
          obtain ⟨hk9, h91⟩ := h9
          have hb9 : ((k : Int) == 9) = true := by rw [beq_iff_eq]; omega
          have hn1 : 1 ≤ s[k].toNat := by omega
          clear hk9
          go_wp2
          go_ret2
          exact .inl ⟨HD.out, rfl, Below.refl _ _⟩
        · have HK9 : Hid (k = 9 → s[k].toNat % 128 ≤ 1) := by intro h; have : ¬ 1 < s[k].toNat := fun g => h9 ⟨h, g⟩; omega
          have hcases : (((k : Int) == 9) = true ∧ s[k].toNat ≤ 1) ∨ ((k : Int) == 9) = false := by
            by_cases h : k = 9
            · left; exact ⟨by rw [beq_iff_eq]; omega, by have : ¬ 1 < s[k].toNat := fun g => h9 ⟨h, g⟩; omega⟩
            · right; rw [beq_eq_false_iff_ne]; omega
          have H9 : Hid _ := h9
          clear h9
          rcases hcases with ⟨hb9, hle1⟩ | hb9
          · skip
            go_wp2
            go_loop [7, 8] (fun u i => ∃ j U : Nat, j ≤ k ∧ i = .int .i64 j ∧ u = .int .u64 U ∧ Hid (U = 128 ^ j)) (fun _ i => k - (intOf i).toNat)
            case atStart => exact ⟨0, 1, by omega, rfl, rfl, rfl⟩
            case round =>
              obtain ⟨j, U, hj, rfl, rfl, HU⟩ := hrel
              by_cases hjk : j < k
              · have hU : U ≤ 72057594037927936 := by
                  rw [HU.out]
                  have h3 : (128 : Nat) ^ j ≤ 128 ^ 8 := Nat.pow_le_pow_right (by omega) (by omega)
                  omega
                have HU1 : Hid (U * 128 = 128 ^ (j + 1)) := by show _ = _; rw [HU.out, Nat.pow_succ]
                go_wp2
                go_round
                case rel => exact ⟨j + 1, U * 128, by omega, by go_num, by go_num, HU1⟩
                case measure => simp [intOf]; omega
              · obtain rfl : j = k := by omega
                obtain ⟨P, HPP⟩ : ∃ P : Nat, Hid (P = 128 ^ j * (s[j].toNat % 128)) := ⟨128 ^ j * (s[j].toNat % 128), rfl⟩
                have hmul : IntKind.u64.wrap ((s[j].toNat : Int) % 128 * (U : Int)) = (P : Int) := by
                  rw [HPP.out, HU.out]
                  exact mul_unit (c := s[j].toNat % 128) (by omega) hk10 HK9.out
                have hsum : val (s.data.toList.take j) + P < 18446744073709551616 := by
                  rw [HPP.out]
                  exact sum_lt hv hk10 HK9.out
                have h128 : s[j].toNat < 128 := by omega
                have HE : Hid _ := enc_last s j hks hk10 HP.out h128 H9.out
                rw [show 128 ^ j * s[j].toNat = P by rw [HPP.out, Nat.mod_eq_of_lt h128]] at HE
                have hj1 : (j : Int) + 1 ≤ (s.size : Int) := by omega
                have hj0 : (0 : Int) ≤ (j : Int) + 1 := by omega
                have hwj : IntKind.i64.wrap ((j : Int) + 1) = (j : Int) + 1 := IntWalk.i64_in _ ⟨by omega, by omega⟩
                have hsl := str_to s j (by omega)
                have hXd : (s.extract 0 (j + 1)).data.toList = s.data.toList.take (j + 1) := by rw [Lib.extract_data]; simp
                have HXd : Hid _ := hXd
                clear hXd
                generalize val (s.data.toList.take j) = V at *
                generalize s.extract 0 (j + 1) = X at *
                have hne0 : (V : Int) + (P : Int) ≤ 18446744073709551615 := by omega
                rcases HE.out with ⟨hd, hne⟩ | ⟨hd, heq⟩
                · have hcmp : (((⟨(enc (V + P)).toArray⟩ : ByteArray)).toList == X.toList) = false := by
                    rw [Lib.toList_data, Lib.toList_data, HXd.out, beq_eq_false_iff_ne]; exact hne
                  have HD : Hid _ := hd
                  clear hd HE
                  generalize hY : (⟨(enc (V + P)).toArray⟩ : ByteArray) = Y at *
                  have hct : ∀ W : World, Calls Tryz.prog 37 #[.int .u64 ((V : Int) + (P : Int))] W fun e w' => e = .returned (.string Y) ∧ Below W.heap.size W w' := fun W => by rw [← hY]; exact_mod_cast refNum_any (V + P) W hsum
                  have HCT : Hid _ := hct
                  clear hct hY
                  go_wp2
                  go_region_with (go_at_call 37; refine (HCT.out _).mono ?_; rintro e w2 ⟨rfl, hb2⟩; have hc2 : w2.cell? ⟨b, 0, none⟩ = some (.string s) := (hb2.cell (by simpa using hlt)).trans (by simpa using hc))
                  all_goals
                    have hbq : Below w.heap.size w w2 := drew1_below hb2
                    go_wp2
                    go_ret2
                    exact .inl ⟨HD.out, rfl, hbq⟩
                · have hcmp : (((⟨(enc (V + P)).toArray⟩ : ByteArray)).toList == X.toList) = true := by
                    rw [Lib.toList_data, Lib.toList_data, HXd.out, beq_iff_eq]; exact heq
                  have HD : Hid _ := hd
                  clear hd HE
                  generalize hY : (⟨(enc (V + P)).toArray⟩ : ByteArray) = Y at *
                  have hct : ∀ W : World, Calls Tryz.prog 37 #[.int .u64 ((V : Int) + (P : Int))] W fun e w' => e = .returned (.string Y) ∧ Below W.heap.size W w' := fun W => by rw [← hY]; exact_mod_cast refNum_any (V + P) W hsum
                  have HCT : Hid _ := hct
                  clear hct hY
                  go_wp2
                  go_region_with (go_at_call 37; refine (HCT.out _).mono ?_; rintro e w2 ⟨rfl, hb2⟩; have hc2 : w2.cell? ⟨b, 0, none⟩ = some (.string s) := (hb2.cell (by simpa using hlt)).trans (by simpa using hc))
                  all_goals
                    have hbq : Below w.heap.size w w2 := drew1_below hb2
                    have hf2 : w2.frozen? ⟨b, 0, none⟩ = false := (hbq.frozen (by simpa using hlt)).trans hf
                    go_wp2
                    go_ret2
                    exact .inr ⟨V + P, j + 1, HD.out, by rw [Int.natCast_add]; rfl, w2, hbq, rfl⟩
          · skip
            go_wp2
            go_loop [7, 8] (fun u i => ∃ j U : Nat, j ≤ k ∧ i = .int .i64 j ∧ u = .int .u64 U ∧ Hid (U = 128 ^ j)) (fun _ i => k - (intOf i).toNat)
            case atStart => exact ⟨0, 1, by omega, rfl, rfl, rfl⟩
            case round =>
              obtain ⟨j, U, hj, rfl, rfl, HU⟩ := hrel
              by_cases hjk : j < k
              · have hU : U ≤ 72057594037927936 := by
                  rw [HU.out]
                  have h3 : (128 : Nat) ^ j ≤ 128 ^ 8 := Nat.pow_le_pow_right (by omega) (by omega)
                  omega
                have HU1 : Hid (U * 128 = 128 ^ (j + 1)) := by show _ = _; rw [HU.out, Nat.pow_succ]
                go_wp2
                go_round
                case rel => exact ⟨j + 1, U * 128, by omega, by go_num, by go_num, HU1⟩
                case measure => simp [intOf]; omega
              · obtain rfl : j = k := by omega
                obtain ⟨P, HPP⟩ : ∃ P : Nat, Hid (P = 128 ^ j * (s[j].toNat % 128)) := ⟨128 ^ j * (s[j].toNat % 128), rfl⟩
                have hmul : IntKind.u64.wrap ((s[j].toNat : Int) % 128 * (U : Int)) = (P : Int) := by
                  rw [HPP.out, HU.out]
                  exact mul_unit (c := s[j].toNat % 128) (by omega) hk10 HK9.out
                have hsum : val (s.data.toList.take j) + P < 18446744073709551616 := by
                  rw [HPP.out]
                  exact sum_lt hv hk10 HK9.out
                by_cases h128 : s[j].toNat < 128
                · have HE : Hid _ := enc_last s j hks hk10 HP.out h128 H9.out
                  rw [show 128 ^ j * s[j].toNat = P by rw [HPP.out, Nat.mod_eq_of_lt h128]] at HE
                  have hj1 : (j : Int) + 1 ≤ (s.size : Int) := by omega
                  have hj0 : (0 : Int) ≤ (j : Int) + 1 := by omega
                  have hwj : IntKind.i64.wrap ((j : Int) + 1) = (j : Int) + 1 := IntWalk.i64_in _ ⟨by omega, by omega⟩
                  have hsl := str_to s j (by omega)
                  have hXd : (s.extract 0 (j + 1)).data.toList = s.data.toList.take (j + 1) := by rw [Lib.extract_data]; simp
                  have HXd : Hid _ := hXd
                  clear hXd
                  generalize val (s.data.toList.take j) = V at *
                  generalize s.extract 0 (j + 1) = X at *
                  have hne0 : (V : Int) + (P : Int) ≤ 18446744073709551615 := by omega
                  rcases HE.out with ⟨hd, hne⟩ | ⟨hd, heq⟩
                  · have hcmp : (((⟨(enc (V + P)).toArray⟩ : ByteArray)).toList == X.toList) = false := by
                      rw [Lib.toList_data, Lib.toList_data, HXd.out, beq_eq_false_iff_ne]; exact hne
                    have HD : Hid _ := hd
                    clear hd HE
                    generalize hY : (⟨(enc (V + P)).toArray⟩ : ByteArray) = Y at *
                    have hct : ∀ W : World, Calls Tryz.prog 37 #[.int .u64 ((V : Int) + (P : Int))] W fun e w' => e = .returned (.string Y) ∧ Below W.heap.size W w' := fun W => by rw [← hY]; exact_mod_cast refNum_any (V + P) W hsum
                    have HCT : Hid _ := hct
                    clear hct hY
                    go_wp2
                    go_region_with (go_at_call 37; refine (HCT.out _).mono ?_; rintro e w2 ⟨rfl, hb2⟩; have hc2 : w2.cell? ⟨b, 0, none⟩ = some (.string s) := (hb2.cell (by simpa using hlt)).trans (by simpa using hc))
                    all_goals
                      have hbq : Below w.heap.size w w2 := drew1_below hb2
                      go_wp2
                      go_ret2
                      exact .inl ⟨HD.out, rfl, hbq⟩
                  · have hcmp : (((⟨(enc (V + P)).toArray⟩ : ByteArray)).toList == X.toList) = true := by
                      rw [Lib.toList_data, Lib.toList_data, HXd.out, beq_iff_eq]; exact heq
                    have HD : Hid _ := hd
                    clear hd HE
                    generalize hY : (⟨(enc (V + P)).toArray⟩ : ByteArray) = Y at *
                    have hct : ∀ W : World, Calls Tryz.prog 37 #[.int .u64 ((V : Int) + (P : Int))] W fun e w' => e = .returned (.string Y) ∧ Below W.heap.size W w' := fun W => by rw [← hY]; exact_mod_cast refNum_any (V + P) W hsum
                    have HCT : Hid _ := hct
                    clear hct hY
                    go_wp2
                    go_region_with (go_at_call 37; refine (HCT.out _).mono ?_; rintro e w2 ⟨rfl, hb2⟩; have hc2 : w2.cell? ⟨b, 0, none⟩ = some (.string s) := (hb2.cell (by simpa using hlt)).trans (by simpa using hc))
                    all_goals
                      have hbq : Below w.heap.size w w2 := drew1_below hb2
                      have hf2 : w2.frozen? ⟨b, 0, none⟩ = false := (hbq.frozen (by simpa using hlt)).trans hf
                      go_wp2
                      go_ret2
                      exact .inr ⟨V + P, j + 1, HD.out, by rw [Int.natCast_add]; rfl, w2, hbq, rfl⟩
                · have HS : Hid (∀ x ∈ s.data.toList.take (j + 1), 128 ≤ x.toNat) := by
                    show ∀ x ∈ s.data.toList.take (j + 1), 128 ≤ x.toNat
                    rw [take_snoc s j hks]
                    intro x hx
                    rcases List.mem_append.1 hx with hx | hx
                    · exact HP.out x hx
                    · simp at hx; subst hx; omega
                  have HV : Hid (j + 1 < 10 → ((val (s.data.toList.take j) : Nat) : Int) + (P : Int) = ((val (s.data.toList.take (j + 1)) : Nat) : Int)) := by
                    intro h
                    rw [take_snoc s j hks, val_snoc, take_len s j (by omega), HPP.out]
                    omega
                  go_wp2
                  go_round
                  case rel => exact ⟨j + 1, _, by omega, by omega, by go_num, rfl, HV, HS⟩
                  case measure => simp [intOf]; omega
      · have HD : Hid (dnum s.data.toList = none) := dnum_no_last _ (by rw [List.take_of_length_le (by rw [← Lib.size_eq]; omega)]; have := HP.out; rwa [List.take_of_length_le (by rw [← Lib.size_eq]; omega)] at this)
        go_wp2
        go_ret2
        exact .inl ⟨HD.out, rfl, Below.refl _ _⟩
    · have HD : Hid (dnum s.data.toList = none) := dnum_no_last _ (by have := HP.out; rwa [show k = 10 by omega] at this)
      go_wp2
      go_ret2
      exact .inl ⟨HD.out, rfl, Below.refl _ _⟩

end Go.Proofs.YtjfanbemihheiaaGreatDoor.Pk

/-
  The document's answer for layer 1: its reader's Num, Int and Text, as the statement uses them.
-/
namespace Go.Proofs.YtjfanbemihheiaaGreatDoor.Pk
open Go.RowKit
set_option linter.unusedVariables false

theorem step_below {w w1 : World} {b : Nat} (h : Below w.heap.size w w1) : Step b w none w1 none := ⟨⟨h.os, h.tape, h.output, h.size, fun k hk _ _ => h.block k hk⟩, .inl rfl⟩

theorem fNum_none (b : Nat) (s : ByteArray) (w : World) (hr : RfAt w b s) (hs : s.size ≤ maxLen) (hd : dnum s.data.toList = none) :
    Calls Tryz.prog 45 #[.pointer (some ⟨b, 0, none⟩)] w fun e w' => e = .returned (.tuple #[.int .u64 0, .int .i64 1]) ∧ RfAt w' b s ∧ Step b w none w' none := by
  refine (fNum_any b s w hr hs).mono ?_
  rintro e w' (⟨_, rfl, hb⟩ | ⟨n, k, h, _⟩)
  · exact ⟨rfl, hr.below hb hr.lt, step_below hb⟩
  · rw [hd] at h; cases h
theorem fNum_read (b n : Nat) (rest : List UInt8) (s : ByteArray) (w : World) (hr : RfAt w b s) (hs : s.size ≤ maxLen) (hn : n < 18446744073709551616) (hl : s.data.toList = enc n ++ rest) :
    Calls Tryz.prog 45 #[.pointer (some ⟨b, 0, none⟩)] w fun e w' => e = .returned (.tuple #[.int .u64 n, .int .i64 0]) ∧ ∃ s', RfAt w' b s' ∧ s'.data.toList = rest ∧ Step b w none w' none := by
  have hd : dnum s.data.toList = some (n, (enc n).length) := by rw [hl]; exact dnum_enc n rest hn
  refine (fNum_any b s w hr hs).mono ?_
  rintro e w' (⟨h, _⟩ | ⟨n', k, h, rfl, w1, hb, rfl⟩)
  · rw [hd] at h; cases h
  · rw [hd] at h
    simp only [Option.some.injEq, Prod.mk.injEq] at h
    obtain ⟨rfl, rfl⟩ := h
    exact ⟨rfl, _, one_setCell (hr.below hb hr.lt), rest_of hl, step_set hb _⟩

theorem refUnfold_any (n : Nat) (w : World) (hn : n < 18446744073709551616) :
    Calls Tryz.prog 70 #[.int .u64 n] w fun e w' => e = .returned (.int .i64 (unfold n)) ∧ w' = w := by
  by_cases h : n % 2 = 1
  · have hb : ((n : Int) % 2 == 0) = false := by rw [beq_eq_false_iff_ne]; omega
    have HO : Hid (-((n : Int) / 2) - 1 = unfold n) := by show _ = _; unfold unfold; rw [if_pos h]; omega
    clear h
    go_enter Tryz.func70, Tryz.ntmps70
    go_wp2
    go_ret
    exact ⟨ret_int HO.out, rfl⟩
  · have hb : ((n : Int) % 2 == 0) = true := by rw [beq_iff_eq]; omega
    have HO : Hid ((n : Int) / 2 = unfold n) := by show _ = _; unfold unfold; rw [if_neg h]; omega
    clear h
    go_enter Tryz.func70, Tryz.ntmps70
    go_wp2
    go_ret
    exact ⟨ret_int HO.out, rfl⟩

theorem fInt_none (b : Nat) (s : ByteArray) (w : World) (hr : RfAt w b s) (hs : s.size ≤ maxLen) (hd : dnum s.data.toList = none) :
    Calls Tryz.prog 46 #[.pointer (some ⟨b, 0, none⟩)] w fun e w' => e = .returned (.tuple #[.int .i64 0, .int .i64 1]) ∧ RfAt w' b s ∧ Step b w none w' none := by
  go_enter Tryz.func46, Tryz.ntmps46
  go_wp2_with fail
  refine (fNum_none b s _ hr hs hd).mono ?_
  rintro e w' ⟨rfl, h1, h2⟩
  have H1 : Hid _ := h1
  have H2 : Hid _ := h2
  clear h1 h2
  go_wp2
  go_ret2
  exact ⟨rfl, H1.out, H2.out⟩
theorem fInt_read (b u : Nat) (rest : List UInt8) (s : ByteArray) (w : World) (hr : RfAt w b s) (hs : s.size ≤ maxLen) (hn : u < 18446744073709551616) (hl : s.data.toList = enc u ++ rest) :
    Calls Tryz.prog 46 #[.pointer (some ⟨b, 0, none⟩)] w fun e w' => e = .returned (.tuple #[.int .i64 (unfold u), .int .i64 0]) ∧ ∃ s', RfAt w' b s' ∧ s'.data.toList = rest ∧ Step b w none w' none := by
  go_enter Tryz.func46, Tryz.ntmps46
  go_wp2_with fail
  refine (fNum_read b u rest s _ hr hs hn hl).mono ?_
  rintro e w' ⟨rfl, s', h1, h2, h3⟩
  have H1 : Hid _ := h1
  have H2 : Hid _ := h2
  have H3 : Hid _ := h3
  clear h1 h2 h3
  go_wp2_with fail
  refine (refUnfold_any u _ hn).mono ?_
  rintro e w2 ⟨rfl, rfl⟩
  go_wp2
  go_ret2
  exact ⟨rfl, s', H1.out, H2.out, H3.out⟩

end Go.Proofs.YtjfanbemihheiaaGreatDoor.Pk
