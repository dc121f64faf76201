/-
  Package pack's writer: 'putNum' puts a number's bytes behind those that were put.
-/
import Derived.Test.YtjiajnmpdlaidaaPackHeap
import Derived.Laws.BitsAllLaws
namespace Go.Proofs.Ytjiajnmpdlaidaa.Pk
open Go.RowKit
set_option linter.unusedVariables false

theorem info8 : (Try.prog.info? 5).map (fun i => (i.zero, i.size, i.bytes)) = some (some (.int .u8 0), 1, 1) := by kernel_rfl

theorem or128 (n : Nat) : bits .or .u8 ((n : Int) % 256) 128 = (((UInt8.ofNat (n % 128 + 128)).toNat : Nat) : Int) := by
  rw [u8_toNat_ofNat (by omega), show (n : Int) % 256 = ((n % 256 : Nat) : Int) by omega]
  have := u8_or_nat (n % 256) 128 (by omega) (by omega)
  rw [show (((128 : Nat) : Int)) = 128 from rfl] at this
  rw [this]
  congr 1
  have h2 : n % 128 < 2 ^ 7 := by omega
  have h5 : 128 + n % 128 = 128 ||| n % 128 := Nat.two_pow_add_eq_or_of_lt h2 1
  have h3 : n % 256 / 128 = 0 ∨ n % 256 / 128 = 1 := by omega
  rcases h3 with h3 | h3
  · have h4 : n % 256 = n % 128 := by omega
    rw [h4, Nat.or_comm]
    omega
  · have h6 : n % 256 = 128 ||| n % 128 := by omega
    rw [h6, Nat.or_assoc, Nat.or_comm (n % 128), ← Nat.or_assoc, show 128 ||| 128 = 128 from rfl, ← h5]
    omega
theorem low8 {n : Nat} (h : n < 128) : (n : Int) = (((UInt8.ofNat n).toNat : Nat) : Int) := by
  rw [u8_toNat_ofNat (by omega)]

set_option maxRecDepth 100000 in
set_option maxHeartbeats 1000000 in
theorem putNum_any (base b n : Nat) (r : Option Nat) (bs : List UInt8) (w : World) (hw : WrAt w base b r bs) (hn : n < 18446744073709551616) (hsz : bs.length + (enc n).length ≤ 140737488355328) (hbase : base ≤ w.heap.size) :
    Calls Try.prog 35 #[.pointer (some ⟨b, 0, none⟩), .int .u64 n] w fun e w' => e = .returned (.tuple #[]) ∧ ∃ r', WrAt w' base b r' (bs ++ enc n) ∧ Step b w r w' r' := by
  obtain ⟨i0, hi, hz0, hz1, hz2⟩ := info_parts info8
  go_enter Try.func35, Try.ntmps35
  go_wp2
  go_loopw [1] (fun nv wr => ∃ (m f : Nat) (bs1 : List UInt8) (r1 : Option Nat), nv = .int .u64 m ∧ m < 18446744073709551616 ∧ Hid (m < 128 ^ (f + 1)) ∧ Hid (bs1 ++ encF f m = bs ++ enc n) ∧ Hid (WrAt wr base b r1 bs1) ∧ Hid (Step b w r wr r1)) (fun nv _ => (intOf nv).toNat)
  case atStart => exact ⟨n, 9, bs, r, rfl, hn, by show n < 128 ^ 10; omega, rfl, hw, Step.refl _ _ _⟩
  case round =>
    obtain ⟨m, f, bs1, r1, rfl, hm, HF, HE, HW, HS⟩ := hrel
    have hl1 : bs1.length + 1 ≤ bs.length + (enc n).length := by
      have h1 := congrArg List.length HE.out
      have h2 := (encF_len f m).1
      simp at h1; omega
    obtain ⟨v, hb, hown, hr⟩ := HW.out
    have hbr : some b ≠ v.ownBlock := fun e => (HW.out.row_ge b (by rw [← hr, ← e])).2.2 rfl
    have hlt : b < wr.heap.size := HW.out.lt
    have hsw := HS.out.kept.size
    have hc := cell_of_one hb
    have hfz := free_of_one hb
    by_cases hge : 128 ≤ m
    · obtain ⟨f, rfl⟩ : ∃ f', f = f' + 1 := by
        cases f with
        | zero => have := HF.out; simp at this; omega
        | succ f => exact ⟨f, rfl⟩
      obtain ⟨c, HC⟩ : ∃ c, Hid (c = UInt8.ofNat (m % 128 + 128)) := ⟨_, rfl⟩
      have HF1 : Hid (m / 128 < 128 ^ (f + 1)) := by have := HF.out; rw [Nat.pow_succ] at this; show m / 128 < 128 ^ (f + 1); omega
      have HE1 : Hid ((bs1 ++ [c]) ++ encF f (m / 128) = bs ++ enc n) := by
        show (bs1 ++ [c]) ++ encF f (m / 128) = bs ++ enc n
        rw [← HE.out, encF_big _ _ hge, HC.out]; simp
      have hor : bits .or .u8 ((m : Int) % 256) 128 = (c.toNat : Int) := by rw [HC.out]; exact or128 m
      go_wp2_with (at_builtin; refine wpList_append_lies _ rfl _ _ 37 rfl base 5 i0 (.int .u8 0) 1 1 Try.underlying37 hi hz0 hz1 hz2 rfl (by decide) v bs1.length (bs1.map B8) rfl (hown.alloc _) ⟨wr.heap.size, 0, none⟩ 1 1 [B8 c] rfl rfl ?c1 ?c2 (by decide) ?c3 ?c4 ?c5 (wr.heap.size + 1) (by simp) ?_)
      case c1 => exact World.news_of_block (heap_alloc_new wr _)
      case c2 => intro u hu; simp at hu; subst hu; rfl
      case c3 => unfold maxLen; omega
      case c4 => omega
      case c5 => simp; omega
      intro g cap w1 hown1 hgrow hat hgl
      have R := wr_put (new := [c]) hb hown (Step.alloc b _ wr _) ((Below.heap_alloc _ _ _ hlt).trans hb) hown1 rfl (by rw [hr]; exact hgrow) (by rw [hr]; simpa using hat)
      have hb1 : w1.heap[b]? = some (.cells #[v] 77 (0, 0)) := (hgrow.block b (by simp; omega) (by rw [← hr]; exact hbr)).trans ((Below.heap_alloc _ _ _ hlt).trans hb)
      have hc1 := cell_of_one hb1
      have hf1 := free_of_one hb1
      rw [hr] at R
      have HR : Hid _ := R
      clear R hown1 hgrow hat hgl hb1 hown hb hc hfz hor
      go_wp2
      go_roundw
      case rel => exact ⟨m / 128, f, bs1 ++ [c], some g, by go_num, by omega, HF1, HE1, HR.out.1, HS.out.trans HR.out.2⟩
      case measure => simp [intOf]; omega
    · obtain ⟨c, HC⟩ : ∃ c, Hid (c = UInt8.ofNat m) := ⟨_, rfl⟩
      have hlow : (m : Int) = (c.toNat : Int) := by rw [HC.out]; exact low8 (by omega)
      have HE1 : Hid (bs1 ++ [c] = bs ++ enc n) := by
        show bs1 ++ [c] = bs ++ enc n
        rw [← HE.out, encF_small _ _ (by omega), HC.out]
      have hm' : m = c.toNat := by omega
      subst hm'
      clear hlow HC
      go_wp2_with (at_builtin; refine wpList_append_lies _ rfl _ _ 37 rfl base 5 i0 (.int .u8 0) 1 1 Try.underlying37 hi hz0 hz1 hz2 rfl (by decide) v bs1.length (bs1.map B8) rfl (hown.alloc _) ⟨wr.heap.size, 0, none⟩ 1 1 [B8 c] rfl rfl ?d1 ?d2 (by decide) ?d3 ?d4 ?d5 (wr.heap.size + 1) (by simp) ?_)
      case d1 => exact World.news_of_block (heap_alloc_new wr _)
      case d2 => intro u hu; simp at hu; subst hu; rfl
      case d3 => unfold maxLen; omega
      case d4 => omega
      case d5 => simp; omega
      intro g cap w1 hown1 hgrow hat hgl
      have R := wr_put (new := [c]) hb hown (Step.alloc b _ wr _) ((Below.heap_alloc _ _ _ hlt).trans hb) hown1 rfl (by rw [hr]; exact hgrow) (by rw [hr]; simpa using hat)
      have hb1 : w1.heap[b]? = some (.cells #[v] 77 (0, 0)) := (hgrow.block b (by simp; omega) (by rw [← hr]; exact hbr)).trans ((Below.heap_alloc _ _ _ hlt).trans hb)
      have hc1 := cell_of_one hb1
      have hf1 := free_of_one hb1
      rw [hr] at R
      have HR : Hid _ := R
      clear R hown1 hgrow hat hgl hb1 hown hb hc hfz
      go_wp2
      go_end0
      exact ⟨rfl, some g, by rw [← HE1.out]; exact HR.out.1, HS.out.trans HR.out.2⟩

end Go.Proofs.Ytjiajnmpdlaidaa.Pk
