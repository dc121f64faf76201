/-
  Package pack: what Bytes, Len, Nums, Ints and Texts answer, and a reader's Read, Left, Done, Num and Int.
-/
import Derived.Test.YtjiajnmpdlaidaaPackWrite
import Derived.Test.YtjiajnmpdlaidaaPackNumber
import Derived.Laws.DeepNot64
import Derived.Lib.Strings
namespace Go.Proofs.Ytjiajnmpdlaidaa.Pk
open Go.RowKit
set_option linter.unusedVariables false

/-- What an owned row of bytes reads as, as a string. -/
theorem own_string {w : World} {base : Nat} {v : Value} {bs : List UInt8} (h : w.ownsRow base 5 1 v bs.length (bs.map B8)) :
    (convert 37 9 v).run Try.prog w = .ok (.string ⟨bs.toArray⟩) w := by
  rcases h.2 with ⟨rfl, hn⟩ | ⟨g, cap, cur, rfl, _, hg, _, _, _, htake⟩
  · have : bs = [] := List.eq_nil_of_length_eq_zero hn
    subst this
    rw [run_convert_bytes_string w 37 9 5 none 0 0 Try.underlying37 Try.underlying5 Try.underlying9]
    simp [Conv.bytesToString]
    rfl
  · refine run_convert_bytes_back w 37 9 5 ⟨g, 0, none⟩ cap bs Try.underlying37 Try.underlying5 Try.underlying9 fun j hj => ?_
    have := h.cells (g := g) rfl j (B8 bs[j]) (by simp [hj])
    exact this

theorem own_len {w : World} {base : Nat} {v : Value} {bs : List UInt8} (h : w.ownsRow base 5 1 v bs.length (bs.map B8)) :
    ∃ ao cap, v = .slice ao bs.length cap := by
  rcases h.2 with ⟨rfl, hn⟩ | ⟨g, cap, cur, rfl, _⟩
  · exact ⟨none, 0, by rw [hn]⟩
  · exact ⟨_, cap, rfl⟩

theorem wBytes_any (base b : Nat) (r : Option Nat) (bs : List UInt8) (w : World) (hw : WrAt w base b r bs) :
    Calls Try.prog 20 #[.pointer (some ⟨b, 0, none⟩)] w fun e w' => e = .returned (.string ⟨bs.toArray⟩) ∧ w' = w := by
  obtain ⟨v, hb, hown, _⟩ := hw
  have hc := cell_of_one hb
  have hs := own_string hown
  go_enter Try.func20, Try.ntmps20
  go_wp2
  go_ret
  exact ⟨rfl, rfl⟩

/-! ### Readers -/
/-- Block b is a reader that has the bytes s left. -/
def RdAt (w : World) (b : Nat) (s : ByteArray) : Prop := w.heap[b]? = some (.cells #[.string s] 84 (0, 0))

theorem read_any (s : ByteArray) (w : World) :
    Calls Try.prog 24 #[.string s] w fun e w' => e = .returned (.pointer (some ⟨w.heap.size, 0, none⟩)) ∧ w' = w.alloc (.cells #[.string s] 84) := by
  go_enter Try.func24, Try.ntmps24
  go_wp2
  go_ret
  exact ⟨rfl, rfl⟩
theorem read_at (w : World) (s : ByteArray) : RdAt (w.alloc (.cells #[.string s] 84)) w.heap.size s := heap_alloc_new w _

theorem empty_iff (s : ByteArray) : s.toList.isEmpty = decide (s.size = 0) := by
  rw [Lib.toList_data, Lib.size_eq]
  cases s.data.toList <;> simp
theorem done_any (b : Nat) (s : ByteArray) (w : World) (hr : RdAt w b s) :
    Calls Try.prog 29 #[.pointer (some ⟨b, 0, none⟩)] w fun e w' => e = .returned (.bool (decide (s.size = 0))) ∧ w' = w := by
  have hc := cell_of_one hr
  go_enter Try.func29, Try.ntmps29
  go_wp2
  go_ret
  exact ⟨ret_bool (empty_iff s), rfl⟩

theorem rNum_none (b : Nat) (s : ByteArray) (w : World) (hr : RdAt w b s) (hs : s.size ≤ maxLen) (hd : dnum s.data.toList = none) :
    Calls Try.prog 25 #[.pointer (some ⟨b, 0, none⟩)] w fun e w' => e = .returned (.tuple #[.int .u64 0, .int .i64 1]) ∧ w' = w := by
  have hc := cell_of_one hr
  have HN : Hid (num s.data.toList = (0, 0)) := num_none hd
  go_enter Try.func25, Try.ntmps25
  go_wp2_with fail
  refine (number_any s _ hs).mono ?_
  rintro e w' ⟨rfl, rfl⟩
  rw [HN.out]
  go_wp2
  go_ret2
  exact ⟨rfl, rfl⟩
theorem rNum_some (b : Nat) (s : ByteArray) (w : World) (hr : RdAt w b s) (hs : s.size ≤ maxLen) (n k : Nat) (hd : dnum s.data.toList = some (n, k)) :
    Calls Try.prog 25 #[.pointer (some ⟨b, 0, none⟩)] w fun e w' => e = .returned (.tuple #[.int .u64 n, .int .i64 0]) ∧ w' = w.setCell ⟨b, 0, none⟩ (.string (s.extract k s.size)) := by
  have hc := cell_of_one hr
  have hf := free_of_one hr
  have HN : Hid (num s.data.toList = (n, k)) := num_some hd
  have hp := dnum_some hd
  have hl := enc_len n
  have hk1 : 1 ≤ k := by omega
  have hk2 : k ≤ s.size := by have := hp.2.2.2; simpa using this
  clear hp hl hd
  go_enter Try.func25, Try.ntmps25
  go_wp2_with fail
  refine (number_any s _ hs).mono ?_
  rintro e w' ⟨rfl, rfl⟩
  rw [HN.out]
  go_wp2
  go_ret2
  exact ⟨rfl, rfl⟩

theorem unfold_odd {n : Nat} (h : n % 2 = 1) (hn : n < 18446744073709551616) : bits .xor .i64 (-1) ((n : Int) / 2) = unfold n := by
  rw [show (n : Int) / 2 = ((n / 2 : Nat) : Int) by omega, i64_not _ (by omega)]
  unfold unfold; rw [if_pos h]; omega
theorem unfold_any (n : Nat) (w : World) (hn : n < 18446744073709551616) :
    Calls Try.prog 50 #[.int .u64 n] w fun e w' => e = .returned (.int .i64 (unfold n)) ∧ w' = w := by
  by_cases h : n % 2 = 1
  · have hb : ((n : Int) % 2 == 1) = true := by rw [beq_iff_eq]; omega
    have HO := unfold_odd h hn
    have HO : Hid _ := HO
    clear h
    go_enter Try.func50, Try.ntmps50
    go_wp2
    go_ret
    exact ⟨rfl, rfl⟩
  · have hb : ((n : Int) % 2 == 1) = false := by rw [beq_eq_false_iff_ne]; omega
    have HO : Hid ((n : Int) / 2 = unfold n) := by show _ = _; unfold unfold; rw [if_neg h]; omega
    clear h
    go_enter Try.func50, Try.ntmps50
    go_wp2
    go_ret
    exact ⟨ret_int HO.out, rfl⟩

theorem rInt_none (b : Nat) (s : ByteArray) (w : World) (hr : RdAt w b s) (hs : s.size ≤ maxLen) (hd : dnum s.data.toList = none) :
    Calls Try.prog 42 #[.pointer (some ⟨b, 0, none⟩)] w fun e w' => e = .returned (.tuple #[.int .i64 0, .int .i64 1]) ∧ w' = w := by
  go_enter Try.func42, Try.ntmps42
  go_wp2_with (go_at_call 25; refine (rNum_none b s _ hr hs hd).mono ?_; rintro e w' ⟨rfl, rfl⟩)
  go_ret2
  exact ⟨rfl, rfl⟩
theorem rInt_some (b : Nat) (s : ByteArray) (w : World) (hr : RdAt w b s) (hs : s.size ≤ maxLen) (n k : Nat) (hd : dnum s.data.toList = some (n, k)) :
    Calls Try.prog 42 #[.pointer (some ⟨b, 0, none⟩)] w fun e w' => e = .returned (.tuple #[.int .i64 (unfold n), .int .i64 0]) ∧ w' = w.setCell ⟨b, 0, none⟩ (.string (s.extract k s.size)) := by
  have hn := (dnum_some hd).1
  go_enter Try.func42, Try.ntmps42
  go_wp2_with (first | (go_at_call 25; refine (rNum_some b s _ hr hs n k hd).mono ?_; rintro e w' ⟨rfl, rfl⟩) | (go_at_call 50; refine (unfold_any n _ hn).mono ?_; rintro e w' ⟨rfl, rfl⟩))
  go_ret2
  exact ⟨rfl, rfl⟩

/-! ### The three that make a text of a list -/
end Go.Proofs.Ytjiajnmpdlaidaa.Pk
