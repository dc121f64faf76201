/-
  The texts TableCompare, BlockShare, BlockPut, BlockEncode, joined.
-/
import Derived.Test.YtedjohkdfchocaaPart7
import Derived.Lib.Bytealg
import Derived.Laws.Externs

/-
  Package table: 'compare' answers the order of two versions.
-/
namespace Go.Proofs.Ytedjohkdfchocaa.Tb
open Go.RowKit Cm Mm
open Go.Lib (compareBytes)
set_option linter.unusedVariables false

set_option maxHeartbeats 1000000 in
set_option maxRecDepth 100000 in
theorem cmpString_any (a b : ByteArray) (w : World) :
    Calls Try.prog 97 #[.string a, .string b] w fun e w' => e = .returned (.int .i64 (compareBytes a.data.toList b.data.toList)) ∧ w' = w := by
  go_enter Try.func97, Try.ntmps97
  go_wp2
  rw [run_callFunc_extern Try.func109 (by kernel_rfl) (by kernel_rfl) (by kernel_rfl) (e := Extern.BytealgCompare.compare) (by kernel_rfl), Lib.run_compareString]
  simp only [Result.andThen]
  rw [Oper.upon_value]
  go_wp2
  go_ret
  exact ⟨rfl, rfl⟩
set_option maxHeartbeats 1000000 in
theorem compare_any (a b : ByteArray) (w : World) :
    Calls Try.prog 81 #[.string a, .string b] w fun e w' => e = .returned (.int .i64 (compareBytes a.data.toList b.data.toList)) ∧ w' = w := by
  go_enter Try.func81, Try.ntmps81
  go_wp2_with (go_at_call 97; refine (cmpString_any _ _ _).mono ?_; rintro e w' ⟨rfl, rfl⟩)
  go_ret
  exact ⟨rfl, rfl⟩
theorem isNaN_any (x : Int) (w : World) : Calls Try.prog 98 #[.int .i64 x] w fun e w' => e = .returned (.bool false) ∧ w' = w := by
  go_enter Try.func98, Try.ntmps98
  go_wp2
  go_ret
  exact ⟨rfl, rfl⟩
def cI (x y : Int) : Int := if x < y then -1 else if y < x then 1 else 0
theorem cI_lt {x y : Int} (h : x < y) : cI x y = -1 := if_pos h
theorem cI_gt {x y : Int} (h : y < x) : cI x y = 1 := by unfold cI; rw [if_neg (by omega), if_pos h]
theorem cI_eq {x y : Int} (h1 : ¬ x < y) (h2 : ¬ y < x) : cI x y = 0 := by unfold cI; rw [if_neg h1, if_neg h2]
set_option maxHeartbeats 500000 in
theorem cmpInt_any (x y : Int) (w : World) : Calls Try.prog 82 #[.int .i64 x, .int .i64 y] w fun e w' => e = .returned (.int .i64 (cI x y)) ∧ w' = w := by
  by_cases h1 : x < y
  · have hd : decide (x < y) = true := decide_eq_true h1
    rw [cI_lt h1]
    go_enter Try.func82, Try.ntmps82
    go_wp2_with (go_at_call 98; refine (isNaN_any _ _).mono ?_; rintro e w1 ⟨rfl, rfl⟩)
    go_ret
    exact ⟨rfl, rfl⟩
  · have hd : decide (x < y) = false := decide_eq_false h1
    by_cases h2 : y < x
    · have hd2 : decide (y < x) = true := decide_eq_true h2
      rw [cI_gt h2]
      go_enter Try.func82, Try.ntmps82
      go_wp2_with (go_at_call 98; refine (isNaN_any _ _).mono ?_; rintro e w1 ⟨rfl, rfl⟩)
      go_ret
      exact ⟨rfl, rfl⟩
    · have hd2 : decide (y < x) = false := decide_eq_false h2
      rw [cI_eq h1 h2]
      go_enter Try.func82, Try.ntmps82
      go_wp2_with (go_at_call 98; refine (isNaN_any _ _).mono ?_; rintro e w1 ⟨rfl, rfl⟩)
      go_ret
      exact ⟨rfl, rfl⟩
def or2 (a b : Int) : Int := if a ≠ 0 then a else b
set_option maxRecDepth 100000 in
set_option maxHeartbeats 500000 in
theorem cmpOr_any (a b : Int) (g : Nat) (w : World) (h0 : w.cell? ⟨g, 0, none⟩ = some (.int .i64 a)) (h1 : w.cell? ⟨g, 1, none⟩ = some (.int .i64 b)) :
    Calls Try.prog 80 #[.slice (some ⟨g, 0, none⟩) 2 2] w fun e w' => e = .returned (.int .i64 (or2 a b)) ∧ w' = w := by
  have HL : Hid (∀ k : Nat, k < 2 → ∃ x : Int, w.cell? ⟨g, k, none⟩ = some (.int .i64 x) ∧ (k = 0 → x = a) ∧ (k = 1 → x = b)) := fun k hk => by
    rcases (show k = 0 ∨ k = 1 by omega) with rfl | rfl
    · exact ⟨a, h0, by simp, by simp⟩
    · exact ⟨b, h1, by simp, by simp⟩
  clear h0 h1
  go_enter Try.func80, Try.ntmps80
  go_wp2
  go_loop [8] (fun i => ∃ k : Nat, k ≤ 2 ∧ i = .int .i64 k ∧ Hid ((1 ≤ k → a = 0) ∧ (2 ≤ k → b = 0))) (fun i => 2 - (intOf i).toNat)
  case atStart => exact ⟨0, by omega, rfl, by show _ ∧ _; exact ⟨fun h => by omega, fun h => by omega⟩⟩
  case round =>
    obtain ⟨k, hk, rfl, HZ⟩ := hrel
    by_cases hlt : k < 2
    · obtain ⟨x, hx, hxr⟩ := HL.out k hlt
      have HX : Hid _ := hxr
      clear hxr
      have hk0 : (0 : Int) ≤ (k : Int) := by omega
      have hk1 : (k : Int) < 2 := by omega
      by_cases hx0 : x = 0
      · subst hx0
        have HN : Hid ((1 ≤ k + 1 → a = 0) ∧ (2 ≤ k + 1 → b = 0)) := by
          obtain ⟨z1, z2⟩ := HZ.out
          obtain ⟨y1, y2⟩ := HX.out
          refine ⟨fun _ => ?_, fun h => ?_⟩
          · by_cases hk0 : k = 0
            · exact (y1 hk0).symm
            · exact z1 (by omega)
          · exact (y2 (by omega)).symm
        go_wp2
        go_round
        case rel => exact ⟨k + 1, by omega, by go_num, HN⟩
        case measure => simp [intOf]; omega
      · have hne : (x == 0) = false := by simpa using hx0
        have HR : Hid (or2 a b = x) := by
          obtain ⟨z1, z2⟩ := HZ.out
          obtain ⟨y1, y2⟩ := HX.out
          show or2 a b = x
          unfold or2
          rcases (show k = 0 ∨ k = 1 by omega) with hk | hk
          · rw [← y1 hk, if_pos hx0]
          · rw [if_neg (by simp [z1 (by omega)]), ← y2 hk]
        go_wp2
        go_ret
        exact ⟨by rw [HR.out]; rfl, rfl⟩
    · obtain rfl : k = 2 := by omega
      have HR : Hid (or2 a b = 0) := by
        obtain ⟨z1, z2⟩ := HZ.out
        show or2 a b = 0
        simp [or2, z1, z2]
      go_wp2
      go_ret
      exact ⟨by rw [HR.out]; rfl, rfl⟩
theorem or_new (u : World) (a b : Int) (g : Nat) (hg : g = u.heap.size) :
    Calls Try.prog 80 #[.slice (some ⟨g, 0, none⟩) 2 2] (u.alloc (.cells #[.int .i64 a, .int .i64 b] 3)).drew fun e w' => e = .returned (.int .i64 (or2 a b)) ∧ w' = (u.alloc (.cells #[.int .i64 a, .int .i64 b] 3)).drew := by
  subst hg
  have e : (u.alloc (.cells #[.int .i64 a, .int .i64 b] 3)).drew.heap[u.heap.size]? = some (.cells #[.int .i64 a, .int .i64 b] 3 (0, 0)) := heap_alloc_new u _
  exact cmpOr_any a b u.heap.size _ (by rw [Joins.cell_of_block e]; rfl) (by rw [Joins.cell_of_block e]; rfl)
def cE (a b : En) : Int := or2 (compareBytes a.key.data.toList b.key.data.toList) (cI b.seq a.seq)
theorem cb_lt (a b : ByteArray) : lt a b = decide (compareBytes a.data.toList b.data.toList < 0) := by
  unfold lt
  rw [Od.less_iff]
  rw [Bk.bs_toList, Bk.bs_toList]
  rfl
theorem cE_lt (a b : En) : decide (cE a b < 0) = less a b := by
  unfold cE less En.ahead or2
  by_cases hk : a.key = b.key
  · rw [hk, Od.cb_self, if_pos rfl]
    simp only [ne_eq, not_true_eq_false, if_false]
    unfold cI
    by_cases h1 : b.seq < a.seq
    · simp [h1]
    · rw [if_neg h1]
      by_cases h2 : a.seq < b.seq
      · rw [if_pos h2]; simp [h1]
      · rw [if_neg h2]; simp [h1]
  · rw [if_neg hk, cb_lt]
    have h0 : compareBytes a.key.data.toList b.key.data.toList ≠ 0 := fun h => hk (by have := Od.cb_zero h; cases ha : a.key; cases hb : b.key; rw [ha, hb] at this; simpa using this)
    rw [if_pos h0]
def TwoAt (g : Nat) (a b : En) (w : World) : Prop :=
  w.cell? ⟨g, 0, none⟩ = some (.string a.key) ∧ w.cell? ⟨g, 1, none⟩ = some (.int .i64 a.seq) ∧ w.cell? ⟨g + 1, 0, none⟩ = some (.string b.key) ∧ w.cell? ⟨g + 1, 1, none⟩ = some (.int .i64 b.seq)
theorem two_new (w : World) (a b : En) : TwoAt w.heap.size a b ((w.alloc (entObj a)).alloc (entObj b)).drew := by
  have e1 : ((w.alloc (entObj a)).alloc (entObj b)).drew.heap[w.heap.size]? = some (entObj a) := (Below.heap_alloc _ _ _ (by simp)).trans (heap_alloc_new w _)
  have e2 : ((w.alloc (entObj a)).alloc (entObj b)).drew.heap[w.heap.size + 1]? = some (entObj b) := by
    have := heap_alloc_new (w.alloc (entObj a)) (entObj b)
    rw [show (w.alloc (entObj a)).heap.size = w.heap.size + 1 by simp] at this
    exact this
  obtain ⟨a0, a1, _⟩ := ent_cells e1
  obtain ⟨b0, b1, _⟩ := ent_cells e2
  exact ⟨a0, a1, b0, b1⟩
theorem two_alloc {g : Nat} {a b : En} {w : World} (h : TwoAt g a b w.drew) (o : Obj) : TwoAt g a b (w.alloc o).drew := by
  obtain ⟨g1, g2, g3, g4⟩ := h
  have f : ∀ a v, w.drew.cell? a = some v → (w.alloc o).drew.cell? a = some v := fun a v h => by
    have hl : a.block < w.heap.size := World.block_lt_of_cell? w _ h
    have : (w.alloc o).cell? a = w.cell? a := World.cell?_of_block (Below.heap_alloc _ _ _ hl)
    exact this.trans h
  exact ⟨f _ _ g1, f _ _ g2, f _ _ g3, f _ _ g4⟩
set_option maxRecDepth 100000 in
set_option maxHeartbeats 500000 in
theorem cmpE_any (a b : En) (w : World) :
    Calls Try.prog 55 #[env a, env b] w fun e w' => e = .returned (.int .i64 (cE a b)) ∧ Below w.heap.size w w' := by
  unfold cE env
  have HS : Hid _ := two_new w a b
  have HA : Hid (∀ o, TwoAt w.heap.size a b (((w.alloc (entObj a)).alloc (entObj b)).alloc o).drew) := fun o => two_alloc (two_new w a b) o
  unfold entObj at HS HA
  go_enter Try.func55, Try.ntmps55
  go_wp2_with fail
  obtain ⟨g1, g2, g3, g4⟩ := HS.out
  go_region_held3 (fun w' => w'.cell? ⟨w.heap.size, 0, none⟩ = some (.string a.key) ∧ w'.cell? ⟨w.heap.size, 1, none⟩ = some (.int .i64 a.seq) ∧ w'.cell? ⟨w.heap.size + 1, 0, none⟩ = some (.string b.key) ∧ w'.cell? ⟨w.heap.size + 1, 1, none⟩ = some (.int .i64 b.seq)) (first | exact ⟨by assumption, by assumption, by assumption, by assumption⟩ | exact HA.out _)
    ((first
      | (go_at_call 82; refine (cmpInt_any _ _ _).mono ?_; rintro e w1 ⟨rfl, rfl⟩)
      | (go_at_call 81; refine (compare_any _ _ _).mono ?_; rintro e w1 ⟨rfl, rfl⟩)
      | (go_at_call 80; refine (or_new _ _ _ _ (by simp)).mono ?_; rintro e w1 ⟨rfl, rfl⟩)))
  clear g1 g2 g3 g4 HA HS
  go_wp2
  go_ret
  exact ⟨rfl, ((((Below.refl _ _).alloc (Nat.le_refl _) _).alloc (by simp) _).alloc (by simp; omega) _).drew⟩
end Go.Proofs.Ytedjohkdfchocaa.Tb

/-
  Package block and the document's answer: what two texts share.
-/
namespace Go.Proofs.Ytedjohkdfchocaa.Bk
open Go.RowKit Cm Mm
set_option linter.unusedVariables false

theorem bs_at (a : ByteArray) (k : Nat) (h : k < a.size) : (bs a)[k]? = some a[k] := by
  unfold bs
  rw [List.getElem?_eq_getElem (by simpa using h)]; rfl
theorem share_stop {a b : ByteArray} {k : Nat} (h1 : k ≤ a.size) (h2 : k ≤ b.size) (h : ∀ j, j < k → (bs a)[j]? = (bs b)[j]?) (hs : k = a.size ∨ k = b.size ∨ (bs a)[k]? ≠ (bs b)[k]?) : share (bs a) (bs b) = k :=
  share_is (by rw [bs_len]; exact h1) (by rw [bs_len]; exact h2) h (by rw [bs_len, bs_len]; exact hs)
theorem more_alike {a b : ByteArray} {k : Nat} (h : ∀ j, j < k → (bs a)[j]? = (bs b)[j]?) (h1 : (bs a)[k]? = (bs b)[k]?) : ∀ j, j < k + 1 → (bs a)[j]? = (bs b)[j]? := fun j hj => by
  rcases Nat.lt_or_ge j k with h2 | h2
  · exact h j h2
  · obtain rfl : j = k := by omega
    exact h1
theorem ret_nat {a b : Nat} (h : a = b) : Ending.returned (.int .i64 (a : Int)) = .returned (.int .i64 (b : Int)) := by rw [h]
theorem byte_ne {x y : UInt8} (h : x ≠ y) : ((x.toNat : Int) == (y.toNat : Int)) = false := by
  rw [beq_eq_false_iff_ne]
  intro e
  exact h (UInt8.toNat_inj.1 (by omega))

set_option maxRecDepth 100000 in
set_option maxHeartbeats 1000000 in
theorem shared_any (a b : ByteArray) (w : World) (ha : a.size ≤ 1000000000000) (hb : b.size ≤ 1000000000000) :
    Calls Try.prog 99 #[.string a, .string b] w fun e w' => e = .returned (.int .i64 (share (bs a) (bs b) : Nat)) ∧ ∃ n, w' = w.drewN n := by
  rcases (show a.size ≤ b.size ∨ b.size < a.size by omega) with hm | hm
  all_goals
    go_enter Try.func99, Try.ntmps99
    go_wp2
    go_loopw [13] (fun i wr => ∃ k n : Nat, k ≤ a.size ∧ k ≤ b.size ∧ i = .int .i64 k ∧ Hid (∀ j, j < k → (bs a)[j]? = (bs b)[j]?) ∧ Hid (wr = w.drewN n)) (fun i _ => a.size - (intOf i).toNat)
    case atStart => exact ⟨0, 0, by omega, by omega, rfl, (fun j hj => by omega), rfl⟩
    case round =>
      obtain ⟨k, n, hk1, hk2, rfl, HP, HW⟩ := hrel
      have hwr := HW.out
      subst hwr
      by_cases hlt : k < a.size ∧ k < b.size
      · obtain ⟨h1, h2⟩ := hlt
        have q1 := bs_at a k h1
        have q2 := bs_at b k h2
        have hk0 : (0 : Int) ≤ (k : Int) := by omega
        have hk3 : (k : Int) < (a.size : Int) := by omega
        have hk4 : (k : Int) < (b.size : Int) := by omega
        by_cases he : a[k] = b[k]
        · have HN : Hid (∀ j, j < k + 1 → (bs a)[j]? = (bs b)[j]?) := more_alike HP.out (by rw [q1, q2, he])
          have hb1 : ((a[k].toNat : Int) == (b[k].toNat : Int)) = true := by rw [he]; simp
          clear q1 q2 HP HW he
          go_wp2_with fail
          go_quiet (fail)
          go_wp2
          go_roundw
          case rel => exact ⟨k + 1, _, by omega, by omega, by go_num, HN, hid_rfl⟩
          case measure => simp [intOf]; omega
        · have HN : Hid (k = share (bs a) (bs b)) := (share_stop hk1 hk2 HP.out (.inr (.inr (by rw [q1, q2]; simpa using he)))).symm
          have hb1 := byte_ne he
          clear q1 q2 HP HW he
          go_wp2_with fail
          go_quiet (fail)
          go_wp2
          go_ret
          exact ⟨ret_nat HN.out, _, World.drewN_drewN _ _ _⟩
      · have HN : Hid (share (bs a) (bs b) = k) := share_stop hk1 hk2 HP.out (by omega)
        clear HP HW
        go_wp2
        go_ret
        exact ⟨ret_nat (by rw [HN.out]; omega), _, rfl⟩
end Go.Proofs.Ytedjohkdfchocaa.Bk

/-
  Package block's writer: one number, whole number or text put by pack's writer; a version put.
-/
namespace Go.Proofs.Ytedjohkdfchocaa.Bk
open Go.RowKit Cm Mm
open Pk (WrAt RdAt Step enc enc_len fold text)
set_option linter.unusedVariables false

theorem same_quiet {f : Nat} {args : Array Value} {w : World} {n : Nat} {v : Value} (h : Calls Try.prog f args (w.drewN n) fun e w' => e = .returned v ∧ ∃ m, w' = (w.drewN n).drewN m) : Calls Try.prog f args (w.drewN n) fun e w' => e = .returned v ∧ ∃ m, w' = w.drewN m :=
  h.mono fun e w' ⟨h1, m, h2⟩ => ⟨h1, n + m, by rw [h2, World.drewN_drewN]⟩
theorem far {w : World} {base b k : Nat} {r : Option Nat} {bytes : List UInt8} {o : Obj} (h : WrAt w base b r bytes) (hk : w.heap[k]? = some o) (ho : ∀ cs, o ≠ .cells cs 5 (0, 0)) (ho' : ∀ cs, o ≠ .cells cs 144 (0, 0)) : k ≠ b ∧ some k ≠ r := by
  obtain ⟨v, hb, hown, rfl⟩ := h
  refine ⟨?_, ?_⟩
  · rintro rfl
    rw [hk] at hb
    exact ho' _ (by simpa using hb)
  · intro e
    exact rows_far hown hk ho e.symm
theorem row_new {w : World} {base b : Nat} {r : Option Nat} {bytes : List UInt8} (h : WrAt w base b r bytes) : some w.heap.size ≠ r := fun e => by
  have := (h.row_ge _ e.symm).2.1; omega
theorem step_alloc {b : Nat} {w w' : World} {r r' : Option Nat} {o : Obj} (h : Step b (w.alloc o) r w' r') : Step b w r w' r' := (Step.alloc b r w o).trans h

section
variable {base b : Nat} {r : Option Nat} {bytes : List UInt8} (W : World)
theorem put_num (n : Nat) (hw : WrAt W base b r bytes) (hn : n < 18446744073709551616) (hsz : bytes.length + 10 ≤ 140737488355328) (hbase : base ≤ W.heap.size) :
    Calls Try.prog 58 #[.pointer (some ⟨b, 0, none⟩), .slice (some ⟨W.heap.size, 0, none⟩) 1 1] (W.alloc (.cells #[.int .u64 n] 69)) fun e w' => e = .returned (.tuple #[]) ∧ ∃ r', WrAt w' base b r' (bytes ++ enc n) ∧ Step b W r w' r' := by
  have hc : ∀ j, j < [n].length → (W.alloc (.cells #[.int .u64 n] 69)).cell? ⟨W.heap.size, 0 + j, none⟩ = some (.int .u64 ([n].getD j 0)) := fun j hj => by
    obtain rfl : j = 0 := by simpa using hj
    rw [Joins.cell_of_block (heap_alloc_new W _)]; rfl
  refine (Pk.wNum_any base b W.heap.size 0 1 r bytes [n] _ (hw.alloc _) (by simpa using hn) hc (by have := hw.lt; omega) (row_new hw) (by simp) (by simpa using hsz) (by simp; omega)).mono ?_
  rintro e w' ⟨rfl, r', h1, h2⟩
  exact ⟨rfl, r', by simpa [Pk.nums] using h1, step_alloc h2⟩
theorem put_int (n : Int) (hw : WrAt W base b r bytes) (h1 : -9223372036854775808 ≤ n) (h2 : n ≤ 9223372036854775807) (hsz : bytes.length + 10 ≤ 140737488355328) (hbase : base ≤ W.heap.size) :
    Calls Try.prog 100 #[.pointer (some ⟨b, 0, none⟩), .slice (some ⟨W.heap.size, 0, none⟩) 1 1] (W.alloc (.cells #[.int .i64 n] 3)) fun e w' => e = .returned (.tuple #[]) ∧ ∃ r', WrAt w' base b r' (bytes ++ enc (fold n)) ∧ Step b W r w' r' := by
  have hc : ∀ j, j < [n].length → (W.alloc (.cells #[.int .i64 n] 3)).cell? ⟨W.heap.size, 0 + j, none⟩ = some (.int .i64 ([n].getD j 0)) := fun j hj => by
    obtain rfl : j = 0 := by simpa using hj
    rw [Joins.cell_of_block (heap_alloc_new W _)]; rfl
  refine (Pk.wInt_any base b W.heap.size 0 1 r bytes [n] _ (hw.alloc _) (by simpa using ⟨h1, h2⟩) hc (by have := hw.lt; omega) (row_new hw) (by simp) (by simpa using hsz) (by simp; omega)).mono ?_
  rintro e w' ⟨rfl, r', h1, h2⟩
  exact ⟨rfl, r', by simpa [Pk.ints] using h1, step_alloc h2⟩
theorem put_text (s : ByteArray) (hw : WrAt W base b r bytes) (hsz : bytes.length + s.size + 10 ≤ 140737488355328) (hbase : base ≤ W.heap.size) :
    Calls Try.prog 59 #[.pointer (some ⟨b, 0, none⟩), .slice (some ⟨W.heap.size, 0, none⟩) 1 1] (W.alloc (.cells #[.string s] 9)) fun e w' => e = .returned (.tuple #[]) ∧ ∃ r', WrAt w' base b r' (bytes ++ text (bs s)) ∧ Step b W r w' r' := by
  have hc : ∀ j, j < [s].length → (W.alloc (.cells #[.string s] 9)).cell? ⟨W.heap.size, 0 + j, none⟩ = some (.string ([s].getD j ByteArray.empty)) := fun j hj => by
    obtain rfl : j = 0 := by simpa using hj
    rw [Joins.cell_of_block (heap_alloc_new W _)]; rfl
  have hl := (text_len (bs s)).1
  rw [bs_len] at hl
  refine (Pk.wText_any base b W.heap.size 0 1 r bytes [s] _ (hw.alloc _) hc (by have := hw.lt; omega) (row_new hw) (by simp) ?_ ?_ (by simp [maxLen]) (by simp; omega)).mono ?_
  · intro k hk
    match k, hk with
    | 0, _ => simp [Pk.texts]; omega
    | 1, _ => simp [Pk.texts]; unfold bs at hl; omega
  · intro k hk
    match k, hk with
    | 0, _ => simp; omega
    | 1, _ => simp
  rintro e w' ⟨rfl, r', h1, h2⟩
  exact ⟨rfl, r', by simpa [Pk.texts, bs] using h1, step_alloc h2⟩
end

def bwObj (b : Nat) (L : ByteArray) : Obj := .cells #[.pointer (some ⟨b, 0, none⟩), .string L] 139 (0, 0)
/-- A writer of versions, block q over pack's writer b; a version's box g beside it; all from base on is its own. -/
structure VS (w : World) (base q b g : Nat) (L : ByteArray) (e : En) (r : Option Nat) (bytes : List UInt8) (X : World) : Prop where
  hq : X.heap[q]? = some (bwObj b L)
  hg : X.heap[g]? = some (entObj e)
  wr : WrAt X base b r bytes
  bel : Below base w X
section
variable {w X Y : World} {base q b g : Nat} {L : ByteArray} {e : En} {r r' : Option Nat} {bytes bytes' : List UInt8}
theorem VS.step (h : VS w base q b g L e r bytes X) (hb : base ≤ b) (hB : base ≤ w.heap.size) (hs : Step b X r Y r') (hw : WrAt Y base b r' bytes') : VS w base q b g L e r' bytes' Y := by
  have fq := far h.wr h.hq (fun cs e => by simp [bwObj] at e) (fun cs e => by simp [bwObj] at e)
  have fg := far h.wr h.hg (fun cs e => by simp [entObj] at e) (fun cs e => by simp [entObj] at e)
  refine ⟨(hs.kept.block q (lt_of_block h.hq) fq.1 fq.2).trans h.hq, (hs.kept.block g (lt_of_block h.hg) fg.1 fg.2).trans h.hg, hw, h.bel.trans (hs.below (Nat.le_trans hB h.bel.size) hb (fun k hk => (h.wr.row_ge k hk).1))⟩
theorem VS.drewN (h : VS w base q b g L e r bytes X) (n : Nat) : VS w base q b g L e r bytes (X.drewN n) := by
  refine ⟨h.hq, h.hg, h.wr.keep rfl (fun _ _ => rfl), ⟨h.bel.os, h.bel.tape, h.bel.output, h.bel.size, h.bel.block⟩⟩
theorem VS.cells (h : VS w base q b g L e r bytes X) : X.cell? ⟨q, 0, none⟩ = some (.pointer (some ⟨b, 0, none⟩)) ∧ X.cell? ⟨q, 1, none⟩ = some (.string L) ∧ X.cell? ⟨g, 0, none⟩ = some (.string e.key) ∧ X.cell? ⟨g, 1, none⟩ = some (.int .i64 e.seq) ∧ X.cell? ⟨g, 2, none⟩ = some (.bool e.dead) ∧ X.cell? ⟨g, 3, none⟩ = some (.string e.val) ∧ X.frozen? ⟨q, 1, none⟩ = false := by
  obtain ⟨h0, h1, h2, h3, _⟩ := ent_cells h.hg
  refine ⟨by rw [Joins.cell_of_block h.hq]; rfl, by rw [Joins.cell_of_block h.hq]; rfl, h0, h1, h2, h3, by simp [World.frozen?, h.hq, bwObj]⟩
theorem VS.size (h : VS w base q b g L e r bytes X) : w.heap.size ≤ X.heap.size := h.bel.size
end
/-- The writer alone. -/
structure WS (w : World) (base q b : Nat) (L : ByteArray) (r : Option Nat) (bytes : List UInt8) (X : World) : Prop where
  hq : X.heap[q]? = some (bwObj b L)
  wr : WrAt X base b r bytes
  bel : Below base w X
theorem VS.stored {w X : World} {base q b g : Nat} {L : ByteArray} {e : En} {r : Option Nat} {bytes : List UInt8} (h : VS w base q b g L e r bytes X) (hq : base ≤ q) (K : ByteArray) : WS w base q b K r bytes (X.setCell ⟨q, 1, none⟩ (.string K)) := by
  have fq := far h.wr h.hq (fun cs e => by simp [bwObj] at e) (fun cs e => by simp [bwObj] at e)
  refine ⟨?_, h.wr.keep (Below.heap_setCell _ _ _ _ (by simpa using fq.1.symm)) (fun k hk => Below.heap_setCell _ _ _ _ (by simp; rintro rfl; exact fq.2 hk.symm)), h.bel.setCell (by simpa using hq) _⟩
  have := Joins.block_setCell h.hq (i := 1) (.string K)
  simpa [bwObj] using this

theorem bs_rest (s : ByteArray) (k : Nat) : bs (s.extract k s.size) = (bs s).drop k := by
  unfold bs
  rw [Lib.extract_data, Lib.size_eq, List.take_of_length_le]
  simp
theorem enc0 : enc 0 = [0] := by decide +kernel
theorem enc1 : enc 1 = [1] := by decide +kernel
theorem piece_bytes {L : ByteArray} {e : En} {k : Nat} {R : ByteArray} {bytes : List UInt8} (hk : k = share (bs L) (bs e.key)) (hR : bs R = (bs e.key).drop k) :
    bytes ++ piece (bs L) e = (((bytes ++ enc k) ++ text (bs R)) ++ enc (fold e.seq)) ++ mark e.dead (bs e.val) := by
  subst hk
  have : bs (pc (bs L) e).rest = bs R := by rw [hR]; exact bs_mk _
  unfold piece Pc.bytes
  rw [this]
  simp only [List.append_assoc]
  rfl

set_option maxRecDepth 100000 in
set_option maxHeartbeats 2000000 in
theorem version_any (base q b : Nat) (L : ByteArray) (e : En) (r : Option Nat) (bytes : List UInt8) (w : World) (hq : w.heap[q]? = some (bwObj b L)) (hw : WrAt w base b r bytes) (hok : e.ok) (hL : L.size ≤ 1000000000000) (hK : e.key.size ≤ 1000000000000) (hV : e.val.size ≤ 1000000000000)
    (hsz : bytes.length + e.key.size + e.val.size + 60 ≤ 140737488355328) (hbase : base ≤ w.heap.size) (hbq : base ≤ q) (hbb : base ≤ b) :
    Calls Try.prog 85 #[.pointer (some ⟨q, 0, none⟩), env e] w fun x w' => x = .returned (.tuple #[]) ∧ ∃ r', WS w base q b e.key r' (bytes ++ piece (bs L) e) w' := by
  obtain ⟨k, hk⟩ : ∃ k, k = share (bs L) (bs e.key) := ⟨_, rfl⟩
  have hkl : k ≤ e.key.size := by have := (share_le (bs L) (bs e.key)).2; rw [bs_len] at this; omega
  obtain ⟨R, hR⟩ : ∃ R, R = e.key.extract k e.key.size := ⟨_, rfl⟩
  have hRb : bs R = (bs e.key).drop k := by rw [hR, bs_rest]
  have hRs : R.size ≤ e.key.size := by rw [← bs_len, hRb, List.length_drop, bs_len]; omega
  have HF : Hid _ := piece_bytes (bytes := bytes) hk hRb
  have HSh : Hid (∀ wq, Calls Try.prog 99 #[.string L, .string e.key] wq fun x w' => x = .returned (.int .i64 (k : Nat)) ∧ ∃ n, w' = wq.drewN n) := fun wq => by rw [hk]; exact shared_any L e.key wq hL hK
  have HR : Hid (e.key.extract k e.key.size = R) := hR.symm
  have hlq := lt_of_block hq
  have V0 : VS w base q b w.heap.size L e r bytes (w.alloc (entObj e)) := ⟨(Below.heap_alloc _ _ _ hlq).trans hq, heap_alloc_new w _, hw.alloc _, (Below.refl _ _).alloc hbase _⟩
  have HV0 : Hid _ := V0
  unfold entObj at HV0
  have he1 := hok.1
  have he2 := hok.2
  have hel := (enc_len k).2
  have htl := (text_len (bs R)).1
  rw [bs_len] at htl
  have hfl := (enc_len (fold e.seq)).2
  have hkr1 : (0 : Int) ≤ (k : Int) := by omega
  have hkr2 : (k : Int) ≤ (e.key.size : Int) := by omega
  clear hk hR hRb V0
  unfold env
  go_enter Try.func85, Try.ntmps85
  obtain ⟨c0, c1, d0, d1, d2, d3, _⟩ := HV0.out.cells
  go_wp2_with fail
  go_quiet ((go_at_call 99; exact same_quiet (HSh.out _)))
  obtain ⟨w1, hw1⟩ : ∃ w1, w1 = (w.alloc (.cells #[.string e.key, .int .i64 e.seq, .bool e.dead, .string e.val] 44)).drewN nq := ⟨_, rfl⟩
  have HV1 : Hid (VS w base q b w.heap.size L e r bytes w1) := by rw [hw1]; exact HV0.out.drewN nq
  rw [← hw1]
  clear hw1 HV0 c0 c1 d0 d1 d2 d3 HSh
  obtain ⟨c0, c1, d0, d1, d2, d3, _⟩ := HV1.out.cells
  go_wp2_with fail
  refine (put_num _ k HV1.out.wr (by omega) (by omega) (Nat.le_trans hbase HV1.out.size)).mono ?_
  rintro x w2 ⟨rfl, r2, hw2, hs2⟩
  have HV2 : Hid (VS w base q b w.heap.size L e r2 (bytes ++ enc k) w2) := HV1.out.step hbb hbase hs2 hw2
  clear hw2 hs2 HV1 c0 c1 d0 d1 d2 d3
  obtain ⟨c0, c1, d0, d1, d2, d3, _⟩ := HV2.out.cells
  go_wp2_with fail
  have HP3 : Hid (Calls Try.prog 59 #[.pointer (some ⟨b, 0, none⟩), .slice (some ⟨w2.heap.size, 0, none⟩) 1 1] (w2.drew.alloc (.cells #[.string (e.key.extract k e.key.size)] 9)) fun x w' => x = .returned (.tuple #[]) ∧ ∃ r', VS w base q b w.heap.size L e r' (bytes ++ enc k ++ text (bs R)) w') := by
    rw [HR.out]
    exact (put_text w2.drew R (HV2.out.drewN 1).wr (by simp; omega) (Nat.le_trans hbase HV2.out.size)).mono fun x w' ⟨h1, r', h2, h3⟩ => ⟨h1, r', (HV2.out.drewN 1).step hbb hbase h3 h2⟩
  go_region_held3 (fun w' => w'.cell? ⟨q, 0, none⟩ = some (.pointer (some ⟨b, 0, none⟩)) ∧ w'.cell? ⟨w.heap.size, 0, none⟩ = some (.string e.key)) (first | with_reducible exact ⟨c0, d0⟩ | exact ⟨c0, d0⟩ | exact ⟨hv3.cells.1, hv3.cells.2.2.1⟩ | go_keep)
    ((go_at_call 59; refine (show Calls _ _ _ _ _ from HP3.out).mono ?_; rintro x w3 ⟨rfl, r3, hv3⟩))
  have HV3 : Hid _ := hv3
  clear hv3 HP3 HV2 HR c0 c1 d0 d1 d2 d3
  obtain ⟨c0, c1, d0, d1, d2, d3, _⟩ := HV3.out.cells
  go_wp2_with fail
  have HP4 : Hid (Calls Try.prog 100 #[.pointer (some ⟨b, 0, none⟩), .slice (some ⟨w3.heap.size, 0, none⟩) 1 1] (w3.drew.alloc (.cells #[.int .i64 e.seq] 3)) fun x w' => x = .returned (.tuple #[]) ∧ ∃ r', VS w base q b w.heap.size L e r' (bytes ++ enc k ++ text (bs R) ++ enc (fold e.seq)) w') :=
    (put_int w3.drew e.seq (HV3.out.drewN 1).wr he1 he2 (by simp; omega) (Nat.le_trans hbase HV3.out.size)).mono fun x w' ⟨h1, r', h2, h3⟩ => ⟨h1, r', (HV3.out.drewN 1).step hbb hbase h3 h2⟩
  go_region_held3 (fun w' => w'.cell? ⟨q, 0, none⟩ = some (.pointer (some ⟨b, 0, none⟩)) ∧ w'.cell? ⟨w.heap.size, 1, none⟩ = some (.int .i64 e.seq)) (first | with_reducible exact ⟨c0, d1⟩ | exact ⟨c0, d1⟩ | exact ⟨hv4.cells.1, hv4.cells.2.2.2.1⟩ | go_keep)
    ((go_at_call 100; refine (show Calls _ _ _ _ _ from HP4.out).mono ?_; rintro x w4 ⟨rfl, r4, hv4⟩))
  have HV4 : Hid _ := hv4
  have hl4 : (bytes ++ enc k ++ text (bs R) ++ enc (fold e.seq)).length ≤ bytes.length + e.key.size + 30 := by simp; omega
  generalize bytes ++ enc k ++ text (bs R) ++ enc (fold e.seq) = bytes4 at *
  clear hv4 HP4 HV3 c0 c1 d0 d1 d2 d3
  obtain ⟨c0, c1, d0, d1, d2, d3, _⟩ := HV4.out.cells
  cases hd : e.dead
  · rw [hd] at d2 HF
    go_wp2_with fail
    refine (put_num _ 0 HV4.out.wr (by omega) (by omega) (Nat.le_trans hbase HV4.out.size)).mono ?_
    rintro x w5 ⟨rfl, r5, hw5, hs5⟩
    have HV5 : Hid (VS w base q b w.heap.size L e r5 (bytes4 ++ enc 0) w5) := HV4.out.step hbb hbase hs5 hw5
    clear hw5 hs5 HV4 c0 c1 d0 d1 d2 d3
    obtain ⟨c0, c1, d0, d1, d2, d3, _⟩ := HV5.out.cells
    have HP6 : Hid (Calls Try.prog 59 #[.pointer (some ⟨b, 0, none⟩), .slice (some ⟨w5.heap.size, 0, none⟩) 1 1] (w5.drew.alloc (.cells #[.string e.val] 9)) fun x w' => x = .returned (.tuple #[]) ∧ ∃ r', VS w base q b w.heap.size L e r' (bytes4 ++ enc 0 ++ text (bs e.val)) w') :=
      (put_text w5.drew e.val (HV5.out.drewN 1).wr (by rw [enc0]; simp; omega) (Nat.le_trans hbase HV5.out.size)).mono fun x w' ⟨h1, r', h2, h3⟩ => ⟨h1, r', (HV5.out.drewN 1).step hbb hbase h3 h2⟩
    go_wp2_with fail
    go_region_held3 (fun w' => w'.cell? ⟨q, 0, none⟩ = some (.pointer (some ⟨b, 0, none⟩)) ∧ w'.cell? ⟨w.heap.size, 3, none⟩ = some (.string e.val)) (first | with_reducible exact ⟨c0, d3⟩ | exact ⟨c0, d3⟩ | exact ⟨hv6.cells.1, hv6.cells.2.2.2.2.2.1⟩ | go_keep)
      ((go_at_call 59; refine (show Calls _ _ _ _ _ from HP6.out).mono ?_; rintro x w6 ⟨rfl, r6, hv6⟩))
    have HE : Hid _ := hv6.stored hbq e.key
    obtain ⟨c0, c1, d0, d1, d2, d3, f1⟩ := hv6.cells
    clear hv6 HP6 HV5
    go_wp2
    go_end0
    refine ⟨rfl, r6, ?_⟩
    rw [HF.out]
    have := HE.out
    rw [List.append_assoc, enc0] at this
    exact this
  · rw [hd] at d2 HF
    go_wp2_with fail
    refine (put_num _ 1 HV4.out.wr (by omega) (by omega) (Nat.le_trans hbase HV4.out.size)).mono ?_
    rintro x w5 ⟨rfl, r5, hw5, hs5⟩
    have hv5 : VS w base q b w.heap.size L e r5 (bytes4 ++ enc 1) w5 := HV4.out.step hbb hbase hs5 hw5
    clear hw5 hs5 HV4 c0 c1 d0 d1 d2 d3
    have HE : Hid _ := hv5.stored hbq e.key
    obtain ⟨c0, c1, d0, d1, d2, d3, f1⟩ := hv5.cells
    clear hv5
    go_wp2
    go_end0
    refine ⟨rfl, r5, ?_⟩
    rw [HF.out]
    have := HE.out
    rw [enc1] at this
    exact this

end Go.Proofs.Ytedjohkdfchocaa.Bk

/-
  Package block: what Encode answers, for every list.
-/
namespace Go.Proofs.Ytedjohkdfchocaa.Bk
open Go.RowKit Cm Mm
open Pk (WrAt RdAt Step enc enc_len fold text)
set_option linter.unusedVariables false

/-- What is answered: the block, or that the versions aren't right. -/
def encV (es : List En) : Value := if right es then .tuple #[.string ⟨(block es).toArray⟩, .int .i64 0] else .tuple #[.string ⟨#[]⟩, .int .i64 9]
/-- The list is of a size that the calls here are asked for. -/
structure Sized (es : List En) : Prop where
  few : es.length ≤ 100000000000
  all : (block es).length ≤ 100000000000000
  each : ∀ k, (es.getD k En.zero).key.size ≤ 1000000000000 ∧ (es.getD k En.zero).val.size ≤ 1000000000000
theorem lastK (es : List En) (k : Nat) (h : k < es.length) : (⟨(lastKey [] (es.take (k + 1))).toArray⟩ : ByteArray) = (es.getD k En.zero).key := by
  apply bs_inj
  rw [bs_mk, take_at h, lastKey_snoc]
theorem bodyK (es : List En) (k : Nat) (h : k < es.length) : body [] (es.take (k + 1)) = body [] (es.take k) ++ piece (lastKey [] (es.take k)) (es.getD k En.zero) := by
  rw [take_at h, body_snoc]
theorem body_take (es : List En) (k : Nat) : (body [] (es.take k)).length ≤ (body [] es).length := by
  have : body [] es = body [] (es.take k) ++ body (lastKey [] (es.take k)) (es.drop k) := by rw [← body_append, List.take_append_drop]
  rw [this, List.length_append]; omega
theorem last_len {es : List En} (h : Sized es) (k : Nat) : (⟨(lastKey [] (es.take k)).toArray⟩ : ByteArray).size ≤ 1000000000000 := by
  cases k with
  | zero => show 0 ≤ _; omega
  | succ k =>
    by_cases hk : k < es.length
    · rw [lastK es k hk]; exact (h.each k).1
    · rcases Nat.eq_zero_or_pos es.length with h0 | h0
      · have : es = [] := List.eq_nil_of_length_eq_zero h0
        subst this; show 0 ≤ _; omega
      · rw [List.take_of_length_le (by omega), lastKey_last h0]
        rw [← bs_len, bs_mk, bs_len]; exact (h.each _).1
theorem WS.later {w X Y : World} {base q b : Nat} {L : ByteArray} {r : Option Nat} {bytes : List UInt8} (h : WS w base q b L r bytes X) (hb : Below X.heap.size X Y) (hB : base ≤ X.heap.size) : WS w base q b L r bytes Y :=
  ⟨(hb.block _ (lt_of_block h.hq)).trans h.hq, h.wr.keep (hb.block _ h.wr.lt) (fun k hk => hb.block _ (h.wr.row_ge k hk).2.1), h.bel.trans (hb.mono hB)⟩
theorem WS.again {w v X : World} {base q b : Nat} {L : ByteArray} {r : Option Nat} {bytes : List UInt8} (h : WS v base q b L r bytes X) (hb : Below base w v) : WS w base q b L r bytes X := ⟨h.hq, h.wr, hb.trans h.bel⟩

set_option maxRecDepth 100000 in
set_option maxHeartbeats 2000000 in
theorem encode_any (ao : Option Addr) (ca : Nat) (es : List En) (w : World) (hx : ElemsAt enShape w ao es) (hok : AllOk es) (hs : Sized es) :
    Calls Try.prog 56 #[.slice ao es.length ca] w fun e w' => e = .returned (encV es) ∧ Below w.heap.size w w' := by
  have HX : Hid (∀ wr, Below w.heap.size w wr → ElemsAt enShape wr ao es) := fun wr hb => hx.later hb
  have HOK : Hid (∀ k, k < es.length → (es.getD k En.zero).ok) := fun k hk => by rw [getD_lt _ _ _ hk]; exact hok _ (List.getElem_mem hk)
  have HSZ : Hid (Sized es) := hs
  have hfew := hs.few
  clear hx hok hs
  go_enter Try.func56, Try.ntmps56
  go_wp2_with fail
  refine (Pk.new_any _ 0 (Nat.zero_le _)).mono ?_
  rintro e w1 ⟨rfl, rfl⟩
  obtain ⟨w2, hw2⟩ : ∃ w2, w2 = (w.alloc (.cells #[.slice none 0 0] 144)).alloc (.cells #[.pointer (some ⟨w.heap.size, 0, none⟩), .string ⟨#[]⟩] 139) := ⟨_, rfl⟩
  have HW2 : Hid (WS w w.heap.size (w.heap.size + 1) w.heap.size ⟨#[]⟩ none [] w2) := by
    rw [hw2]
    refine ⟨?_, (Pk.new_wr w w.heap.size).alloc _, ((Below.refl _ _).alloc (Nat.le_refl _) _).alloc (by simp) _⟩
    have := heap_alloc_new (w.alloc (.cells #[.slice none 0 0] 144)) (bwObj w.heap.size ⟨#[]⟩)
    simpa [bwObj] using this
  have HZ2 : Hid (w2.heap.size = w.heap.size + 2) := by show _ = _; rw [hw2]; simp
  have hP := put_num w2 es.length HW2.out.wr (by omega) (by simp) (by have := HZ2.out; omega)
  rw [HZ2.out] at hP
  have HP : Hid _ := hP
  clear hP
  go_wp2_with fail
  rw [← hw2]
  refine (show Calls _ _ _ _ _ from HP.out).mono ?_
  rintro e w3 ⟨rfl, r3, hw3, hs3⟩
  have hw3' : WS w w.heap.size (w.heap.size + 1) w.heap.size ⟨#[]⟩ r3 (enc es.length) w3 := by
    have f := far HW2.out.wr HW2.out.hq (fun cs e => by simp [bwObj] at e) (fun cs e => by simp [bwObj] at e)
    refine ⟨(hs3.kept.block _ (lt_of_block HW2.out.hq) f.1 f.2).trans HW2.out.hq, by simpa using hw3, HW2.out.bel.trans (hs3.below (by have := HZ2.out; omega) (Nat.le_refl _) (fun k hk => by cases hk))⟩
  have HW3 : Hid _ := hw3'
  clear hw3' hw3 hs3 HP HW2 HZ2 hw2
  go_wp2
  go_loopw [21] (fun i wr => ∃ (k : Nat) (r : Option Nat), k ≤ es.length ∧ i = .int .i64 k ∧ Hid (RightTo es k) ∧ Hid (WS w w.heap.size (w.heap.size + 1) w.heap.size ⟨(lastKey [] (es.take k)).toArray⟩ r (enc es.length ++ body [] (es.take k)) wr)) (fun i _ => es.length - (intOf i).toNat)
  case atStart => exact ⟨0, r3, by omega, rfl, (fun i hi => by omega), by simpa [Hid, body, lastKey] using HW3.out⟩
  case round =>
    obtain ⟨k, r, hk, rfl, HR, HW⟩ := hrel
    by_cases hlt : k < es.length
    · obtain ⟨pb, off, rfl, c0, c1, c2, c3⟩ := elem_cells (HX.out wr HW.out.bel) hlt
      have hbs := HW.out.bel.size
      have HN : Hid (¬ (sound (es.getD k En.zero) = true ∧ (0 < k → less (es.getD (k - 1) En.zero) (es.getD k En.zero) = true)) → encV es = .tuple #[.string ⟨#[]⟩, .int .i64 9]) := fun h => by unfold encV; rw [not_right hlt h]; rfl
      have HY : Hid (sound (es.getD k En.zero) = true → (0 < k → less (es.getD (k - 1) En.zero) (es.getD k En.zero) = true) → RightTo es (k + 1)) := fun h1 h2 => HR.out.next h1 h2
      have HV : Hid (∀ X, Below wr.heap.size wr X → Calls Try.prog 85 #[.pointer (some ⟨w.heap.size + 1, 0, none⟩), env (es.getD k En.zero)] X fun x w' => x = .returned (.tuple #[]) ∧ ∃ r', WS w w.heap.size (w.heap.size + 1) w.heap.size ⟨(lastKey [] (es.take (k + 1))).toArray⟩ r' (enc es.length ++ body [] (es.take (k + 1))) w') := fun X hX => by
        have h1 := HW.out.later hX hbs
        have hz := HSZ.out.each k
        have hb1 := body_take es (k + 1)
        have hb2 := HSZ.out.all
        have hb3 := body_take es k
        unfold block at hb2
        rw [List.length_append] at hb2
        refine (version_any w.heap.size (w.heap.size + 1) w.heap.size _ (es.getD k En.zero) r _ X h1.hq h1.wr (HOK.out k hlt) (last_len HSZ.out k) hz.1 hz.2 (by rw [List.length_append]; omega) h1.bel.size (by omega) (Nat.le_refl _)).mono ?_
        rintro x w' ⟨rfl, r', h2⟩
        refine ⟨rfl, r', ?_⟩
        rw [lastK es k hlt, bodyK es k hlt, ← List.append_assoc]
        rw [bs_mk] at h2
        exact h2.again h1.bel
      have HS : Hid (∀ X, Calls Try.prog 83 #[env (es.getD k En.zero)] X fun x w' => x = .returned (.bool (sound (es.getD k En.zero))) ∧ Below X.heap.size X w') := fun X => (sound_any _ X).mono fun x w' ⟨h1, h2⟩ => ⟨h1, by rw [h2]; exact (Below.refl _ _).alloc (Nat.le_refl _) _⟩
      have hk0 : (0 : Int) ≤ (k : Int) := by omega
      have hk1 : (k : Int) < (es.length : Int) := by omega
      have HB : Hid (Below w.heap.size w wr) := HW.out.bel
      clear HR HW HSZ HOK HW3
      have HN5 : Hid (Below wr.heap.size wr (wr.alloc (entObj (es.getD k En.zero))) ∧ (wr.alloc (entObj (es.getD k En.zero))).heap[wr.heap.size]? = some (entObj (es.getD k En.zero)) ∧ wr.heap.size < (wr.alloc (entObj (es.getD k En.zero))).heap.size) := ⟨(Below.refl _ _).alloc (Nat.le_refl _) _, heap_alloc_new wr _, by simp⟩
      have HQ : Hid (∀ w5, Below wr.heap.size wr w5 ∧ w5.heap[wr.heap.size]? = some (entObj (es.getD k En.zero)) ∧ wr.heap.size < w5.heap.size → ∀ X, Below w5.heap.size w5 X → (Below wr.heap.size wr X ∧ X.heap[wr.heap.size]? = some (entObj (es.getD k En.zero)) ∧ wr.heap.size < X.heap.size)) := fun w5 ⟨a1, a2, a3⟩ X hX => ⟨a1.trans (hX.mono a1.size), (hX.block _ a3).trans a2, Nat.lt_of_lt_of_le a3 hX.size⟩
      by_cases hso : sound (es.getD k En.zero) = true
      · rw [hso] at HS
        by_cases hk2 : 0 < k
        · obtain ⟨j, hj⟩ : ∃ j, j + 1 = k := ⟨k - 1, by omega⟩
          have hjk : IntKind.i64.wrap ((k : Int) - 1) = (j : Int) := wrap_nat (by omega) (by omega)
          have hjl : j < es.length := by omega
          have ej : k - 1 = j := by omega
          rw [ej] at HN HY
          have HL : Hid (∀ X, Calls Try.prog 84 #[env (es.getD j En.zero), env (es.getD k En.zero)] X fun x w' => x = .returned (.bool (less (es.getD j En.zero) (es.getD k En.zero))) ∧ Below X.heap.size X w') := fun X => rises_any _ _ X
          obtain ⟨pb2, off2, ea, b0, b1, b2, b3⟩ := elem_cells (HX.out wr HB.out) hjl
          cases ea
          have HE : Hid (∀ X, Below wr.heap.size wr X → X.cell? ⟨pb, off + j * 4, none⟩ = some (.string (es.getD j En.zero).key) ∧ X.cell? ⟨pb, off + j * 4 + 1, none⟩ = some (.int .i64 (es.getD j En.zero).seq) ∧ X.cell? ⟨pb, off + j * 4 + 2, none⟩ = some (.bool (es.getD j En.zero).dead) ∧ X.cell? ⟨pb, off + j * 4 + 3, none⟩ = some (.string (es.getD j En.zero).val)) := fun X hX => by
            obtain ⟨p1, o1, e1, q⟩ := elem_cells (HX.out X (HB.out.trans (hX.mono hbs))) hjl
            cases e1
            exact q
          have hkz : decide ((0 : Int) < (k : Int)) = true := by simp; omega
          have hkz2 : decide (0 < k) = true := by simp; omega
          have hk3 : (0 : Int) ≤ (j : Int) := by omega
          have hk4 : (j : Int) < (es.length : Int) := by omega
          clear ej hj HX hk2
          have HY' : Hid (less (es.getD j En.zero) (es.getD k En.zero) = true → RightTo es (k + 1)) := fun h => HY.out hso (fun _ => h)
          have HN' : Hid (less (es.getD j En.zero) (es.getD k En.zero) = false → encV es = .tuple #[.string ⟨#[]⟩, .int .i64 9]) := fun h => HN.out (fun q => by have := q.2 (by simpa using hkz2); rw [h] at this; cases this)
          clear HN HY hso
          unfold env at HS HV HL
          generalize es.getD k En.zero = y at *
          generalize es.getD j En.zero = z at *
          generalize less z y = B at *
          unfold entObj at HN5 HQ
          go_wp2_with fail
          obtain ⟨w5, hw5⟩ : ∃ w5, w5 = wr.alloc (.cells #[.string y.key, .int .i64 y.seq, .bool y.dead, .string y.val] 44) := ⟨_, rfl⟩
          rw [← hw5] at HN5 ⊢
          clear hw5 b0 b1 b2 b3
          obtain ⟨n0, n1, n2, n3, _⟩ := ent_cells HN5.out.2.1
          obtain ⟨b0, b1, b2, b3⟩ := HE.out w5 HN5.out.1
          have HQ5 : Hid _ := HQ.out w5.drew ⟨HN5.out.1.drew, HN5.out.2.1, HN5.out.2.2⟩
          go_region_held3 (fun w' => w'.cell? ⟨wr.heap.size, 0, none⟩ = some (.string y.key) ∧ w'.cell? ⟨wr.heap.size, 1, none⟩ = some (.int .i64 y.seq) ∧ w'.cell? ⟨wr.heap.size, 2, none⟩ = some (.bool y.dead) ∧ w'.cell? ⟨wr.heap.size, 3, none⟩ = some (.string y.val) ∧ w'.cell? ⟨pb, off + j * 4, none⟩ = some (.string z.key) ∧ w'.cell? ⟨pb, off + j * 4 + 1, none⟩ = some (.int .i64 z.seq) ∧ w'.cell? ⟨pb, off + j * 4 + 2, none⟩ = some (.bool z.dead) ∧ w'.cell? ⟨pb, off + j * 4 + 3, none⟩ = some (.string z.val)) (first | with_reducible exact ⟨n0, n1, n2, n3, b0, b1, b2, b3⟩ | exact ⟨n0, n1, n2, n3, b0, b1, b2, b3⟩ | exact ⟨p0, p1, p2, p3, p4, p5, p6, p7⟩ | exact ⟨m0, m1, m2, m3, m4, m5, m6, m7⟩)
            (first
              | (go_at_call 83; refine (show Calls _ _ _ _ _ from HS.out _).mono ?_; rintro x w6 ⟨rfl, hb6⟩; have hq6 := HQ5.out w6 hb6; obtain ⟨m0, m1, m2, m3, _⟩ := ent_cells hq6.2.1; obtain ⟨m4, m5, m6, m7⟩ := HE.out w6 hq6.1)
              | (go_at_call 84; refine (show Calls _ _ _ _ _ from HL.out _).mono ?_; rintro x w7 ⟨rfl, hb7⟩; have hq7 := HQ.out w6 hq6 w7 hb7; obtain ⟨p0, p1, p2, p3, _⟩ := ent_cells hq7.2.1; obtain ⟨p4, p5, p6, p7⟩ := HE.out w7 hq7.1))
          have HQ7 : Hid _ := hq7
          have HV7 : Hid _ := HV.out w7 HQ7.out.1
          clear hq7 hb7 hq6 hb6 HQ5 HS HQ HN5 HL HE n0 n1 n2 n3 m0 m1 m2 m3 m4 m5 m6 m7 HV b0 b1 b2 b3 c0 c1 c2 c3
          cases B
          · have HR : Hid _ := HN'.out rfl
            clear HN' HY' HV7
            go_wp2
            go_ret2
            exact ⟨by rw [HR.out]; rfl, HB.out.trans (HQ7.out.1.mono hbs)⟩
          · have HY1 : Hid _ := HY'.out rfl
            clear HN' HY'
            go_wp2_with (go_at_call 85; refine (show Calls _ _ _ _ _ from HV7.out).mono ?_; rintro x w8 ⟨rfl, hv8⟩)
            obtain ⟨r8, hv8⟩ := hv8
            go_roundw
            case rel => exact ⟨k + 1, r8, by omega, by go_num, HY1, hv8⟩
            case measure => simp [intOf]; omega
        · have HY1 : Hid _ := HY.out hso (fun h => absurd h hk2)
          obtain rfl : k = 0 := by omega
          clear HN HY HX hso hk2
          rw [Nat.zero_mul, Nat.add_zero] at c0 c1 c2 c3
          have hl0 : (0 : Int) < (es.length : Int) := by omega
          unfold env at HS HV
          generalize es.getD 0 En.zero = y at *
          unfold entObj at HN5 HQ
          go_wp2_with fail
          obtain ⟨w5, hw5⟩ : ∃ w5, w5 = wr.alloc (.cells #[.string y.key, .int .i64 y.seq, .bool y.dead, .string y.val] 44) := ⟨_, rfl⟩
          rw [← hw5] at HN5 ⊢
          clear hw5
          obtain ⟨n0, n1, n2, n3, _⟩ := ent_cells HN5.out.2.1
          have HQ5 : Hid _ := HQ.out w5.drew ⟨HN5.out.1.drew, HN5.out.2.1, HN5.out.2.2⟩
          refine wp_region_held_drew (S := (fun w' => w'.cell? ⟨wr.heap.size, 0, none⟩ = some (.string y.key) ∧ w'.cell? ⟨wr.heap.size, 1, none⟩ = some (.int .i64 y.seq) ∧ w'.cell? ⟨wr.heap.size, 2, none⟩ = some (.bool y.dead) ∧ w'.cell? ⟨wr.heap.size, 3, none⟩ = some (.string y.val))) (by kernel_rfl) ⟨n0, n1, n2, n3⟩ (fun hHeld => ?_)
          refine wpAnyH_take (i := 0) (v := .agg #[.string y.key, .int .i64 y.seq, .bool y.dead, .string y.val]) rfl (by kernel_rfl) (by kernel_rfl) (by kernel_rfl) (fun _ _ _ h => h) (Or.inl ⟨by rfl, ?_⟩) hHeld ?_
          · intro w hSw; go_split_ands; go_simp
          simp only [List.getElem_toArray, List.getElem_cons_zero, Act.put, List.setIfInBounds_toArray, List.set_cons_zero, List.set_cons_succ]
          refine wpAnyH_ready (rs := [1]) (by kernel_rfl) (by simp) (AllReadyH.cons rfl (fun K hK => ?_) AllReadyH.nil)
          go_simp
          refine (show Calls _ _ _ _ _ from HS.out _).mono ?_
          rintro x w6 ⟨rfl, hb6⟩
          have hq6 := HQ5.out w6 hb6
          obtain ⟨m0, m1, m2, m3, _⟩ := ent_cells hq6.2.1
          refine hK.out _ _ ⟨m0, m1, m2, m3⟩ (fun hHeld => ?_)
          clear hK K
          refine wpAnyH_take (i := 2) (v := .bool false) rfl (by kernel_rfl) (by kernel_rfl) (by kernel_rfl) (fun _ _ _ h => h) (Or.inl ⟨by rfl, ?_⟩) hHeld ?_
          · intro w hSw; go_split_ands; go_simp
          simp only [List.getElem_toArray, List.getElem_cons_zero, List.getElem_cons_succ, Act.put, List.setIfInBounds_toArray, List.set_cons_zero, List.set_cons_succ]
          refine wpAnyH_take (i := 3) (v := .bool false) rfl (by kernel_rfl) (by kernel_rfl) (by kernel_rfl) (fun _ _ _ h => h) (Or.inl ⟨by rfl, ?_⟩) hHeld ?_
          · intro w hSw; go_split_ands; go_simp
          simp only [List.getElem_toArray, List.getElem_cons_zero, List.getElem_cons_succ, Act.put, List.setIfInBounds_toArray, List.set_cons_zero, List.set_cons_succ]
          refine wpAnyH_take (i := 4) (v := .int .i64 0) rfl (by kernel_rfl) (by kernel_rfl) (by kernel_rfl) (fun _ _ _ h => h) (Or.inl ⟨by rfl, ?_⟩) hHeld ?_
          · intro w hSw; go_split_ands; go_simp
          simp only [List.getElem_toArray, List.getElem_cons_zero, List.getElem_cons_succ, Act.put, List.setIfInBounds_toArray, List.set_cons_zero, List.set_cons_succ]
          refine wpAnyH_take (i := 5) (v := .bool false) rfl (by kernel_rfl) (by kernel_rfl) (by kernel_rfl) (fun _ _ _ h => h) (Or.inl ⟨by rfl, ?_⟩) hHeld ?_
          · intro w hSw; go_split_ands; go_simp
          simp only [List.getElem_toArray, List.getElem_cons_zero, List.getElem_cons_succ, Act.put, List.setIfInBounds_toArray, List.set_cons_zero, List.set_cons_succ]
          refine wpAnyH_take (i := 6) (v := .bool false) rfl (by kernel_rfl) (by kernel_rfl) (by kernel_rfl) (fun _ _ _ h => h) (Or.inl ⟨by rfl, ?_⟩) hHeld ?_
          · intro w hSw; go_split_ands; go_simp
          simp only [List.getElem_toArray, List.getElem_cons_zero, List.getElem_cons_succ, Act.put, List.setIfInBounds_toArray, List.set_cons_zero, List.set_cons_succ]
          refine wpAnyH_take (i := 7) (v := undef) rfl (by kernel_rfl) (by kernel_rfl) (by kernel_rfl) (fun _ _ _ h => h) (Or.inr ⟨by rfl, rfl⟩) hHeld ?_
          simp only [List.getElem_toArray, List.getElem_cons_zero, List.getElem_cons_succ, Act.put, List.setIfInBounds_toArray, List.set_cons_zero, List.set_cons_succ]
          refine wpAnyH_take (i := 8) (v := undef) rfl (by kernel_rfl) (by kernel_rfl) (by kernel_rfl) (fun _ _ _ h => h) (Or.inr ⟨by rfl, rfl⟩) hHeld ?_
          simp only [List.getElem_toArray, List.getElem_cons_zero, List.getElem_cons_succ, Act.put, List.setIfInBounds_toArray, List.set_cons_zero, List.set_cons_succ]
          refine wpAnyH_take (i := 9) (v := undef) rfl (by kernel_rfl) (by kernel_rfl) (by kernel_rfl) (fun _ _ _ h => h) (Or.inr ⟨by rfl, rfl⟩) hHeld ?_
          simp only [List.getElem_toArray, List.getElem_cons_zero, List.getElem_cons_succ, Act.put, List.setIfInBounds_toArray, List.set_cons_zero, List.set_cons_succ]
          refine wpAnyH_take (i := 10) (v := undef) rfl (by kernel_rfl) (by kernel_rfl) (by kernel_rfl) (fun _ _ _ h => h) (Or.inr ⟨by rfl, rfl⟩) hHeld ?_
          simp only [List.getElem_toArray, List.getElem_cons_zero, List.getElem_cons_succ, Act.put, List.setIfInBounds_toArray, List.set_cons_zero, List.set_cons_succ]
          refine wpAnyH_take (i := 11) (v := undef) rfl (by kernel_rfl) (by kernel_rfl) (by kernel_rfl) (fun _ _ _ h => h) (Or.inr ⟨by rfl, rfl⟩) hHeld ?_
          simp only [List.getElem_toArray, List.getElem_cons_zero, List.getElem_cons_succ, Act.put, List.setIfInBounds_toArray, List.set_cons_zero, List.set_cons_succ]
          refine wpAnyH_take (i := 12) (v := undef) rfl (by kernel_rfl) (by kernel_rfl) (by kernel_rfl) (fun _ _ _ h => h) (Or.inr ⟨by rfl, rfl⟩) hHeld ?_
          simp only [List.getElem_toArray, List.getElem_cons_zero, List.getElem_cons_succ, Act.put, List.setIfInBounds_toArray, List.set_cons_zero, List.set_cons_succ]
          refine wpAnyH_take (i := 13) (v := undef) rfl (by kernel_rfl) (by kernel_rfl) (by kernel_rfl) (fun _ _ _ h => h) (Or.inr ⟨by rfl, rfl⟩) hHeld ?_
          simp only [List.getElem_toArray, List.getElem_cons_zero, List.getElem_cons_succ, Act.put, List.setIfInBounds_toArray, List.set_cons_zero, List.set_cons_succ]
          refine wpAnyH_take (i := 14) (v := undef) rfl (by kernel_rfl) (by kernel_rfl) (by kernel_rfl) (fun _ _ _ h => h) (Or.inr ⟨by rfl, rfl⟩) hHeld ?_
          simp only [List.getElem_toArray, List.getElem_cons_zero, List.getElem_cons_succ, Act.put, List.setIfInBounds_toArray, List.set_cons_zero, List.set_cons_succ]
          refine wpAnyH_take (i := 15) (v := .bool false) rfl (by kernel_rfl) (by kernel_rfl) (by kernel_rfl) (fun _ _ _ h => h) (Or.inl ⟨by rfl, ?_⟩) hHeld ?_
          · intro w hSw; go_split_ands; go_simp
          simp only [List.getElem_toArray, List.getElem_cons_zero, List.getElem_cons_succ, Act.put, List.setIfInBounds_toArray, List.set_cons_zero, List.set_cons_succ]
          refine wpAnyH_take (i := 16) (v := .bool false) rfl (by kernel_rfl) (by kernel_rfl) (by kernel_rfl) (fun _ _ _ h => h) (Or.inl ⟨by rfl, ?_⟩) hHeld ?_
          · intro w hSw; go_split_ands; go_simp
          simp only [List.getElem_toArray, List.getElem_cons_zero, List.getElem_cons_succ, Act.put, List.setIfInBounds_toArray, List.set_cons_zero, List.set_cons_succ]
          refine wpAnyH_done (by kernel_rfl) ?_ _
          have HQ6 : Hid _ := hq6
          clear hq6 hb6 HQ5 HS HQ HN5 n0 n1 n2 n3
          have HV6 : Hid _ := HV.out w6 HQ6.out.1
          go_wp2_with (go_at_call 85; refine (show Calls _ _ _ _ _ from HV6.out).mono ?_; rintro x w7 ⟨rfl, hv7⟩)
          obtain ⟨r7, hv7⟩ := hv7
          go_roundw
          case rel => exact ⟨0 + 1, r7, by omega, by go_num, HY1, hv7⟩
          case measure => simp [intOf]; omega
      · have HR : Hid _ := HN.out (fun h => hso h.1)
        have hso' : sound (es.getD k En.zero) = false := by simpa using hso
        rw [hso'] at HS
        clear HN HY HV HX hso hso'
        unfold env at HS
        generalize es.getD k En.zero = y at *
        unfold entObj at HN5 HQ
        go_wp2_with fail
        obtain ⟨w5, hw5⟩ : ∃ w5, w5 = wr.alloc (.cells #[.string y.key, .int .i64 y.seq, .bool y.dead, .string y.val] 44) := ⟨_, rfl⟩
        rw [← hw5] at HN5 ⊢
        clear hw5
        obtain ⟨n0, n1, n2, n3, _⟩ := ent_cells HN5.out.2.1
        have HQ5 : Hid _ := HQ.out w5.drew ⟨HN5.out.1.drew, HN5.out.2.1, HN5.out.2.2⟩
        refine wp_region_held_drew (S := (fun w' => w'.cell? ⟨wr.heap.size, 0, none⟩ = some (.string y.key) ∧ w'.cell? ⟨wr.heap.size, 1, none⟩ = some (.int .i64 y.seq) ∧ w'.cell? ⟨wr.heap.size, 2, none⟩ = some (.bool y.dead) ∧ w'.cell? ⟨wr.heap.size, 3, none⟩ = some (.string y.val))) (by kernel_rfl) ⟨n0, n1, n2, n3⟩ (fun hHeld => ?_)
        refine wpAnyH_take (i := 0) (v := .agg #[.string y.key, .int .i64 y.seq, .bool y.dead, .string y.val]) rfl (by kernel_rfl) (by kernel_rfl) (by kernel_rfl) (fun _ _ _ h => h) (Or.inl ⟨by rfl, ?_⟩) hHeld ?_
        · intro w hSw; go_split_ands; go_simp
        simp only [List.getElem_toArray, List.getElem_cons_zero, Act.put, List.setIfInBounds_toArray, List.set_cons_zero, List.set_cons_succ]
        refine wpAnyH_ready (rs := [1]) (by kernel_rfl) (by simp) (AllReadyH.cons rfl (fun K hK => ?_) AllReadyH.nil)
        go_simp
        refine (show Calls _ _ _ _ _ from HS.out _).mono ?_
        rintro x w6 ⟨rfl, hb6⟩
        have hq6 := HQ5.out w6 hb6
        obtain ⟨m0, m1, m2, m3, _⟩ := ent_cells hq6.2.1
        refine hK.out _ _ ⟨m0, m1, m2, m3⟩ (fun hHeld => ?_)
        clear hK K
        refine wpAnyH_take (i := 2) (v := .bool true) rfl (by kernel_rfl) (by kernel_rfl) (by kernel_rfl) (fun _ _ _ h => h) (Or.inl ⟨by rfl, ?_⟩) hHeld ?_
        · intro w hSw; go_split_ands; go_simp
        simp only [List.getElem_toArray, List.getElem_cons_zero, List.getElem_cons_succ, Act.put, List.setIfInBounds_toArray, List.set_cons_zero, List.set_cons_succ]
        refine wpAnyH_take (i := 3) (v := .bool true) rfl (by kernel_rfl) (by kernel_rfl) (by kernel_rfl) (fun _ _ _ h => h) (Or.inl ⟨by rfl, ?_⟩) hHeld ?_
        · intro w hSw; go_split_ands; go_simp
        simp only [List.getElem_toArray, List.getElem_cons_zero, List.getElem_cons_succ, Act.put, List.setIfInBounds_toArray, List.set_cons_zero, List.set_cons_succ]
        refine wpAnyH_take (i := 4) (v := undef) rfl (by kernel_rfl) (by kernel_rfl) (by kernel_rfl) (fun _ _ _ h => h) (Or.inr ⟨by rfl, rfl⟩) hHeld ?_
        simp only [List.getElem_toArray, List.getElem_cons_zero, List.getElem_cons_succ, Act.put, List.setIfInBounds_toArray, List.set_cons_zero, List.set_cons_succ]
        refine wpAnyH_take (i := 5) (v := undef) rfl (by kernel_rfl) (by kernel_rfl) (by kernel_rfl) (fun _ _ _ h => h) (Or.inr ⟨by rfl, rfl⟩) hHeld ?_
        simp only [List.getElem_toArray, List.getElem_cons_zero, List.getElem_cons_succ, Act.put, List.setIfInBounds_toArray, List.set_cons_zero, List.set_cons_succ]
        refine wpAnyH_take (i := 6) (v := undef) rfl (by kernel_rfl) (by kernel_rfl) (by kernel_rfl) (fun _ _ _ h => h) (Or.inr ⟨by rfl, rfl⟩) hHeld ?_
        simp only [List.getElem_toArray, List.getElem_cons_zero, List.getElem_cons_succ, Act.put, List.setIfInBounds_toArray, List.set_cons_zero, List.set_cons_succ]
        refine wpAnyH_take (i := 7) (v := undef) rfl (by kernel_rfl) (by kernel_rfl) (by kernel_rfl) (fun _ _ _ h => h) (Or.inr ⟨by rfl, rfl⟩) hHeld ?_
        simp only [List.getElem_toArray, List.getElem_cons_zero, List.getElem_cons_succ, Act.put, List.setIfInBounds_toArray, List.set_cons_zero, List.set_cons_succ]
        refine wpAnyH_take (i := 8) (v := undef) rfl (by kernel_rfl) (by kernel_rfl) (by kernel_rfl) (fun _ _ _ h => h) (Or.inr ⟨by rfl, rfl⟩) hHeld ?_
        simp only [List.getElem_toArray, List.getElem_cons_zero, List.getElem_cons_succ, Act.put, List.setIfInBounds_toArray, List.set_cons_zero, List.set_cons_succ]
        refine wpAnyH_take (i := 9) (v := undef) rfl (by kernel_rfl) (by kernel_rfl) (by kernel_rfl) (fun _ _ _ h => h) (Or.inr ⟨by rfl, rfl⟩) hHeld ?_
        simp only [List.getElem_toArray, List.getElem_cons_zero, List.getElem_cons_succ, Act.put, List.setIfInBounds_toArray, List.set_cons_zero, List.set_cons_succ]
        refine wpAnyH_take (i := 10) (v := undef) rfl (by kernel_rfl) (by kernel_rfl) (by kernel_rfl) (fun _ _ _ h => h) (Or.inr ⟨by rfl, rfl⟩) hHeld ?_
        simp only [List.getElem_toArray, List.getElem_cons_zero, List.getElem_cons_succ, Act.put, List.setIfInBounds_toArray, List.set_cons_zero, List.set_cons_succ]
        refine wpAnyH_take (i := 11) (v := undef) rfl (by kernel_rfl) (by kernel_rfl) (by kernel_rfl) (fun _ _ _ h => h) (Or.inr ⟨by rfl, rfl⟩) hHeld ?_
        simp only [List.getElem_toArray, List.getElem_cons_zero, List.getElem_cons_succ, Act.put, List.setIfInBounds_toArray, List.set_cons_zero, List.set_cons_succ]
        refine wpAnyH_take (i := 12) (v := undef) rfl (by kernel_rfl) (by kernel_rfl) (by kernel_rfl) (fun _ _ _ h => h) (Or.inr ⟨by rfl, rfl⟩) hHeld ?_
        simp only [List.getElem_toArray, List.getElem_cons_zero, List.getElem_cons_succ, Act.put, List.setIfInBounds_toArray, List.set_cons_zero, List.set_cons_succ]
        refine wpAnyH_take (i := 13) (v := undef) rfl (by kernel_rfl) (by kernel_rfl) (by kernel_rfl) (fun _ _ _ h => h) (Or.inr ⟨by rfl, rfl⟩) hHeld ?_
        simp only [List.getElem_toArray, List.getElem_cons_zero, List.getElem_cons_succ, Act.put, List.setIfInBounds_toArray, List.set_cons_zero, List.set_cons_succ]
        refine wpAnyH_take (i := 14) (v := undef) rfl (by kernel_rfl) (by kernel_rfl) (by kernel_rfl) (fun _ _ _ h => h) (Or.inr ⟨by rfl, rfl⟩) hHeld ?_
        simp only [List.getElem_toArray, List.getElem_cons_zero, List.getElem_cons_succ, Act.put, List.setIfInBounds_toArray, List.set_cons_zero, List.set_cons_succ]
        refine wpAnyH_take (i := 15) (v := undef) rfl (by kernel_rfl) (by kernel_rfl) (by kernel_rfl) (fun _ _ _ h => h) (Or.inr ⟨by rfl, rfl⟩) hHeld ?_
        simp only [List.getElem_toArray, List.getElem_cons_zero, List.getElem_cons_succ, Act.put, List.setIfInBounds_toArray, List.set_cons_zero, List.set_cons_succ]
        refine wpAnyH_take (i := 16) (v := .bool true) rfl (by kernel_rfl) (by kernel_rfl) (by kernel_rfl) (fun _ _ _ h => h) (Or.inl ⟨by rfl, ?_⟩) hHeld ?_
        · intro w hSw; go_split_ands; go_simp
        simp only [List.getElem_toArray, List.getElem_cons_zero, List.getElem_cons_succ, Act.put, List.setIfInBounds_toArray, List.set_cons_zero, List.set_cons_succ]
        refine wpAnyH_done (by kernel_rfl) ?_ _
        have HQ6 : Hid _ := hq6
        clear hq6 hb6 HQ5 HS HQ HN5 n0 n1 n2 n3
        go_wp2
        go_ret2
        exact ⟨by rw [HR.out]; rfl, HB.out.trans (HQ6.out.1.mono hbs)⟩
    · have hkl : k = es.length := by omega
      subst hkl
      have HE : Hid (encV es = .tuple #[.string ⟨(block es).toArray⟩, .int .i64 0]) := by show _ = _; unfold encV; rw [if_pos ((right_iff es).2 HR.out)]
      have hW := HW.out
      rw [List.take_length] at hW
      have HW1 : Hid _ := hW
      have c0 : wr.cell? ⟨w.heap.size + 1, 0, none⟩ = some (.pointer (some ⟨w.heap.size, 0, none⟩)) := by rw [Joins.cell_of_block hW.hq]; rfl
      clear hW HW HR HX HOK HSZ HW3
      go_wp2_with fail
      refine (Pk.wBytes_any _ _ _ _ _ HW1.out.wr).mono ?_
      rintro x w8 ⟨rfl, rfl⟩
      go_wp2
      go_ret2
      exact ⟨by rw [HE.out]; rfl, HW1.out.bel⟩
end Go.Proofs.Ytedjohkdfchocaa.Bk
