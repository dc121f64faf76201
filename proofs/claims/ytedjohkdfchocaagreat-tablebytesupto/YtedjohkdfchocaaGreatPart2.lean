/-
  The texts PackPut, PackWrite, PackNumber, PackRest, PackText, PackRead.
-/
import Derived.Test.YtedjohkdfchocaaGreatPart1
import Derived.Laws.BitsAllLaws
import Derived.Lib.AppendStr
import Derived.Test.YtedjohkdfchocaaGreatProg
import Derived.WalkKit
import Derived.Deep.Light
import Derived.Laws.DeepNot64
import Derived.Lib.Strings
import Derived.Test.YtedjohkdfchocaaGreatQCmClone
import Derived.Lib.SmallJoins

/-
  Package pack's writer: 'putNum' puts a number's bytes behind those that were put.
-/
namespace Go.Proofs.YtedjohkdfchocaaGreat.Pk
open Go.RowKit
set_option linter.unusedVariables false

theorem info8 : (Tryz.prog.info? 5).map (fun i => (i.zero, i.size, i.bytes)) = some (some (.int .u8 0), 1, 1) := by kernel_rfl

theorem or128 (n : Nat) : bits .or .u8 ((n : Int) % 256) 128 = (((UInt8.ofNat (n % 128 + 128)).toNat : Nat) : Int) := by
  rw [u8_toNat_ofNat (by omega), show (n : Int) % 256 = ((n % 256 : Nat) : Int) by omega]
  have := u8_or_nat (n % 256) 128 (by omega) (by omega)
  rw [show (((128 : Nat) : Int)) = 128 from rfl] at this
  rw [this]
  congr 1
  have h2 : n % 128 < 2 ^ 7 := by omega
  have h5 : 128 + n % 128 = 128 ||| n % 128 := Nat.two_pow_add_eq_or_of_lt h2 1
  have h3 : n % 256 / 128 = 0 ∨ n % 256 / 128 = 1 := by omega
  rcases h3 with h3 | h3
  · have h4 : n % 256 = n % 128 := by omega
    rw [h4, Nat.or_comm]
    omega
  · have h6 : n % 256 = 128 ||| n % 128 := by omega
    rw [h6, Nat.or_assoc, Nat.or_comm (n % 128), ← Nat.or_assoc, show 128 ||| 128 = 128 from rfl, ← h5]
    omega
theorem low8 {n : Nat} (h : n < 128) : (n : Int) = (((UInt8.ofNat n).toNat : Nat) : Int) := by
  rw [u8_toNat_ofNat (by omega)]

set_option maxRecDepth 100000 in
set_option maxHeartbeats 1000000 in
theorem putNum_any (base b n : Nat) (r : Option Nat) (bs : List UInt8) (w : World) (hw : WrAt w base b r bs) (hn : n < 18446744073709551616) (hsz : bs.length + (enc n).length ≤ 140737488355328) (hbase : base ≤ w.heap.size) :
    Calls Tryz.prog 71 #[.pointer (some ⟨b, 0, none⟩), .int .u64 n] w fun e w' => e = .returned (.tuple #[]) ∧ ∃ r', WrAt w' base b r' (bs ++ enc n) ∧ Step b w r w' r' := by
  obtain ⟨i0, hi, hz0, hz1, hz2⟩ := info_parts info8
  go_enter Tryz.func71, Tryz.ntmps71
  go_wp2
  go_loopw [1] (fun nv wr => ∃ (m f : Nat) (bs1 : List UInt8) (r1 : Option Nat), nv = .int .u64 m ∧ m < 18446744073709551616 ∧ Hid (m < 128 ^ (f + 1)) ∧ Hid (bs1 ++ encF f m = bs ++ enc n) ∧ Hid (WrAt wr base b r1 bs1) ∧ Hid (Step b w r wr r1)) (fun nv _ => (intOf nv).toNat)
  case atStart => exact ⟨n, 9, bs, r, rfl, hn, by show n < 128 ^ 10; omega, rfl, hw, Step.refl _ _ _⟩
  case round =>
    obtain ⟨m, f, bs1, r1, rfl, hm, HF, HE, HW, HS⟩ := hrel
    have hl1 : bs1.length + 1 ≤ bs.length + (enc n).length := by
      have h1 := congrArg List.length HE.out
      have h2 := (encF_len f m).1
      simp at h1; omega
    obtain ⟨v, hb, hown, hr⟩ := HW.out
    have hbr : some b ≠ v.ownBlock := fun e => (HW.out.row_ge b (by rw [← hr, ← e])).2.2 rfl
    have hlt : b < wr.heap.size := HW.out.lt
    have hsw := HS.out.kept.size
    have hc := cell_of_one hb
    have hfz := free_of_one hb
    by_cases hge : 128 ≤ m
    · obtain ⟨f, rfl⟩ : ∃ f', f = f' + 1 := by
        cases f with
        | zero => have := HF.out; simp at this; omega
        | succ f => exact ⟨f, rfl⟩
      obtain ⟨c, HC⟩ : ∃ c, Hid (c = UInt8.ofNat (m % 128 + 128)) := ⟨_, rfl⟩
      have HF1 : Hid (m / 128 < 128 ^ (f + 1)) := by have := HF.out; rw [Nat.pow_succ] at this; show m / 128 < 128 ^ (f + 1); omega
      have HE1 : Hid ((bs1 ++ [c]) ++ encF f (m / 128) = bs ++ enc n) := by
        show (bs1 ++ [c]) ++ encF f (m / 128) = bs ++ enc n
        rw [← HE.out, encF_big _ _ hge, HC.out]; simp
      have hor : bits .or .u8 ((m : Int) % 256) 128 = (c.toNat : Int) := by rw [HC.out]; exact or128 m
      go_wp2_with (at_builtin; refine wpList_append_lies _ rfl _ _ 76 rfl base 5 i0 (.int .u8 0) 1 1 Tryz.underlying76 hi hz0 hz1 hz2 rfl (by decide) v bs1.length (bs1.map B8) rfl (hown.alloc _) ⟨wr.heap.size, 0, none⟩ 1 1 [B8 c] rfl rfl ?c1 ?c2 (by decide) ?c3 ?c4 ?c5 (wr.heap.size + 1) (by simp) ?_)
      case c1 => exact World.news_of_block (heap_alloc_new wr _)
      case c2 => intro u hu; simp at hu; subst hu; rfl
      case c3 => unfold maxLen; omega
      case c4 => omega
      case c5 => simp; omega
      intro g cap w1 hown1 hgrow hat hgl
      have R := wr_put (new := [c]) hb hown (Step.alloc b _ wr _) ((Below.heap_alloc _ _ _ hlt).trans hb) hown1 rfl (by rw [hr]; exact hgrow) (by rw [hr]; simpa using hat)
      have hb1 : w1.heap[b]? = some (.cells #[v] 125 (0, 0)) := (hgrow.block b (by simp; omega) (by rw [← hr]; exact hbr)).trans ((Below.heap_alloc _ _ _ hlt).trans hb)
      have hc1 := cell_of_one hb1
      have hf1 := free_of_one hb1
      rw [hr] at R
      have HR : Hid _ := R
      clear R hown1 hgrow hat hgl hb1 hown hb hc hfz hor
      go_wp2
      go_roundw
      case rel => exact ⟨m / 128, f, bs1 ++ [c], some g, by go_num, by omega, HF1, HE1, HR.out.1, HS.out.trans HR.out.2⟩
      case measure => simp [intOf]; omega
    · obtain ⟨c, HC⟩ : ∃ c, Hid (c = UInt8.ofNat m) := ⟨_, rfl⟩
      have hlow : (m : Int) = (c.toNat : Int) := by rw [HC.out]; exact low8 (by omega)
      have HE1 : Hid (bs1 ++ [c] = bs ++ enc n) := by
        show bs1 ++ [c] = bs ++ enc n
        rw [← HE.out, encF_small _ _ (by omega), HC.out]
      have hm' : m = c.toNat := by omega
      subst hm'
      clear hlow HC
      go_wp2_with (at_builtin; refine wpList_append_lies _ rfl _ _ 76 rfl base 5 i0 (.int .u8 0) 1 1 Tryz.underlying76 hi hz0 hz1 hz2 rfl (by decide) v bs1.length (bs1.map B8) rfl (hown.alloc _) ⟨wr.heap.size, 0, none⟩ 1 1 [B8 c] rfl rfl ?d1 ?d2 (by decide) ?d3 ?d4 ?d5 (wr.heap.size + 1) (by simp) ?_)
      case d1 => exact World.news_of_block (heap_alloc_new wr _)
      case d2 => intro u hu; simp at hu; subst hu; rfl
      case d3 => unfold maxLen; omega
      case d4 => omega
      case d5 => simp; omega
      intro g cap w1 hown1 hgrow hat hgl
      have R := wr_put (new := [c]) hb hown (Step.alloc b _ wr _) ((Below.heap_alloc _ _ _ hlt).trans hb) hown1 rfl (by rw [hr]; exact hgrow) (by rw [hr]; simpa using hat)
      have hb1 : w1.heap[b]? = some (.cells #[v] 125 (0, 0)) := (hgrow.block b (by simp; omega) (by rw [← hr]; exact hbr)).trans ((Below.heap_alloc _ _ _ hlt).trans hb)
      have hc1 := cell_of_one hb1
      have hf1 := free_of_one hb1
      rw [hr] at R
      have HR : Hid _ := R
      clear R hown1 hgrow hat hgl hb1 hown hb hc hfz
      go_wp2
      go_end0
      exact ⟨rfl, some g, by rw [← HE1.out]; exact HR.out.1, HS.out.trans HR.out.2⟩

end Go.Proofs.YtedjohkdfchocaaGreat.Pk

/-
  Package pack's writer: what New, Num, Int, Text, Bytes and Len do, for every list.
-/
namespace Go.Proofs.YtedjohkdfchocaaGreat.Pk
open Go.RowKit
set_option linter.unusedVariables false

theorem new_any (w : World) (base : Nat) (hb : base ≤ w.heap.size) :
    Calls Tryz.prog 37 #[] w fun e w' => e = .returned (.pointer (some ⟨w.heap.size, 0, none⟩)) ∧ w' = w.alloc (.cells #[.slice none 0 0] 125) := by
  go_enter Tryz.func37, Tryz.ntmps37
  go_wp2
  go_ret
  exact ⟨rfl, rfl⟩
theorem new_wr (w : World) (base : Nat) : WrAt (w.alloc (.cells #[.slice none 0 0] 125)) base w.heap.size none [] :=
  ⟨.slice none 0 0, heap_alloc_new w _, World.ownsRow_nil _ _ _ _, rfl⟩

theorem not_neg {n : Int} (h1 : -9223372036854775808 ≤ n) (h2 : n < 0) : bits .xor .i64 (-1) n = -1 - n := by
  show IntKind.i64.wrap ((BitVec.ofInt 64 (-1) ^^^ BitVec.ofInt 64 n).toNat : Int) = _
  have h3 : BitVec.ofInt 64 (-1) = BitVec.allOnes 64 := by decide
  rw [h3, BitVec.allOnes_xor, BitVec.toNat_not, BitVec.toNat_ofInt]
  simp [IntKind.wrap, IntKind.bits, IntKind.signed]
  omega
theorem ret_int {k : IntKind} {a b : Int} (h : a = b) : Ending.returned (.int k a) = .returned (.int k b) := by rw [h]
theorem fold_neg {n x : Int} (h : n < 0) (hx : x = -1 - n) (h1 : x ≤ 9223372036854775807) : IntKind.u64.wrap (IntKind.u64.wrap (2 * IntKind.u64.wrap x) + 1) = (fold n : Int) := by
  rw [IntWalk.u64_in x ⟨by omega, by omega⟩, IntWalk.u64_in (2 * x) ⟨by omega, by omega⟩, IntWalk.u64_in _ ⟨by omega, by omega⟩]
  unfold fold; rw [if_pos h]; omega
theorem fold_pos {n : Int} (h : 0 ≤ n) : 2 * n = (fold n : Int) := by
  unfold fold; rw [if_neg (by omega)]; omega
theorem fold_any (n : Int) (w : World) (h1 : -9223372036854775808 ≤ n) (h2 : n ≤ 9223372036854775807) :
    Calls Tryz.prog 102 #[.int .i64 n] w fun e w' => e = .returned (.int .u64 (fold n)) ∧ w' = w := by
  by_cases h : n < 0
  · obtain ⟨x, HX⟩ : ∃ x, Hid (x = -1 - n) := ⟨_, rfl⟩
    have HN : Hid (n < 0) := h
    have hx0 : 0 ≤ x := by have := HX.out; omega
    have hx1 : x ≤ 9223372036854775807 := by have := HX.out; omega
    have hnot : bits .xor .i64 (-1) n = x := by rw [HX.out]; exact not_neg h1 h
    go_enter Tryz.func102, Tryz.ntmps102
    go_wp2
    go_ret
    exact ⟨ret_int (fold_neg HN.out HX.out hx1), rfl⟩
  · go_enter Tryz.func102, Tryz.ntmps102
    go_wp2
    go_ret
    exact ⟨ret_int (fold_pos (by omega)), rfl⟩

theorem getD_lt {α : Type} (l : List α) (k : Nat) (d : α) (h : k < l.length) : l.getD k d = l[k] := by simp [h]
theorem flat_len {α : Type} (f : α → List UInt8) (c : Nat) (hf : ∀ x, (f x).length ≤ c) (l : List α) : (l.flatMap f).length ≤ c * l.length := by
  induction l with
  | nil => simp
  | cons x l ih => have := hf x; simp only [List.flatMap_cons, List.length_append, List.length_cons, Nat.mul_add]; omega
theorem nums_len (l : List Nat) : (nums l).length ≤ 10 * l.length := flat_len _ 10 (fun x => (enc_len x).2) l
theorem ints_len (l : List Int) : (ints l).length ≤ 10 * l.length := flat_len _ 10 (fun x => (enc_len _).2) l
theorem nums_snoc (xs : List Nat) (k : Nat) (h : k < xs.length) : nums (xs.take (k + 1)) = nums (xs.take k) ++ enc (xs.getD k 0) := by
  rw [List.take_succ_eq_append_getElem h, getD_lt _ _ _ h]; simp only [nums, List.flatMap_append, List.flatMap_cons, List.flatMap_nil, List.append_nil]
theorem ints_snoc (xs : List Int) (k : Nat) (h : k < xs.length) : ints (xs.take (k + 1)) = ints (xs.take k) ++ enc (fold (xs.getD k 0)) := by
  rw [List.take_succ_eq_append_getElem h, getD_lt _ _ _ h]; simp only [ints, List.flatMap_append, List.flatMap_cons, List.flatMap_nil, List.append_nil]
theorem texts_snoc (xs : List ByteArray) (k : Nat) (h : k < xs.length) : texts ((xs.take (k + 1)).map fun s => s.data.toList) = texts ((xs.take k).map fun s => s.data.toList) ++ text (xs.getD k ByteArray.empty).data.toList := by
  rw [List.take_succ_eq_append_getElem h, getD_lt _ _ _ h]; simp only [texts, List.map_append, List.map_cons, List.map_nil, List.flatMap_append, List.flatMap_cons, List.flatMap_nil, List.append_nil]

set_option maxHeartbeats 1000000 in
theorem wNum_any (base b g off cap : Nat) (r : Option Nat) (bs : List UInt8) (xs : List Nat) (w : World) (hw : WrAt w base b r bs) (hx : ∀ x ∈ xs, x < 18446744073709551616)
    (hcells : ∀ j, j < xs.length → w.cell? ⟨g, off + j, none⟩ = some (.int .u64 (xs.getD j 0))) (hg : g ≠ b) (hgr : some g ≠ r) (hgl : g < w.heap.size)
    (hsz : bs.length + 10 * xs.length ≤ 140737488355328) (hbase : base ≤ w.heap.size) :
    Calls Tryz.prog 38 #[.pointer (some ⟨b, 0, none⟩), .slice (some ⟨g, off, none⟩) xs.length cap] w fun e w' => e = .returned (.tuple #[]) ∧ ∃ r', WrAt w' base b r' (bs ++ nums xs) ∧ Step b w r w' r' := by
  go_enter Tryz.func38, Tryz.ntmps38
  go_wp2
  go_loopw [8] (fun i wr => ∃ (k : Nat) (r1 : Option Nat), k ≤ xs.length ∧ i = .int .i64 k ∧ Hid (WrAt wr base b r1 (bs ++ nums (xs.take k))) ∧ Hid (Step b w r wr r1)) (fun i _ => xs.length - (intOf i).toNat)
  case atStart => exact ⟨0, r, by omega, rfl, by simpa [nums, Hid] using hw, Step.refl _ _ _⟩
  case round =>
    obtain ⟨k, r1, hk, rfl, HW, HS⟩ := hrel
    by_cases hlt : k < xs.length
    · have hc1 : wr.cell? ⟨g, off + k, none⟩ = some (.int .u64 (xs.getD k 0)) := (World.cell?_of_block (HS.out.kept.block g hgl hg hgr)).trans (hcells k hlt)
      have hx1 : xs.getD k 0 < 18446744073709551616 := by rw [getD_lt _ _ _ hlt]; exact hx _ (List.getElem_mem hlt)
      have HN : Hid (nums (xs.take (k + 1)) = nums (xs.take k) ++ enc (xs.getD k 0)) := nums_snoc xs k hlt
      have hlen : (nums (xs.take k)).length ≤ 10 * k := by have := nums_len (xs.take k); simp at this; omega
      have hsw := HS.out.kept.size
      generalize xs.getD k 0 = x at *
      clear hcells
      go_wp2_with (go_at_call 71; refine (putNum_any base b x r1 (bs ++ nums (xs.take k)) _ HW.out hx1 (by have := enc_len x; simp; omega) (by omega)).mono ?_; rintro e w' ⟨rfl, hq⟩)
      obtain ⟨r2, hw2, hs2⟩ := hq
      go_roundw
      case rel => exact ⟨k + 1, r2, by omega, by go_num, by show WrAt _ _ _ _ _; rw [HN.out, ← List.append_assoc]; exact hw2, HS.out.trans hs2⟩
      case measure => simp [intOf]; omega
    · have hk' : k = xs.length := by omega
      subst hk'
      go_wp2
      go_end0
      exact ⟨rfl, r1, by have := HW.out; rwa [List.take_length] at this, HS.out⟩

set_option maxHeartbeats 1000000 in
theorem wInt_any (base b g off cap : Nat) (r : Option Nat) (bs : List UInt8) (xs : List Int) (w : World) (hw : WrAt w base b r bs) (hx : ∀ x ∈ xs, -9223372036854775808 ≤ x ∧ x ≤ 9223372036854775807)
    (hcells : ∀ j, j < xs.length → w.cell? ⟨g, off + j, none⟩ = some (.int .i64 (xs.getD j 0))) (hg : g ≠ b) (hgr : some g ≠ r) (hgl : g < w.heap.size)
    (hsz : bs.length + 10 * xs.length ≤ 140737488355328) (hbase : base ≤ w.heap.size) :
    Calls Tryz.prog 91 #[.pointer (some ⟨b, 0, none⟩), .slice (some ⟨g, off, none⟩) xs.length cap] w fun e w' => e = .returned (.tuple #[]) ∧ ∃ r', WrAt w' base b r' (bs ++ ints xs) ∧ Step b w r w' r' := by
  go_enter Tryz.func91, Tryz.ntmps91
  go_wp2
  go_loopw [8] (fun i wr => ∃ (k : Nat) (r1 : Option Nat), k ≤ xs.length ∧ i = .int .i64 k ∧ Hid (WrAt wr base b r1 (bs ++ ints (xs.take k))) ∧ Hid (Step b w r wr r1)) (fun i _ => xs.length - (intOf i).toNat)
  case atStart => exact ⟨0, r, by omega, rfl, by simpa [ints, Hid] using hw, Step.refl _ _ _⟩
  case round =>
    obtain ⟨k, r1, hk, rfl, HW, HS⟩ := hrel
    by_cases hlt : k < xs.length
    · have hc1 : wr.cell? ⟨g, off + k, none⟩ = some (.int .i64 (xs.getD k 0)) := (World.cell?_of_block (HS.out.kept.block g hgl hg hgr)).trans (hcells k hlt)
      have hx1 : -9223372036854775808 ≤ xs.getD k 0 ∧ xs.getD k 0 ≤ 9223372036854775807 := by rw [getD_lt _ _ _ hlt]; exact hx _ (List.getElem_mem hlt)
      have HN : Hid (ints (xs.take (k + 1)) = ints (xs.take k) ++ enc (fold (xs.getD k 0))) := ints_snoc xs k hlt
      have hlen : (ints (xs.take k)).length ≤ 10 * k := by have := ints_len (xs.take k); simp at this; omega
      have hsw := HS.out.kept.size
      generalize xs.getD k 0 = x at *
      clear hcells
      have hx2 := fold_lt hx1.1 hx1.2
      go_wp2_with (first | (go_at_call 102; refine (fold_any x _ hx1.1 hx1.2).mono ?_; rintro e w' ⟨rfl, rfl⟩) | (go_at_call 71; refine (putNum_any base b (fold x) r1 (bs ++ ints (xs.take k)) _ HW.out hx2 (by have := enc_len (fold x); simp; omega) (by omega)).mono ?_; rintro e w' ⟨rfl, hq⟩))
      obtain ⟨r2, hw2, hs2⟩ := hq
      go_roundw
      case rel => exact ⟨k + 1, r2, by omega, by go_num, by show WrAt _ _ _ _ _; rw [HN.out, ← List.append_assoc]; exact hw2, HS.out.trans hs2⟩
      case measure => simp [intOf]; omega
    · have hk' : k = xs.length := by omega
      subst hk'
      go_wp2
      go_end0
      exact ⟨rfl, r1, by have := HW.out; rwa [List.take_length] at this, HS.out⟩

/-! ### A string's bytes behind an owned row: where the new slice lies -/
theorem run_append_str_at {P : Program} (w : World) (base : Nat) (t u ty e : TypeId) (i : TypeInfo) (ht : P.underlying t = some (.slice e)) (hu : P.underlying u = some .string) (hi : P.info? e = some i) (hz : i.zero = some (.int .u8 0))
    (hsize : i.size = 1) (hby : i.bytes = 1) (v : Value) (n : Nat) (xs : List Value) (hown : w.ownsRow base e 1 v n xs) (s : ByteArray)
    (h63 : n + s.size ≤ maxLen) (hbytes : n + s.size ≤ 140737488355328) (hbase : base ≤ w.heap.size) :
    ∃ v' w', (Builtin.append_ #[t, u] ty #[v, .string s]).run P w = .ok v' w' ∧ w'.ownsRow base e 1 v' (n + s.size) (xs ++ Lib.strCells s) ∧ w.grownBy w' v.ownBlock ∧
      (v'.ownBlock = v.ownBlock ∨ v'.ownBlock = some w.heap.size) := by
  obtain ⟨v', w', hr, h2, h3, h4⟩ := Lib.run_append_own_string (P := P) w base t u ty e i ht hu hi hz hsize hby v n xs hown s h63 hbytes hbase
  refine ⟨v', w', hr, h2, h3, ?_⟩
  unfold maxLen at h63
  rcases hown.2 with ⟨rfl, rfl⟩ | ⟨g, cap, cur, rfl, hbg, hg, hnc, hcm, hcs, htake⟩
  · by_cases hm : s.size = 0
    · rw [h4.2 ⟨rfl, hm⟩]; exact .inl rfl
    · have hq := run_append_nil_string (P := P) w t u ty e i (.int .u8 0) ht hu hi hz s (by omega) (by omega) (by rw [hby]; omega)
      rw [hr] at hq
      injection hq with hq _
      rw [hq]; exact .inr rfl
  · by_cases hroom : n + s.size ≤ cap
    · have hcs' : cur.size = cap := by simpa using hcs
      have hq := Lib.run_append_room_string (P := P) w t u ty e i ht hu hi hsize g n cap cur hg s hroom (by omega)
      rw [hr] at hq
      injection hq with hq _
      rw [hq]; exact .inl rfl
    · have hxl : xs.length = n := by simpa using hown.1
      have hq := Lib.run_append_grow_string (P := P) w t u ty e i (.int .u8 0) ht hu hi hz ⟨g, 0, none⟩ n cap xs (by rw [hsize]; simpa using hxl) (hown.cells (g := g) rfl) s (by omega) (by omega) (by rw [hby]; exact growslice_fits (by omega) (by omega))
      rw [hr] at hq
      injection hq with hq _
      rw [hq]; exact .inr rfl

theorem wpList_append_str_at {P : Program} (w : World) {ops : Array Oper} {rest : List Oper} {o : Oper} {a : Act} {Q : Exit → Act → World → Prop} (hgd : o.guard = none) (sl x : Operand) (t u : TypeId)
    (ho : o.op = .call { callee := .builtin .append, args := #[sl, x], argTypes := #[t, u] })
    (base : Nat) (e : TypeId) (i : TypeInfo) (ht : P.underlying t = some (.slice e)) (hu : P.underlying u = some .string) (hi : P.info? e = some i) (hz : i.zero = some (.int .u8 0))
    (hsize : i.size = 1) (hby : i.bytes = 1) (v : Value) (n : Nat) (xs : List Value) (hs : a.eval sl = v) (hown : w.ownsRow base e 1 v n xs) (s : ByteArray) (hx : a.eval x = .string s)
    (h63 : n + s.size ≤ maxLen) (hbytes : n + s.size ≤ 140737488355328) (hbase : base ≤ w.heap.size)
    (h : ∀ v' w', w'.ownsRow base e 1 v' (n + s.size) (xs ++ Lib.strCells s) → w.grownBy w' v.ownBlock → (v'.ownBlock = v.ownBlock ∨ v'.ownBlock = some w.heap.size) → wpList P ops Q rest (a.put o.dst v') w') : wpList P ops Q (o :: rest) a w := by
  refine wpList_plain hgd fun K hK => ?_
  obtain ⟨v', w', hr, h2, h3, h4⟩ := run_append_str_at (P := P) w base t u o.type e i ht hu hi hz hsize hby v n xs hown s h63 hbytes hbase
  unfold Oper.wp execOp
  simp only [ho, resolve, invoke, builtin, Sem.run_bind, Sem.run_pure, Result.andThen_ok, List.map_toArray, List.map_cons, List.map_nil, hs, hx, hr]
  exact hK _ _ (h v' w' h2 h3 h4)

/-- What the append of a text to the writer's slice comes to. -/
theorem wr_put_text {w w1 : World} {base b : Nat} {v v' : Value} {bs : List UInt8} {s : ByteArray}
    (hb : w.heap[b]? = some (.cells #[v] 125 (0, 0))) (hown : w.ownsRow base 5 1 v bs.length (bs.map B8))
    (hown1 : w1.ownsRow base 5 1 v' (bs.length + s.size) (bs.map B8 ++ Lib.strCells s))
    (hgrow : w.grownBy w1 v.ownBlock) (hat : v'.ownBlock = v.ownBlock ∨ v'.ownBlock = some w.heap.size) :
    WrAt (w1.setCell ⟨b, 0, none⟩ v') base b v'.ownBlock (bs ++ s.data.toList) ∧ Step b w v.ownBlock (w1.setCell ⟨b, 0, none⟩ v') v'.ownBlock := by
  have hw : WrAt w base b v.ownBlock bs := ⟨v, hb, hown, rfl⟩
  have hlt := hw.lt
  have hbr : some b ≠ v.ownBlock := fun e => (hw.row_ge b e.symm).2.2 rfl
  have hb1 : w1.heap[b]? = some (.cells #[v] 125 (0, 0)) := (hgrow.block b (by omega) hbr).trans hb
  have hgb : v'.ownBlock ≠ some b := by
    rcases hat with e | e
    · rw [e]; exact fun h => hbr h.symm
    · rw [e]; intro h; simp at h; omega
  refine ⟨⟨_, one_setCell hb1, ?_, rfl⟩, ⟨⟨hgrow.os, hgrow.tape, hgrow.output, by simpa [World.setCell] using hgrow.size, fun k hk hkb hkr => ?_⟩, ?_⟩⟩
  · rw [List.length_append, List.map_append, Array.length_toList]
    exact ownsRow_setCell_other hown1 hgb _
  · rw [Below.heap_setCell _ _ _ _ (by simpa using hkb)]
    exact hgrow.block k hk hkr
  · rcases hat with e | e
    · exact .inl e
    · exact .inr ⟨w.heap.size, e, Nat.le_refl _⟩

set_option maxHeartbeats 1000000 in
theorem wText_any (base b g off cap : Nat) (r : Option Nat) (bs : List UInt8) (xs : List ByteArray) (w : World) (hw : WrAt w base b r bs)
    (hcells : ∀ j, j < xs.length → w.cell? ⟨g, off + j, none⟩ = some (.string (xs.getD j ByteArray.empty))) (hg : g ≠ b) (hgr : some g ≠ r) (hgl : g < w.heap.size)
    (hsz : ∀ k, k ≤ xs.length → bs.length + (texts ((xs.take k).map fun s => s.data.toList)).length ≤ 140737488355328) (hmax : ∀ k, k ≤ xs.length → (xs.getD k ByteArray.empty).size ≤ 140737488355328) (hlenx : xs.length ≤ maxLen) (hbase : base ≤ w.heap.size) :
    Calls Tryz.prog 39 #[.pointer (some ⟨b, 0, none⟩), .slice (some ⟨g, off, none⟩) xs.length cap] w fun e w' => e = .returned (.tuple #[]) ∧ ∃ r', WrAt w' base b r' (bs ++ texts (xs.map fun s => s.data.toList)) ∧ Step b w r w' r' := by
  unfold maxLen at hlenx
  obtain ⟨i0, hi, hz0, hz1, hz2⟩ := info_parts info8
  go_enter Tryz.func39, Tryz.ntmps39
  go_wp2
  go_loopw [8] (fun i wr => ∃ (k : Nat) (r1 : Option Nat), k ≤ xs.length ∧ i = .int .i64 k ∧ Hid (WrAt wr base b r1 (bs ++ texts ((xs.take k).map fun s => s.data.toList))) ∧ Hid (Step b w r wr r1)) (fun i _ => xs.length - (intOf i).toNat)
  case atStart => exact ⟨0, r, by omega, rfl, by simpa [texts, Hid] using hw, Step.refl _ _ _⟩
  case round =>
    obtain ⟨k, r1, hk, rfl, HW, HS⟩ := hrel
    by_cases hlt : k < xs.length
    · have hc1 : wr.cell? ⟨g, off + k, none⟩ = some (.string (xs.getD k ByteArray.empty)) := (World.cell?_of_block (HS.out.kept.block g hgl hg hgr)).trans (hcells k hlt)
      have hx1 := hmax k hk
      have HN := texts_snoc xs k hlt
      have hl1 := hsz (k + 1) (by omega)
      rw [HN] at hl1
      have HN : Hid _ := HN
      have hsw := HS.out.kept.size
      generalize xs.getD k ByteArray.empty = x at *
      generalize texts ((xs.take k).map fun s => s.data.toList) = pre at *
      have hl2 : bs.length + pre.length + (enc x.size).length + x.size ≤ 140737488355328 := by simp [text] at hl1; omega
      have hel := enc_len x.size
      clear hcells hsz hmax hl1
      go_wp2_with fail
      refine (putNum_any base b x.size r1 (bs ++ pre) _ HW.out (by omega) (by simp; omega) (by omega)).mono ?_
      rintro e w2 ⟨rfl, r2, hw2, hs2⟩
      obtain ⟨v, hb, hown, rfl⟩ := hw2
      have hw2 : WrAt w2 base b v.ownBlock (bs ++ pre ++ enc x.size) := ⟨v, hb, hown, rfl⟩
      have hbr : some b ≠ v.ownBlock := fun e => (hw2.row_ge b e.symm).2.2 rfl
      have hlt2 := hw2.lt
      have hc2 := cell_of_one hb
      have hf2 := free_of_one hb
      have hsz2 := hs2.kept.size
      have HS2 : Hid (Step b wr r1 w2 v.ownBlock) := hs2
      have HLN : Hid ((bs ++ pre ++ enc x.size).length + x.size ≤ 140737488355328) := by show _ ≤ _; simp; omega
      obtain ⟨cur, hcur⟩ : ∃ cur, cur = bs ++ pre ++ enc x.size := ⟨_, rfl⟩
      rw [← hcur] at hown hw2 HLN
      have HCL : Hid (0 < cur.length) := by show _ < _; rw [hcur]; simp; omega
      have HCU : Hid (cur ++ x.data.toList = bs ++ (pre ++ text x.data.toList)) := by show _ = _; rw [hcur, text, Array.length_toList]; simp only [List.append_assoc]; rfl
      clear hcur
      clear hs2 hw2 hc1
      go_wp2_with (at_builtin; refine wpList_append_str_at _ rfl _ _ 76 9 rfl base 5 i0 Tryz.underlying76 Tryz.underlying9 hi hz0 hz1 hz2 v cur.length (cur.map B8) rfl hown x rfl ?c1 HLN.out ?c2 ?_)
      case c1 => have := HLN.out; unfold maxLen; omega
      case c2 => omega
      intro v' w3 hown3 hgrow hat
      obtain ⟨g', cap', rfl, _, _⟩ := hown3.form (by have := HCL.out; omega)
      have R := wr_put_text hb hown hown3 hgrow hat
      have hb3 : w3.heap[b]? = some (.cells #[v] 125 (0, 0)) := (hgrow.block b hlt2 hbr).trans hb
      have hc3 := cell_of_one hb3
      have hf3 := free_of_one hb3
      have HR : Hid _ := R
      clear R hown3 hgrow hat hb3 hown hb hc2 hf2 hbr
      go_wp2
      go_roundw
      case rel => exact ⟨k + 1, _, by omega, by go_num, by show WrAt _ _ _ _ _; rw [HN.out]; exact (HCU.out ▸ HR.out.1), (HS.out.trans HS2.out).trans HR.out.2⟩
      case measure => simp [intOf]; omega
    · have hk' : k = xs.length := by omega
      subst hk'
      go_wp2
      go_end0
      exact ⟨rfl, r1, by have := HW.out; rwa [List.take_length] at this, HS.out⟩

end Go.Proofs.YtedjohkdfchocaaGreat.Pk

/-
  Package pack's inner functions 'spare', 'above' and 'number': what they answer, for every text.
-/
namespace Go.Proofs.YtedjohkdfchocaaGreat.Pk
open Go.RowKit
set_option linter.unusedVariables false

theorem ret_bool {a b : Bool} (h : a = b) : Ending.returned (.bool a) = .returned (.bool b) := by rw [h]

theorem spare_any (i : Nat) (c : UInt8) (w : World) (hi : i < 10) :
    Calls Tryz.prog 95 #[.int .i64 i, .int .u8 c.toNat] w fun e w' => e = .returned (.bool (decide (0 < i ∧ c.toNat = 0))) ∧ w' = w := by
  go_enter Tryz.func95, Tryz.ntmps95
  go_wp2
  · have h : 0 < i := by assumption
    go_ret
    exact ⟨ret_bool (by rw [Bool.eq_iff_iff]; simp [h]), rfl⟩
  · have h : ¬ 0 < i := by assumption
    go_ret
    exact ⟨ret_bool (by simp [h]), rfl⟩
theorem above_any (i : Nat) (c : UInt8) (w : World) (hi : i < 10) :
    Calls Tryz.prog 96 #[.int .i64 i, .int .u8 c.toNat] w fun e w' => e = .returned (.bool (decide (i = 9 ∧ 1 < c.toNat))) ∧ w' = w := by
  by_cases h : i = 9
  · subst h
    go_enter Tryz.func96, Tryz.ntmps96
    go_wp2
    go_ret
    exact ⟨ret_bool (by rw [Bool.eq_iff_iff]; simp; omega), rfl⟩
  · have h9 : ((i : Int) == 9) = false := by rw [beq_eq_false_iff_ne]; omega
    go_enter Tryz.func96, Tryz.ntmps96
    go_wp2
    go_ret
    exact ⟨ret_bool (by simp [h]), rfl⟩

theorem mask127 (c : UInt8) : bits .andNot .u8 (c.toNat : Int) 128 = ((c.toNat % 128 : Nat) : Int) := by
  have := u8_andNot_nat c.toNat 128 (u8_lt _) (by omega)
  rw [show (((128 : Nat) : Int)) = 128 from rfl] at this
  rw [this]
  congr 1
  exact Nat.and_two_pow_sub_one_eq_mod _ 7
theorem pow7 (k : Nat) : 2 ^ (7 * k) = 128 ^ k := by rw [Nat.pow_mul]
theorem shl7 {c k : Nat} (hc : c < 256) (hk : k < 10) (h9 : k = 9 → c % 128 ≤ 1) : IntKind.u64.wrap ((c : Int) % 128 * 2 ^ (7 * k)) = ((128 ^ k * (c % 128) : Nat) : Int) := by
  have e : ((c : Int) % 128 * 2 ^ (7 * k)) = ((128 ^ k * (c % 128) : Nat) : Int) := by
    rw [← pow7]; push_cast; rw [Int.mul_comm]
  rw [e]
  refine IntWalk.u64_in _ ⟨by omega, ?_⟩
  have h2 : 128 ^ k * (c % 128) ≤ 18446744073709551615 := by
    by_cases h : k = 9
    · subst h
      have := h9 rfl
      omega
    · have h3 : (128 : Nat) ^ k ≤ 128 ^ 8 := Nat.pow_le_pow_right (by omega) (by omega)
      have h4 : 128 ^ k * (c % 128) ≤ 128 ^ 8 * 127 := Nat.mul_le_mul h3 (by omega)
      omega
  omega
theorem or_sum {m k c : Nat} (hm : m < 128 ^ k) (hb : 128 ^ k * (c % 128) < 18446744073709551616) (hk : k < 10) : bits .or .u64 (m : Int) ((128 ^ k * (c % 128) : Nat) : Int) = ((m + 128 ^ k * (c % 128) : Nat) : Int) := by
  have h3 : (128 : Nat) ^ k ≤ 128 ^ 9 := Nat.pow_le_pow_right (by omega) (by omega)
  rw [u64_or_nat _ _ (by omega) hb]
  congr 1
  rw [← pow7] at hm ⊢
  rw [Nat.or_comm, ← Nat.two_pow_add_eq_or_of_lt hm, Nat.add_comm]

theorem take_snoc (s : ByteArray) (k : Nat) (h : k < s.size) : s.data.toList.take (k + 1) = s.data.toList.take k ++ [s[k]] := by
  rw [List.take_succ_eq_append_getElem (by simpa using h)]; rfl
theorem take_len (s : ByteArray) (k : Nat) (h : k ≤ s.size) : (s.data.toList.take k).length = k := by
  rw [List.length_take, Array.length_toList]; exact Nat.min_eq_left h
theorem split_at (s : ByteArray) (k : Nat) (h : k < s.size) : s.data.toList = s.data.toList.take k ++ s[k] :: s.data.toList.drop (k + 1) := by
  have h' : k < s.data.toList.length := by simpa using h
  conv => lhs; rw [← List.take_append_drop k s.data.toList]
  rw [List.drop_eq_getElem_cons h']; rfl
/-- What the number comes to where byte k is the last. -/
theorem num_last (s : ByteArray) (k : Nat) (h : k < s.size) (hk : k < 10) (hp : ∀ x ∈ s.data.toList.take k, 128 ≤ x.toNat) (hc : s[k].toNat < 128) :
    num s.data.toList = if (0 < k ∧ s[k].toNat = 0) ∨ (k = 9 ∧ 1 < s[k].toNat) then (0, 0) else (val (s.data.toList.take k) + 128 ^ k * s[k].toNat, k + 1) := by
  have hl := take_len s k (by omega)
  have := dnum_last (s.data.toList.take k) s[k] (s.data.toList.drop (k + 1)) (by omega) hp hc
  rw [← split_at s k h, hl] at this
  rw [num, this]
  split <;> rfl
theorem num_no_last (s : ByteArray) (k : Nat) (h : k = s.size ∨ k = 10) (hp : ∀ x ∈ s.data.toList.take k, 128 ≤ x.toNat) : num s.data.toList = (0, 0) := by
  rw [num, dnum_no_last]; rfl
  rcases h with h | h
  · subst h
    rw [List.take_of_length_le (by simp)] at hp
    exact fun x hx => hp x (List.mem_of_mem_take hx)
  · subst h; exact hp

theorem ret_two {a b : Int} {p : Nat × Nat} (h : a = p.1) (h' : b = p.2) : Ending.returned (.tuple #[.int .u64 a, .int .i64 b]) = .returned (.tuple #[.int .u64 p.1, .int .i64 p.2]) := by rw [h, h']
theorem or_shl {m c k : Nat} (hm : m < 128 ^ k) (hc : c < 256) (hk : k < 10) (h9 : k = 9 → c % 128 ≤ 1) :
    bits .or .u64 (m : Int) (IntKind.u64.wrap ((c : Int) % 128 * 2 ^ (7 * k))) = ((m + 128 ^ k * (c % 128) : Nat) : Int) := by
  rw [shl7 hc hk h9]
  refine or_sum hm ?_ hk
  by_cases h : k = 9
  · subst h
    have := h9 rfl
    omega
  · have h3 : (128 : Nat) ^ k ≤ 128 ^ 8 := Nat.pow_le_pow_right (by omega) (by omega)
    have h4 : 128 ^ k * (c % 128) ≤ 128 ^ 8 * 127 := Nat.mul_le_mul h3 (by omega)
    omega

set_option maxRecDepth 100000 in
set_option maxHeartbeats 1000000 in
theorem number_any (s : ByteArray) (w : World) (hs : s.size ≤ maxLen) :
    Calls Tryz.prog 81 #[.string s] w fun e w' => e = .returned (.tuple #[.int .u64 (num s.data.toList).1, .int .i64 (num s.data.toList).2]) ∧ w' = w := by
  rcases (show s.size ≤ 10 ∨ 10 < s.size by omega) with h10 | h10
  all_goals
    go_enter Tryz.func81, Tryz.ntmps81
    go_wp2
    go_loop [4, 10] (fun n i => ∃ (k : Nat) (m : Int), k ≤ 10 ∧ k ≤ s.size ∧ i = .int .i64 k ∧ n = .int .u64 m ∧ Hid (k < 10 → m = ((val (s.data.toList.take k) : Nat) : Int)) ∧ Hid (∀ x ∈ s.data.toList.take k, 128 ≤ x.toNat)) (fun _ i => 10 - (intOf i).toNat)
    case atStart => exact ⟨0, 0, by omega, by omega, rfl, rfl, fun _ => rfl, fun x hx => by simp at hx⟩
    case round =>
      obtain ⟨k, m, hk, hk2, rfl, rfl, HM, HP⟩ := hrel
      by_cases hlt : k < s.size ∧ k < 10
      · obtain ⟨hlt, hk10⟩ := hlt
        have hmask : bits .andNot .u8 (s[k].toNat : Int) 128 = ((s[k].toNat % 128 : Nat) : Int) := mask127 _
        have hv : val (s.data.toList.take k) < 128 ^ k := by have := val_lt (s.data.toList.take k); rwa [take_len s k (by omega)] at this
        have hcl := u8_lt s[k]
        have hm := HM.out hk10
        subst hm
        clear HM
        by_cases hc : s[k].toNat < 128
        · have HL : Hid (num s.data.toList = if (0 < k ∧ s[k].toNat = 0) ∨ (k = 9 ∧ 1 < s[k].toNat) then (0, 0) else (val (s.data.toList.take k) + 128 ^ k * s[k].toNat, k + 1)) := num_last s k hlt hk10 HP.out hc
          generalize val (s.data.toList.take k) = m at *
          by_cases hq : (0 < k ∧ s[k].toNat = 0) ∨ (k = 9 ∧ 1 < s[k].toNat)
          · have HV : Hid (num s.data.toList = (0, 0)) := by have := HL.out; rwa [if_pos hq] at this
            go_wp2_with (first | (go_at_call 95; refine (spare_any _ _ _ ?_).mono ?_; (· omega); rintro e w' ⟨rfl, rfl⟩) | (go_at_call 96; refine (above_any _ _ _ ?_).mono ?_; (· omega); rintro e w' ⟨rfl, rfl⟩))
            all_goals first
              | (exfalso; go_light; simp_all; done)
              | (go_ret2; exact ⟨ret_two (by rw [HV.out]; rfl) (by rw [HV.out]; rfl), rfl⟩)
          · have HV : Hid (num s.data.toList = (m + 128 ^ k * s[k].toNat, k + 1)) := by have := HL.out; rwa [if_neg hq] at this
            have HO : Hid (bits .or .u64 (m : Int) (IntKind.u64.wrap ((s[k].toNat : Int) % 128 * 2 ^ (7 * k))) = ((m + 128 ^ k * (s[k].toNat % 128) : Nat) : Int)) := or_shl hv hcl hk10 (by omega)
            have hmod : s[k].toNat % 128 = s[k].toNat := by omega
            have HM : Hid (s[k].toNat % 128 = s[k].toNat) := hmod
            clear hmod HL
            go_wp2_with (first | (go_at_call 95; refine (spare_any _ _ _ ?_).mono ?_; (· omega); rintro e w' ⟨rfl, rfl⟩) | (go_at_call 96; refine (above_any _ _ _ ?_).mono ?_; (· omega); rintro e w' ⟨rfl, rfl⟩))
            all_goals first
              | (exfalso; go_light; simp_all; done)
              | (go_ret2; exact ⟨ret_two (by rw [HV.out, HO.out, HM.out]) (by rw [HV.out]; simp), rfl⟩)
        · have HS : Hid (∀ x ∈ s.data.toList.take (k + 1), 128 ≤ x.toNat) := by
            show ∀ x ∈ s.data.toList.take (k + 1), 128 ≤ x.toNat
            rw [take_snoc s k hlt]
            intro x hx
            rcases List.mem_append.1 hx with hx | hx
            · exact HP.out x hx
            · simp at hx; subst hx; omega
          have HO : Hid (k + 1 < 10 → bits .or .u64 ((val (s.data.toList.take k) : Nat) : Int) (IntKind.u64.wrap ((s[k].toNat : Int) % 128 * 2 ^ (7 * k))) = ((val (s.data.toList.take (k + 1)) : Nat) : Int)) := by
            intro h
            rw [or_shl hv hcl hk10 (by omega), take_snoc s k hlt, val_snoc, take_len s k (by omega)]
          go_wp2
          go_round
          case rel => exact ⟨k + 1, _, by omega, by omega, by go_num, rfl, HO, HS⟩
          case measure => simp [intOf]; omega
      · have HV : Hid (num s.data.toList = (0, 0)) := num_no_last s k (by omega) HP.out
        go_wp2
        go_ret2
        exact ⟨ret_two (by rw [HV.out]; rfl) (by rw [HV.out]; rfl), rfl⟩

end Go.Proofs.YtedjohkdfchocaaGreat.Pk

/-
  Package pack: what Bytes, Len, Nums, Ints and Texts answer, and a reader's Read, Left, Done, Num and Int.
-/
namespace Go.Proofs.YtedjohkdfchocaaGreat.Pk
open Go.RowKit
set_option linter.unusedVariables false

/-- What an owned row of bytes reads as, as a string. -/
theorem own_string {w : World} {base : Nat} {v : Value} {bs : List UInt8} (h : w.ownsRow base 5 1 v bs.length (bs.map B8)) :
    (convert 76 9 v).run Tryz.prog w = .ok (.string ⟨bs.toArray⟩) w := by
  rcases h.2 with ⟨rfl, hn⟩ | ⟨g, cap, cur, rfl, _, hg, _, _, _, htake⟩
  · have : bs = [] := List.eq_nil_of_length_eq_zero hn
    subst this
    rw [run_convert_bytes_string w 76 9 5 none 0 0 Tryz.underlying76 Tryz.underlying5 Tryz.underlying9]
    simp [Conv.bytesToString]
    rfl
  · refine run_convert_bytes_back w 76 9 5 ⟨g, 0, none⟩ cap bs Tryz.underlying76 Tryz.underlying5 Tryz.underlying9 fun j hj => ?_
    have := h.cells (g := g) rfl j (B8 bs[j]) (by simp [hj])
    exact this

theorem own_len {w : World} {base : Nat} {v : Value} {bs : List UInt8} (h : w.ownsRow base 5 1 v bs.length (bs.map B8)) :
    ∃ ao cap, v = .slice ao bs.length cap := by
  rcases h.2 with ⟨rfl, hn⟩ | ⟨g, cap, cur, rfl, _⟩
  · exact ⟨none, 0, by rw [hn]⟩
  · exact ⟨_, cap, rfl⟩

theorem wBytes_any (base b : Nat) (r : Option Nat) (bs : List UInt8) (w : World) (hw : WrAt w base b r bs) :
    Calls Tryz.prog 43 #[.pointer (some ⟨b, 0, none⟩)] w fun e w' => e = .returned (.string ⟨bs.toArray⟩) ∧ w' = w := by
  obtain ⟨v, hb, hown, _⟩ := hw
  have hc := cell_of_one hb
  have hs := own_string hown
  go_enter Tryz.func43, Tryz.ntmps43
  go_wp2
  go_ret
  exact ⟨rfl, rfl⟩

/-! ### Readers -/
/-- Block b is a reader that has the bytes s left. -/
def RdAt (w : World) (b : Nat) (s : ByteArray) : Prop := w.heap[b]? = some (.cells #[.string s] 136 (0, 0))

theorem read_any (s : ByteArray) (w : World) :
    Calls Tryz.prog 56 #[.string s] w fun e w' => e = .returned (.pointer (some ⟨w.heap.size, 0, none⟩)) ∧ w' = w.alloc (.cells #[.string s] 136) := by
  go_enter Tryz.func56, Tryz.ntmps56
  go_wp2
  go_ret
  exact ⟨rfl, rfl⟩
theorem read_at (w : World) (s : ByteArray) : RdAt (w.alloc (.cells #[.string s] 136)) w.heap.size s := heap_alloc_new w _

theorem empty_iff (s : ByteArray) : s.toList.isEmpty = decide (s.size = 0) := by
  rw [Lib.toList_data, Lib.size_eq]
  cases s.data.toList <;> simp
theorem done_any (b : Nat) (s : ByteArray) (w : World) (hr : RdAt w b s) :
    Calls Tryz.prog 85 #[.pointer (some ⟨b, 0, none⟩)] w fun e w' => e = .returned (.bool (decide (s.size = 0))) ∧ w' = w := by
  have hc := cell_of_one hr
  go_enter Tryz.func85, Tryz.ntmps85
  go_wp2
  go_ret
  exact ⟨ret_bool (empty_iff s), rfl⟩

theorem rNum_none (b : Nat) (s : ByteArray) (w : World) (hr : RdAt w b s) (hs : s.size ≤ maxLen) (hd : dnum s.data.toList = none) :
    Calls Tryz.prog 57 #[.pointer (some ⟨b, 0, none⟩)] w fun e w' => e = .returned (.tuple #[.int .u64 0, .int .i64 1]) ∧ w' = w := by
  have hc := cell_of_one hr
  have HN : Hid (num s.data.toList = (0, 0)) := num_none hd
  go_enter Tryz.func57, Tryz.ntmps57
  go_wp2_with fail
  refine (number_any s _ hs).mono ?_
  rintro e w' ⟨rfl, rfl⟩
  rw [HN.out]
  go_wp2
  go_ret2
  exact ⟨rfl, rfl⟩
theorem rNum_some (b : Nat) (s : ByteArray) (w : World) (hr : RdAt w b s) (hs : s.size ≤ maxLen) (n k : Nat) (hd : dnum s.data.toList = some (n, k)) :
    Calls Tryz.prog 57 #[.pointer (some ⟨b, 0, none⟩)] w fun e w' => e = .returned (.tuple #[.int .u64 n, .int .i64 0]) ∧ w' = w.setCell ⟨b, 0, none⟩ (.string (s.extract k s.size)) := by
  have hc := cell_of_one hr
  have hf := free_of_one hr
  have HN : Hid (num s.data.toList = (n, k)) := num_some hd
  have hp := dnum_some hd
  have hl := enc_len n
  have hk1 : 1 ≤ k := by omega
  have hk2 : k ≤ s.size := by have := hp.2.2.2; simpa using this
  clear hp hl hd
  go_enter Tryz.func57, Tryz.ntmps57
  go_wp2_with fail
  refine (number_any s _ hs).mono ?_
  rintro e w' ⟨rfl, rfl⟩
  rw [HN.out]
  go_wp2
  go_ret2
  exact ⟨rfl, rfl⟩

theorem unfold_odd {n : Nat} (h : n % 2 = 1) (hn : n < 18446744073709551616) : bits .xor .i64 (-1) ((n : Int) / 2) = unfold n := by
  rw [show (n : Int) / 2 = ((n / 2 : Nat) : Int) by omega, i64_not _ (by omega)]
  unfold unfold; rw [if_pos h]; omega
theorem unfold_any (n : Nat) (w : World) (hn : n < 18446744073709551616) :
    Calls Tryz.prog 103 #[.int .u64 n] w fun e w' => e = .returned (.int .i64 (unfold n)) ∧ w' = w := by
  by_cases h : n % 2 = 1
  · have hb : ((n : Int) % 2 == 1) = true := by rw [beq_iff_eq]; omega
    have HO := unfold_odd h hn
    have HO : Hid _ := HO
    clear h
    go_enter Tryz.func103, Tryz.ntmps103
    go_wp2
    go_ret
    exact ⟨rfl, rfl⟩
  · have hb : ((n : Int) % 2 == 1) = false := by rw [beq_eq_false_iff_ne]; omega
    have HO : Hid ((n : Int) / 2 = unfold n) := by show _ = _; unfold unfold; rw [if_neg h]; omega
    clear h
    go_enter Tryz.func103, Tryz.ntmps103
    go_wp2
    go_ret
    exact ⟨ret_int HO.out, rfl⟩

theorem rInt_none (b : Nat) (s : ByteArray) (w : World) (hr : RdAt w b s) (hs : s.size ≤ maxLen) (hd : dnum s.data.toList = none) :
    Calls Tryz.prog 99 #[.pointer (some ⟨b, 0, none⟩)] w fun e w' => e = .returned (.tuple #[.int .i64 0, .int .i64 1]) ∧ w' = w := by
  go_enter Tryz.func99, Tryz.ntmps99
  go_wp2_with (go_at_call 57; refine (rNum_none b s _ hr hs hd).mono ?_; rintro e w' ⟨rfl, rfl⟩)
  go_ret2
  exact ⟨rfl, rfl⟩
theorem rInt_some (b : Nat) (s : ByteArray) (w : World) (hr : RdAt w b s) (hs : s.size ≤ maxLen) (n k : Nat) (hd : dnum s.data.toList = some (n, k)) :
    Calls Tryz.prog 99 #[.pointer (some ⟨b, 0, none⟩)] w fun e w' => e = .returned (.tuple #[.int .i64 (unfold n), .int .i64 0]) ∧ w' = w.setCell ⟨b, 0, none⟩ (.string (s.extract k s.size)) := by
  have hn := (dnum_some hd).1
  go_enter Tryz.func99, Tryz.ntmps99
  go_wp2_with (first | (go_at_call 57; refine (rNum_some b s _ hr hs n k hd).mono ?_; rintro e w' ⟨rfl, rfl⟩) | (go_at_call 103; refine (unfold_any n _ hn).mono ?_; rintro e w' ⟨rfl, rfl⟩))
  go_ret2
  exact ⟨rfl, rfl⟩

/-! ### The three that make a text of a list -/
set_option maxHeartbeats 1000000 in
theorem Nums_any (g off cap : Nat) (xs : List Nat) (w : World) (hx : ∀ x ∈ xs, x < 18446744073709551616)
    (hcells : ∀ j, j < xs.length → w.cell? ⟨g, off + j, none⟩ = some (.int .u64 (xs.getD j 0))) (hgl : g < w.heap.size) (hsz : 10 * xs.length ≤ 140737488355328) :
    Calls Tryz.prog 48 #[.slice (some ⟨g, off, none⟩) xs.length cap] w fun e w' => e = .returned (.string ⟨(nums xs).toArray⟩) ∧ Below w.heap.size w w' := by
  go_enter Tryz.func48, Tryz.ntmps48
  go_wp2_with fail
  refine (new_any _ 0 (Nat.zero_le _)).mono ?_
  rintro e w1 ⟨rfl, rfl⟩
  go_wp2_with fail
  refine (wNum_any w.heap.size w.heap.size g off cap none [] xs _ (new_wr w _) hx (fun j hj => ?_) (by omega) (by simp) (by simp; omega) (by simpa using hsz) (by simp)).mono ?_
  · rw [World.cell?_of_block (Below.heap_alloc _ _ _ hgl)]; exact hcells j hj
  rintro e w2 ⟨rfl, r2, hw2, hs2⟩
  have HB : Hid (Below w.heap.size w w2) := ((Below.refl _ w).alloc (Nat.le_refl _) _).trans (hs2.below (by simp) (Nat.le_refl _) (fun k hk => by cases hk))
  clear hs2
  go_wp2_with fail
  refine (wBytes_any _ _ _ _ _ hw2).mono ?_
  rintro e w3 ⟨rfl, rfl⟩
  go_wp2
  go_ret
  exact ⟨rfl, HB.out⟩
end Go.Proofs.YtedjohkdfchocaaGreat.Pk

/-
  Package pack's reader: what Text answers. (The library's Clone by its contract of the shelf, laid at this translation.)
-/
namespace Go.Proofs.YtedjohkdfchocaaGreat.Pk
open Go.RowKit
set_option linter.unusedVariables false

theorem clone_any (s : ByteArray) (w : World) (hlim : s.size ≤ 281474976710656) :
    Calls Tryz.prog 80 #[.string s] w fun e w' => e = .returned (.string s) ∧ Below w.heap.size w w' := Cm.clone_any s w hlim
theorem dtext_none {l : List UInt8} (h : dtext l = none) : dnum l = none ∨ ∃ n k, dnum l = some (n, k) ∧ l.length - k < n := by
  unfold dtext at h
  cases hd : dnum l with
  | none => exact .inl rfl
  | some p =>
    obtain ⟨n, k⟩ := p
    rw [hd] at h
    simp only at h
    split at h
    · cases h
    · exact .inr ⟨n, k, rfl, by omega⟩
theorem dtext_some {l : List UInt8} {n k : Nat} (h : dtext l = some (k, n)) : dnum l = some (n, k) ∧ n ≤ l.length - k := by
  unfold dtext at h
  cases hd : dnum l with
  | none => rw [hd] at h; cases h
  | some p =>
    obtain ⟨n', k'⟩ := p
    rw [hd] at h
    simp only at h
    split at h
    · simp only [Option.some.injEq, Prod.mk.injEq] at h
      obtain ⟨rfl, rfl⟩ := h
      exact ⟨rfl, by assumption⟩
    · cases h

set_option maxHeartbeats 1000000 in
theorem rText_none (b : Nat) (s : ByteArray) (w : World) (hr : RdAt w b s) (hs : s.size ≤ maxLen) (hd : dtext s.data.toList = none) :
    Calls Tryz.prog 98 #[.pointer (some ⟨b, 0, none⟩)] w fun e w' => e = .returned (.tuple #[.string ⟨#[]⟩, .int .i64 1]) ∧ w' = w := by
  have hc := cell_of_one hr
  have hs' := hs
  unfold maxLen at hs'
  rcases dtext_none hd with h | ⟨n, k, h, hlt⟩
  · have HN : Hid (num s.data.toList = (0, 0)) := num_none h
    go_enter Tryz.func98, Tryz.ntmps98
    go_wp2_with fail
    refine (number_any s _ hs).mono ?_
    rintro e w' ⟨rfl, rfl⟩
    rw [HN.out]
    go_wp2
    go_ret2
    exact ⟨rfl, rfl⟩
  · have HN : Hid (num s.data.toList = (n, k)) := num_some h
    have hp := dnum_some h
    have hl := enc_len n
    have hk1 : 1 ≤ k := by omega
    have hk2 : k ≤ s.size := by have := hp.2.2.2; simpa using this
    have hlt2 : s.size - k < n := by rw [Lib.size_eq]; exact hlt
    clear hp hl h hlt
    go_enter Tryz.func98, Tryz.ntmps98
    go_wp2_with fail
    refine (number_any s _ hs).mono ?_
    rintro e w' ⟨rfl, rfl⟩
    rw [HN.out]
    go_wp2
    go_ret2
    exact ⟨rfl, rfl⟩

theorem str_slice (s : ByteArray) (k n : Nat) (h : k + n ≤ s.size) (W : World) : (Instr.slice 9 (.string s) (some (.int .i64 (k : Int))) (some (.int .i64 ((k : Int) + (n : Int)))) none).run Tryz.prog W = .ok (.string (s.extract k (k + n))) W := by
  have := run_slice_string (P := Tryz.prog) W 9 s .i64 .i64 (k : Int) ((k : Int) + (n : Int)) Tryz.underlying9 (by omega) (by omega) (by omega)
  rwa [show ((k : Int) + (n : Int)).toNat = k + n by omega, Int.toNat_natCast] at this

set_option maxHeartbeats 1000000 in
theorem rText_some (b : Nat) (s : ByteArray) (w : World) (hr : RdAt w b s) (hs : s.size ≤ 140737488355328) (n k : Nat) (hd : dtext s.data.toList = some (k, n)) :
    Calls Tryz.prog 98 #[.pointer (some ⟨b, 0, none⟩)] w fun e w' => e = .returned (.tuple #[.string (s.extract k (k + n)), .int .i64 0]) ∧ ∃ w1, Below w.heap.size w w1 ∧ w' = w1.setCell ⟨b, 0, none⟩ (.string (s.extract (k + n) s.size)) := by
  have hc := cell_of_one hr
  have hf := free_of_one hr
  have hlt := lt_of_block hr
  obtain ⟨h, hle⟩ := dtext_some hd
  have HN : Hid (num s.data.toList = (n, k)) := num_some h
  have hp := dnum_some h
  have hl := enc_len n
  have hk1 : 1 ≤ k := by omega
  have hk2 : k ≤ s.size := by have := hp.2.2.2; simpa using this
  have hle2 : k + n ≤ s.size := by rw [← Lib.size_eq] at hle; omega
  clear hp hl h hle hd
  go_enter Tryz.func98, Tryz.ntmps98
  go_wp2_with fail
  refine (number_any s _ (by unfold maxLen; omega)).mono ?_
  rintro e w' ⟨rfl, rfl⟩
  rw [HN.out]
  have hk0 : ((k : Int) == 0) = false := by rw [beq_eq_false_iff_ne]; omega
  have hdn : decide ((s.size : Int) - (k : Int) < (n : Int)) = false := by simp; omega
  have h0k : (0 : Int) ≤ (k : Int) := by omega
  have hkm : (k : Int) ≤ (k : Int) + (n : Int) := by omega
  have hms : (k : Int) + (n : Int) ≤ (s.size : Int) := by omega
  have hsl := str_slice s k n hle2
  go_wp2_with fail
  refine (clone_any (s.extract k (k + n)) _ (by simp; omega)).mono ?_
  rintro e w1 ⟨rfl, hb1⟩
  have hr1 : RdAt w1 b s := (hb1.block b hlt).trans hr
  have hc1 := cell_of_one hr1
  have hf1 := free_of_one hr1
  go_wp2
  go_ret2
  exact ⟨rfl, w1, hb1, rfl⟩

end Go.Proofs.YtedjohkdfchocaaGreat.Pk

/-
  Package pack's reader, as the statements use it: what it takes from bytes that begin with a number's, a whole number's or a text's, and that it stays where they don't.
-/
namespace Go.Proofs.YtedjohkdfchocaaGreat.Pk
open Go.RowKit
set_option linter.unusedVariables false

theorem RdAt.lt {w : World} {b : Nat} {s : ByteArray} (h : RdAt w b s) : b < w.heap.size := lt_of_block h
theorem RdAt.alloc {w : World} {b : Nat} {s : ByteArray} (h : RdAt w b s) (o : Obj) : RdAt (w.alloc o) b s := (Below.heap_alloc _ _ _ h.lt).trans h
theorem RdAt.below {w w' : World} {b : Nat} {s : ByteArray} (h : RdAt w b s) {B : Nat} (hb : Below B w w') (hB : b < B) : RdAt w' b s := (hb.block b hB).trans h
theorem WrAt.alloc {w : World} {base b : Nat} {r : Option Nat} {bs : List UInt8} (h : WrAt w base b r bs) (o : Obj) : WrAt (w.alloc o) base b r bs :=
  h.keep (Below.heap_alloc _ _ _ h.lt) fun k hk => Below.heap_alloc _ _ _ (h.row_ge k hk).2.1

theorem step_set {w w1 : World} {b : Nat} (h : Below w.heap.size w w1) (v : Value) : Step b w none (w1.setCell ⟨b, 0, none⟩ v) none :=
  ⟨⟨h.os, h.tape, h.output, by simpa [World.setCell] using h.size, fun k hk hkb _ => by rw [Below.heap_setCell _ _ _ _ (by simpa using hkb)]; exact h.block k hk⟩, .inl rfl⟩

theorem rest_of {s : ByteArray} {p r : List UInt8} (h : s.data.toList = p ++ r) : (s.extract p.length s.size).data.toList = r := by
  rw [Lib.extract_data, Lib.size_eq, h, List.drop_left, List.take_of_length_le]
  simp
theorem mid_of {s : ByteArray} {p q r : List UInt8} (h : s.data.toList = p ++ (q ++ r)) : s.extract p.length (p.length + q.length) = ⟨q.toArray⟩ := by
  rw [Lib.extract_eq, h, List.drop_left, Nat.add_sub_cancel_left, List.take_left]
theorem rest2_of {s : ByteArray} {p q r : List UInt8} (h : s.data.toList = p ++ (q ++ r)) : (s.extract (p.length + q.length) s.size).data.toList = r := by
  rw [← List.length_append]
  exact rest_of (by rw [h, List.append_assoc])

theorem rNum_read (b n : Nat) (rest : List UInt8) (s : ByteArray) (w : World) (hr : RdAt w b s) (hs : s.size ≤ maxLen) (hn : n < 18446744073709551616) (hl : s.data.toList = enc n ++ rest) :
    Calls Tryz.prog 57 #[.pointer (some ⟨b, 0, none⟩)] w fun e w' => e = .returned (.tuple #[.int .u64 n, .int .i64 0]) ∧ ∃ s', RdAt w' b s' ∧ s'.data.toList = rest ∧ Step b w none w' none := by
  refine (rNum_some b s w hr hs n (enc n).length (by rw [hl]; exact dnum_enc n rest hn)).mono ?_
  rintro e w' ⟨rfl, rfl⟩
  exact ⟨rfl, _, one_setCell hr, rest_of hl, step_set (Below.refl _ _) _⟩
theorem rInt_read (b u : Nat) (rest : List UInt8) (s : ByteArray) (w : World) (hr : RdAt w b s) (hs : s.size ≤ maxLen) (hn : u < 18446744073709551616) (hl : s.data.toList = enc u ++ rest) :
    Calls Tryz.prog 99 #[.pointer (some ⟨b, 0, none⟩)] w fun e w' => e = .returned (.tuple #[.int .i64 (unfold u), .int .i64 0]) ∧ ∃ s', RdAt w' b s' ∧ s'.data.toList = rest ∧ Step b w none w' none := by
  refine (rInt_some b s w hr hs u (enc u).length (by rw [hl]; exact dnum_enc u rest hn)).mono ?_
  rintro e w' ⟨rfl, rfl⟩
  exact ⟨rfl, _, one_setCell hr, rest_of hl, step_set (Below.refl _ _) _⟩
theorem dtext_text (t rest : List UInt8) (h : t.length < 18446744073709551616) : dtext (text t ++ rest) = some ((enc t.length).length, t.length) := by
  unfold dtext text
  rw [List.append_assoc, dnum_enc _ _ h]
  simp only
  rw [if_pos (by simp)]
theorem rText_read (b : Nat) (t rest : List UInt8) (s : ByteArray) (w : World) (hr : RdAt w b s) (hs : s.size ≤ 140737488355328) (hl : s.data.toList = text t ++ rest) :
    Calls Tryz.prog 98 #[.pointer (some ⟨b, 0, none⟩)] w fun e w' => e = .returned (.tuple #[.string ⟨t.toArray⟩, .int .i64 0]) ∧ ∃ s', RdAt w' b s' ∧ s'.data.toList = rest ∧ Step b w none w' none := by
  have ht : t.length < 18446744073709551616 := by
    have := congrArg List.length hl
    rw [← Lib.size_eq] at this
    simp [text] at this
    omega
  have hl2 : s.data.toList = enc t.length ++ (t ++ rest) := by rw [hl, text, List.append_assoc]
  refine (rText_some b s w hr hs t.length (enc t.length).length (by rw [hl]; exact dtext_text t rest ht)).mono ?_
  rintro e w' ⟨rfl, w1, hb1, rfl⟩
  have hr1 : RdAt w1 b s := hr.below hb1 hr.lt
  exact ⟨by rw [mid_of hl2], _, one_setCell hr1, rest2_of hl2, step_set hb1 _⟩

end Go.Proofs.YtedjohkdfchocaaGreat.Pk
