/-
  Package pack's writer: what New, Num, Int, Text, Bytes and Len do, for every list.
-/
import Derived.Test.YtjiajnmpdlaidaaPackPut
import Derived.Lib.AppendStr
namespace Go.Proofs.Ytjiajnmpdlaidaa.Pk
open Go.RowKit
set_option linter.unusedVariables false

theorem new_any (w : World) (base : Nat) (hb : base ≤ w.heap.size) :
    Calls Try.prog 15 #[] w fun e w' => e = .returned (.pointer (some ⟨w.heap.size, 0, none⟩)) ∧ w' = w.alloc (.cells #[.slice none 0 0] 77) := by
  go_enter Try.func15, Try.ntmps15
  go_wp2
  go_ret
  exact ⟨rfl, rfl⟩
theorem new_wr (w : World) (base : Nat) : WrAt (w.alloc (.cells #[.slice none 0 0] 77)) base w.heap.size none [] :=
  ⟨.slice none 0 0, heap_alloc_new w _, World.ownsRow_nil _ _ _ _, rfl⟩

theorem not_neg {n : Int} (h1 : -9223372036854775808 ≤ n) (h2 : n < 0) : bits .xor .i64 (-1) n = -1 - n := by
  show IntKind.i64.wrap ((BitVec.ofInt 64 (-1) ^^^ BitVec.ofInt 64 n).toNat : Int) = _
  have h3 : BitVec.ofInt 64 (-1) = BitVec.allOnes 64 := by decide
  rw [h3, BitVec.allOnes_xor, BitVec.toNat_not, BitVec.toNat_ofInt]
  simp [IntKind.wrap, IntKind.bits, IntKind.signed]
  omega
theorem ret_int {k : IntKind} {a b : Int} (h : a = b) : Ending.returned (.int k a) = .returned (.int k b) := by rw [h]
theorem fold_neg {n x : Int} (h : n < 0) (hx : x = -1 - n) (h1 : x ≤ 9223372036854775807) : IntKind.u64.wrap (IntKind.u64.wrap (2 * IntKind.u64.wrap x) + 1) = (fold n : Int) := by
  rw [IntWalk.u64_in x ⟨by omega, by omega⟩, IntWalk.u64_in (2 * x) ⟨by omega, by omega⟩, IntWalk.u64_in _ ⟨by omega, by omega⟩]
  unfold fold; rw [if_pos h]; omega
theorem fold_pos {n : Int} (h : 0 ≤ n) : 2 * n = (fold n : Int) := by
  unfold fold; rw [if_neg (by omega)]; omega
theorem fold_any (n : Int) (w : World) (h1 : -9223372036854775808 ≤ n) (h2 : n ≤ 9223372036854775807) :
    Calls Try.prog 46 #[.int .i64 n] w fun e w' => e = .returned (.int .u64 (fold n)) ∧ w' = w := by
  by_cases h : n < 0
  · obtain ⟨x, HX⟩ : ∃ x, Hid (x = -1 - n) := ⟨_, rfl⟩
    have HN : Hid (n < 0) := h
    have hx0 : 0 ≤ x := by have := HX.out; omega
    have hx1 : x ≤ 9223372036854775807 := by have := HX.out; omega
    have hnot : bits .xor .i64 (-1) n = x := by rw [HX.out]; exact not_neg h1 h
    go_enter Try.func46, Try.ntmps46
    go_wp2
    go_ret
    exact ⟨ret_int (fold_neg HN.out HX.out hx1), rfl⟩
  · go_enter Try.func46, Try.ntmps46
    go_wp2
    go_ret
    exact ⟨ret_int (fold_pos (by omega)), rfl⟩

theorem getD_lt {α : Type} (l : List α) (k : Nat) (d : α) (h : k < l.length) : l.getD k d = l[k] := by simp [h]
theorem flat_len {α : Type} (f : α → List UInt8) (c : Nat) (hf : ∀ x, (f x).length ≤ c) (l : List α) : (l.flatMap f).length ≤ c * l.length := by
  induction l with
  | nil => simp
  | cons x l ih => have := hf x; simp only [List.flatMap_cons, List.length_append, List.length_cons, Nat.mul_add]; omega
theorem nums_len (l : List Nat) : (nums l).length ≤ 10 * l.length := flat_len _ 10 (fun x => (enc_len x).2) l
theorem ints_len (l : List Int) : (ints l).length ≤ 10 * l.length := flat_len _ 10 (fun x => (enc_len _).2) l
theorem nums_snoc (xs : List Nat) (k : Nat) (h : k < xs.length) : nums (xs.take (k + 1)) = nums (xs.take k) ++ enc (xs.getD k 0) := by
  rw [List.take_succ_eq_append_getElem h, getD_lt _ _ _ h]; simp only [nums, List.flatMap_append, List.flatMap_cons, List.flatMap_nil, List.append_nil]
theorem ints_snoc (xs : List Int) (k : Nat) (h : k < xs.length) : ints (xs.take (k + 1)) = ints (xs.take k) ++ enc (fold (xs.getD k 0)) := by
  rw [List.take_succ_eq_append_getElem h, getD_lt _ _ _ h]; simp only [ints, List.flatMap_append, List.flatMap_cons, List.flatMap_nil, List.append_nil]
theorem texts_snoc (xs : List ByteArray) (k : Nat) (h : k < xs.length) : texts ((xs.take (k + 1)).map fun s => s.data.toList) = texts ((xs.take k).map fun s => s.data.toList) ++ text (xs.getD k ByteArray.empty).data.toList := by
  rw [List.take_succ_eq_append_getElem h, getD_lt _ _ _ h]; simp only [texts, List.map_append, List.map_cons, List.map_nil, List.flatMap_append, List.flatMap_cons, List.flatMap_nil, List.append_nil]

set_option maxHeartbeats 1000000 in
theorem wNum_any (base b g off cap : Nat) (r : Option Nat) (bs : List UInt8) (xs : List Nat) (w : World) (hw : WrAt w base b r bs) (hx : ∀ x ∈ xs, x < 18446744073709551616)
    (hcells : ∀ j, j < xs.length → w.cell? ⟨g, off + j, none⟩ = some (.int .u64 (xs.getD j 0))) (hg : g ≠ b) (hgr : some g ≠ r) (hgl : g < w.heap.size)
    (hsz : bs.length + 10 * xs.length ≤ 140737488355328) (hbase : base ≤ w.heap.size) :
    Calls Try.prog 16 #[.pointer (some ⟨b, 0, none⟩), .slice (some ⟨g, off, none⟩) xs.length cap] w fun e w' => e = .returned (.tuple #[]) ∧ ∃ r', WrAt w' base b r' (bs ++ nums xs) ∧ Step b w r w' r' := by
  go_enter Try.func16, Try.ntmps16
  go_wp2
  go_loopw [8] (fun i wr => ∃ (k : Nat) (r1 : Option Nat), k ≤ xs.length ∧ i = .int .i64 k ∧ Hid (WrAt wr base b r1 (bs ++ nums (xs.take k))) ∧ Hid (Step b w r wr r1)) (fun i _ => xs.length - (intOf i).toNat)
  case atStart => exact ⟨0, r, by omega, rfl, by simpa [nums, Hid] using hw, Step.refl _ _ _⟩
  case round =>
    obtain ⟨k, r1, hk, rfl, HW, HS⟩ := hrel
    by_cases hlt : k < xs.length
    · have hc1 : wr.cell? ⟨g, off + k, none⟩ = some (.int .u64 (xs.getD k 0)) := (World.cell?_of_block (HS.out.kept.block g hgl hg hgr)).trans (hcells k hlt)
      have hx1 : xs.getD k 0 < 18446744073709551616 := by rw [getD_lt _ _ _ hlt]; exact hx _ (List.getElem_mem hlt)
      have HN : Hid (nums (xs.take (k + 1)) = nums (xs.take k) ++ enc (xs.getD k 0)) := nums_snoc xs k hlt
      have hlen : (nums (xs.take k)).length ≤ 10 * k := by have := nums_len (xs.take k); simp at this; omega
      have hsw := HS.out.kept.size
      generalize xs.getD k 0 = x at *
      clear hcells
      go_wp2_with (go_at_call 35; refine (putNum_any base b x r1 (bs ++ nums (xs.take k)) _ HW.out hx1 (by have := enc_len x; simp; omega) (by omega)).mono ?_; rintro e w' ⟨rfl, hq⟩)
      obtain ⟨r2, hw2, hs2⟩ := hq
      go_roundw
      case rel => exact ⟨k + 1, r2, by omega, by go_num, by show WrAt _ _ _ _ _; rw [HN.out, ← List.append_assoc]; exact hw2, HS.out.trans hs2⟩
      case measure => simp [intOf]; omega
    · have hk' : k = xs.length := by omega
      subst hk'
      go_wp2
      go_end0
      exact ⟨rfl, r1, by have := HW.out; rwa [List.take_length] at this, HS.out⟩

set_option maxHeartbeats 1000000 in
theorem wInt_any (base b g off cap : Nat) (r : Option Nat) (bs : List UInt8) (xs : List Int) (w : World) (hw : WrAt w base b r bs) (hx : ∀ x ∈ xs, -9223372036854775808 ≤ x ∧ x ≤ 9223372036854775807)
    (hcells : ∀ j, j < xs.length → w.cell? ⟨g, off + j, none⟩ = some (.int .i64 (xs.getD j 0))) (hg : g ≠ b) (hgr : some g ≠ r) (hgl : g < w.heap.size)
    (hsz : bs.length + 10 * xs.length ≤ 140737488355328) (hbase : base ≤ w.heap.size) :
    Calls Try.prog 37 #[.pointer (some ⟨b, 0, none⟩), .slice (some ⟨g, off, none⟩) xs.length cap] w fun e w' => e = .returned (.tuple #[]) ∧ ∃ r', WrAt w' base b r' (bs ++ ints xs) ∧ Step b w r w' r' := by
  go_enter Try.func37, Try.ntmps37
  go_wp2
  go_loopw [8] (fun i wr => ∃ (k : Nat) (r1 : Option Nat), k ≤ xs.length ∧ i = .int .i64 k ∧ Hid (WrAt wr base b r1 (bs ++ ints (xs.take k))) ∧ Hid (Step b w r wr r1)) (fun i _ => xs.length - (intOf i).toNat)
  case atStart => exact ⟨0, r, by omega, rfl, by simpa [ints, Hid] using hw, Step.refl _ _ _⟩
  case round =>
    obtain ⟨k, r1, hk, rfl, HW, HS⟩ := hrel
    by_cases hlt : k < xs.length
    · have hc1 : wr.cell? ⟨g, off + k, none⟩ = some (.int .i64 (xs.getD k 0)) := (World.cell?_of_block (HS.out.kept.block g hgl hg hgr)).trans (hcells k hlt)
      have hx1 : -9223372036854775808 ≤ xs.getD k 0 ∧ xs.getD k 0 ≤ 9223372036854775807 := by rw [getD_lt _ _ _ hlt]; exact hx _ (List.getElem_mem hlt)
      have HN : Hid (ints (xs.take (k + 1)) = ints (xs.take k) ++ enc (fold (xs.getD k 0))) := ints_snoc xs k hlt
      have hlen : (ints (xs.take k)).length ≤ 10 * k := by have := ints_len (xs.take k); simp at this; omega
      have hsw := HS.out.kept.size
      generalize xs.getD k 0 = x at *
      clear hcells
      have hx2 := fold_lt hx1.1 hx1.2
      go_wp2_with (first | (go_at_call 46; refine (fold_any x _ hx1.1 hx1.2).mono ?_; rintro e w' ⟨rfl, rfl⟩) | (go_at_call 35; refine (putNum_any base b (fold x) r1 (bs ++ ints (xs.take k)) _ HW.out hx2 (by have := enc_len (fold x); simp; omega) (by omega)).mono ?_; rintro e w' ⟨rfl, hq⟩))
      obtain ⟨r2, hw2, hs2⟩ := hq
      go_roundw
      case rel => exact ⟨k + 1, r2, by omega, by go_num, by show WrAt _ _ _ _ _; rw [HN.out, ← List.append_assoc]; exact hw2, HS.out.trans hs2⟩
      case measure => simp [intOf]; omega
    · have hk' : k = xs.length := by omega
      subst hk'
      go_wp2
      go_end0
      exact ⟨rfl, r1, by have := HW.out; rwa [List.take_length] at this, HS.out⟩

/-! ### A string's bytes behind an owned row: where the new slice lies -/
theorem run_append_str_at {P : Program} (w : World) (base : Nat) (t u ty e : TypeId) (i : TypeInfo) (ht : P.underlying t = some (.slice e)) (hu : P.underlying u = some .string) (hi : P.info? e = some i) (hz : i.zero = some (.int .u8 0))
    (hsize : i.size = 1) (hby : i.bytes = 1) (v : Value) (n : Nat) (xs : List Value) (hown : w.ownsRow base e 1 v n xs) (s : ByteArray)
    (h63 : n + s.size ≤ maxLen) (hbytes : n + s.size ≤ 140737488355328) (hbase : base ≤ w.heap.size) :
    ∃ v' w', (Builtin.append_ #[t, u] ty #[v, .string s]).run P w = .ok v' w' ∧ w'.ownsRow base e 1 v' (n + s.size) (xs ++ Lib.strCells s) ∧ w.grownBy w' v.ownBlock ∧
      (v'.ownBlock = v.ownBlock ∨ v'.ownBlock = some w.heap.size) := by
  obtain ⟨v', w', hr, h2, h3, h4⟩ := Lib.run_append_own_string (P := P) w base t u ty e i ht hu hi hz hsize hby v n xs hown s h63 hbytes hbase
  refine ⟨v', w', hr, h2, h3, ?_⟩
  unfold maxLen at h63
  rcases hown.2 with ⟨rfl, rfl⟩ | ⟨g, cap, cur, rfl, hbg, hg, hnc, hcm, hcs, htake⟩
  · by_cases hm : s.size = 0
    · rw [h4.2 ⟨rfl, hm⟩]; exact .inl rfl
    · have hq := run_append_nil_string (P := P) w t u ty e i (.int .u8 0) ht hu hi hz s (by omega) (by omega) (by rw [hby]; omega)
      rw [hr] at hq
      injection hq with hq _
      rw [hq]; exact .inr rfl
  · by_cases hroom : n + s.size ≤ cap
    · have hcs' : cur.size = cap := by simpa using hcs
      have hq := Lib.run_append_room_string (P := P) w t u ty e i ht hu hi hsize g n cap cur hg s hroom (by omega)
      rw [hr] at hq
      injection hq with hq _
      rw [hq]; exact .inl rfl
    · have hxl : xs.length = n := by simpa using hown.1
      have hq := Lib.run_append_grow_string (P := P) w t u ty e i (.int .u8 0) ht hu hi hz ⟨g, 0, none⟩ n cap xs (by rw [hsize]; simpa using hxl) (hown.cells (g := g) rfl) s (by omega) (by omega) (by rw [hby]; exact growslice_fits (by omega) (by omega))
      rw [hr] at hq
      injection hq with hq _
      rw [hq]; exact .inr rfl

theorem wpList_append_str_at {P : Program} (w : World) {ops : Array Oper} {rest : List Oper} {o : Oper} {a : Act} {Q : Exit → Act → World → Prop} (hgd : o.guard = none) (sl x : Operand) (t u : TypeId)
    (ho : o.op = .call { callee := .builtin .append, args := #[sl, x], argTypes := #[t, u] })
    (base : Nat) (e : TypeId) (i : TypeInfo) (ht : P.underlying t = some (.slice e)) (hu : P.underlying u = some .string) (hi : P.info? e = some i) (hz : i.zero = some (.int .u8 0))
    (hsize : i.size = 1) (hby : i.bytes = 1) (v : Value) (n : Nat) (xs : List Value) (hs : a.eval sl = v) (hown : w.ownsRow base e 1 v n xs) (s : ByteArray) (hx : a.eval x = .string s)
    (h63 : n + s.size ≤ maxLen) (hbytes : n + s.size ≤ 140737488355328) (hbase : base ≤ w.heap.size)
    (h : ∀ v' w', w'.ownsRow base e 1 v' (n + s.size) (xs ++ Lib.strCells s) → w.grownBy w' v.ownBlock → (v'.ownBlock = v.ownBlock ∨ v'.ownBlock = some w.heap.size) → wpList P ops Q rest (a.put o.dst v') w') : wpList P ops Q (o :: rest) a w := by
  refine wpList_plain hgd fun K hK => ?_
  obtain ⟨v', w', hr, h2, h3, h4⟩ := run_append_str_at (P := P) w base t u o.type e i ht hu hi hz hsize hby v n xs hown s h63 hbytes hbase
  unfold Oper.wp execOp
  simp only [ho, resolve, invoke, builtin, Sem.run_bind, Sem.run_pure, Result.andThen_ok, List.map_toArray, List.map_cons, List.map_nil, hs, hx, hr]
  exact hK _ _ (h v' w' h2 h3 h4)

/-- What the append of a text to the writer's slice comes to. -/
theorem wr_put_text {w w1 : World} {base b : Nat} {v v' : Value} {bs : List UInt8} {s : ByteArray}
    (hb : w.heap[b]? = some (.cells #[v] 77 (0, 0))) (hown : w.ownsRow base 5 1 v bs.length (bs.map B8))
    (hown1 : w1.ownsRow base 5 1 v' (bs.length + s.size) (bs.map B8 ++ Lib.strCells s))
    (hgrow : w.grownBy w1 v.ownBlock) (hat : v'.ownBlock = v.ownBlock ∨ v'.ownBlock = some w.heap.size) :
    WrAt (w1.setCell ⟨b, 0, none⟩ v') base b v'.ownBlock (bs ++ s.data.toList) ∧ Step b w v.ownBlock (w1.setCell ⟨b, 0, none⟩ v') v'.ownBlock := by
  have hw : WrAt w base b v.ownBlock bs := ⟨v, hb, hown, rfl⟩
  have hlt := hw.lt
  have hbr : some b ≠ v.ownBlock := fun e => (hw.row_ge b e.symm).2.2 rfl
  have hb1 : w1.heap[b]? = some (.cells #[v] 77 (0, 0)) := (hgrow.block b (by omega) hbr).trans hb
  have hgb : v'.ownBlock ≠ some b := by
    rcases hat with e | e
    · rw [e]; exact fun h => hbr h.symm
    · rw [e]; intro h; simp at h; omega
  refine ⟨⟨_, one_setCell hb1, ?_, rfl⟩, ⟨⟨hgrow.os, hgrow.tape, hgrow.output, by simpa [World.setCell] using hgrow.size, fun k hk hkb hkr => ?_⟩, ?_⟩⟩
  · rw [List.length_append, List.map_append, Array.length_toList]
    exact ownsRow_setCell_other hown1 hgb _
  · rw [Below.heap_setCell _ _ _ _ (by simpa using hkb)]
    exact hgrow.block k hk hkr
  · rcases hat with e | e
    · exact .inl e
    · exact .inr ⟨w.heap.size, e, Nat.le_refl _⟩

set_option maxHeartbeats 1000000 in
theorem wText_any (base b g off cap : Nat) (r : Option Nat) (bs : List UInt8) (xs : List ByteArray) (w : World) (hw : WrAt w base b r bs)
    (hcells : ∀ j, j < xs.length → w.cell? ⟨g, off + j, none⟩ = some (.string (xs.getD j ByteArray.empty))) (hg : g ≠ b) (hgr : some g ≠ r) (hgl : g < w.heap.size)
    (hsz : ∀ k, k ≤ xs.length → bs.length + (texts ((xs.take k).map fun s => s.data.toList)).length ≤ 140737488355328) (hmax : ∀ k, k ≤ xs.length → (xs.getD k ByteArray.empty).size ≤ 140737488355328) (hlenx : xs.length ≤ maxLen) (hbase : base ≤ w.heap.size) :
    Calls Try.prog 36 #[.pointer (some ⟨b, 0, none⟩), .slice (some ⟨g, off, none⟩) xs.length cap] w fun e w' => e = .returned (.tuple #[]) ∧ ∃ r', WrAt w' base b r' (bs ++ texts (xs.map fun s => s.data.toList)) ∧ Step b w r w' r' := by
  unfold maxLen at hlenx
  obtain ⟨i0, hi, hz0, hz1, hz2⟩ := info_parts info8
  go_enter Try.func36, Try.ntmps36
  go_wp2
  go_loopw [8] (fun i wr => ∃ (k : Nat) (r1 : Option Nat), k ≤ xs.length ∧ i = .int .i64 k ∧ Hid (WrAt wr base b r1 (bs ++ texts ((xs.take k).map fun s => s.data.toList))) ∧ Hid (Step b w r wr r1)) (fun i _ => xs.length - (intOf i).toNat)
  case atStart => exact ⟨0, r, by omega, rfl, by simpa [texts, Hid] using hw, Step.refl _ _ _⟩
  case round =>
    obtain ⟨k, r1, hk, rfl, HW, HS⟩ := hrel
    by_cases hlt : k < xs.length
    · have hc1 : wr.cell? ⟨g, off + k, none⟩ = some (.string (xs.getD k ByteArray.empty)) := (World.cell?_of_block (HS.out.kept.block g hgl hg hgr)).trans (hcells k hlt)
      have hx1 := hmax k hk
      have HN := texts_snoc xs k hlt
      have hl1 := hsz (k + 1) (by omega)
      rw [HN] at hl1
      have HN : Hid _ := HN
      have hsw := HS.out.kept.size
      generalize xs.getD k ByteArray.empty = x at *
      generalize texts ((xs.take k).map fun s => s.data.toList) = pre at *
      have hl2 : bs.length + pre.length + (enc x.size).length + x.size ≤ 140737488355328 := by simp [text] at hl1; omega
      have hel := enc_len x.size
      clear hcells hsz hmax hl1
      go_wp2_with fail
      refine (putNum_any base b x.size r1 (bs ++ pre) _ HW.out (by omega) (by simp; omega) (by omega)).mono ?_
      rintro e w2 ⟨rfl, r2, hw2, hs2⟩
      obtain ⟨v, hb, hown, rfl⟩ := hw2
      have hw2 : WrAt w2 base b v.ownBlock (bs ++ pre ++ enc x.size) := ⟨v, hb, hown, rfl⟩
      have hbr : some b ≠ v.ownBlock := fun e => (hw2.row_ge b e.symm).2.2 rfl
      have hlt2 := hw2.lt
      have hc2 := cell_of_one hb
      have hf2 := free_of_one hb
      have hsz2 := hs2.kept.size
      have HS2 : Hid (Step b wr r1 w2 v.ownBlock) := hs2
      have HLN : Hid ((bs ++ pre ++ enc x.size).length + x.size ≤ 140737488355328) := by show _ ≤ _; simp; omega
      obtain ⟨cur, hcur⟩ : ∃ cur, cur = bs ++ pre ++ enc x.size := ⟨_, rfl⟩
      rw [← hcur] at hown hw2 HLN
      have HCL : Hid (0 < cur.length) := by show _ < _; rw [hcur]; simp; omega
      have HCU : Hid (cur ++ x.data.toList = bs ++ (pre ++ text x.data.toList)) := by show _ = _; rw [hcur, text, Array.length_toList]; simp only [List.append_assoc]; rfl
      clear hcur
      clear hs2 hw2 hc1
      go_wp2_with (at_builtin; refine wpList_append_str_at _ rfl _ _ 37 9 rfl base 5 i0 Try.underlying37 Try.underlying9 hi hz0 hz1 hz2 v cur.length (cur.map B8) rfl hown x rfl ?c1 HLN.out ?c2 ?_)
      case c1 => have := HLN.out; unfold maxLen; omega
      case c2 => omega
      intro v' w3 hown3 hgrow hat
      obtain ⟨g', cap', rfl, _, _⟩ := hown3.form (by have := HCL.out; omega)
      have R := wr_put_text hb hown hown3 hgrow hat
      have hb3 : w3.heap[b]? = some (.cells #[v] 77 (0, 0)) := (hgrow.block b hlt2 hbr).trans hb
      have hc3 := cell_of_one hb3
      have hf3 := free_of_one hb3
      have HR : Hid _ := R
      clear R hown3 hgrow hat hb3 hown hb hc2 hf2 hbr
      go_wp2
      go_roundw
      case rel => exact ⟨k + 1, _, by omega, by go_num, by show WrAt _ _ _ _ _; rw [HN.out]; exact (HCU.out ▸ HR.out.1), (HS.out.trans HS2.out).trans HR.out.2⟩
      case measure => simp [intOf]; omega
    · have hk' : k = xs.length := by omega
      subst hk'
      go_wp2
      go_end0
      exact ⟨rfl, r1, by have := HW.out; rwa [List.take_length] at this, HS.out⟩

end Go.Proofs.Ytjiajnmpdlaidaa.Pk
