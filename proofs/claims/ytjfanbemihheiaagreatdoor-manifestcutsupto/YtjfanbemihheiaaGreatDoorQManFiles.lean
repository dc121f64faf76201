/-
  Package manifest's reader: a count, and as many files, or as many numbers.
-/
import Derived.Test.YtjfanbemihheiaaGreatDoorQManReader
import Derived.Test.YtjfanbemihheiaaGreatDoorQManRefPut
namespace Go.Proofs.YtjfanbemihheiaaGreatDoor.Ma
open Go.RowKit Cm
open Pk (RdAt Step enc enc_len fold unfold)
set_option linter.unusedVariables false

/-! ### A list's bytes: its length, its elements' bytes -/
def manyB {α : Type} (put : α → List UInt8) (l : List α) : List UInt8 := enc l.length ++ l.flatMap put
def OkL {α : Type} (ok : α → Prop) (l : List α) : Prop := OkN l.length ∧ ∀ x ∈ l, ok x
structure Many {α : Type} (put : α → List UInt8) (ok : α → Prop) (s : List UInt8) (br : Bool) (n : Nat) (l : List α) (s' : List UInt8) (br' : Bool) : Prop where
  good : br' = false → br = false ∧ OkN n ∧ (∀ x ∈ l, ok x) ∧ s = enc n ++ (l.flatMap put ++ s')
  bad : br' = true → br = true ∨ ∀ y t, OkL ok y → s ≠ manyB put y ++ t
section
variable {α : Type} {put : α → List UInt8} {ok : α → Prop} {s s1 s2 : List UInt8} {br b1 b2 : Bool} {n : Nat} {l : List α} {x : α}
theorem Many.start (h : Rd enc OkN s br n s1 b1) : Many put ok s br n [] s1 b1 := by
  rcases h with ⟨rfl, rfl⟩ | ⟨rfl, rfl, h1, h2⟩ | ⟨rfl, rfl, h⟩
  · exact ⟨fun e => (by cases e), fun _ => .inl rfl⟩
  · exact ⟨fun _ => ⟨rfl, h1, fun x hx => (by cases hx), h2⟩, fun e => (by cases e)⟩
  · exact ⟨fun e => (by cases e), fun _ => .inr fun y t hy e => h y.length (y.flatMap put ++ t) hy.1 (by rw [e]; unfold manyB; rw [List.append_assoc])⟩
theorem Many.step (hfree : ∀ {a b : α} {t u : List UInt8}, ok a → ok b → put a ++ t = put b ++ u → a = b ∧ t = u) (h : Many put ok s br n l s1 false) (hn : l.length < n) (hr : Rd put ok s1 false x s2 b2) : Many put ok s br n (l ++ [x]) s2 b2 := by
  obtain ⟨rfl, h1, h2, h3⟩ := h.good rfl
  rcases hr with ⟨e, _⟩ | ⟨_, rfl, h4, h5⟩ | ⟨_, rfl, h4⟩
  · cases e
  · refine ⟨fun _ => ⟨rfl, h1, fun y hy => ?_, ?_⟩, fun e => (by cases e)⟩
    · rcases List.mem_append.1 hy with hy | hy
      · exact h2 y hy
      · obtain rfl : y = x := by simpa using hy
        exact h4
    · rw [h3, h5, List.flatMap_append]; simp
  · refine ⟨fun e => (by cases e), fun _ => .inr fun y t hy e => ?_⟩
    rw [h3] at e
    unfold manyB at e
    rw [List.append_assoc] at e
    obtain ⟨e1, e2⟩ := enc_free h1 hy.1 e
    have hk : l.length < y.length := by omega
    have hs : y.flatMap put = (y.take l.length).flatMap put ++ (y.drop l.length).flatMap put := by rw [← List.flatMap_append, List.take_append_drop]
    rw [hs, List.append_assoc] at e2
    obtain ⟨_, e3⟩ := flat_free (g := put) hfree h2 (fun z hz => hy.2 z (List.mem_of_mem_take hz)) (by rw [List.length_take]; omega) e2
    rw [List.drop_eq_getElem_cons hk, List.flatMap_cons, List.append_assoc] at e3
    exact h4 _ _ (hy.2 _ (List.getElem_mem hk)) e3
theorem Many.done (h : Many put ok s br n l s1 b1) (hl : l.length = n ∨ b1 = true) : Rd (manyB put) (OkL ok) s br l s1 b1 := by
  cases b1
  · obtain ⟨rfl, h1, h2, h3⟩ := h.good rfl
    have hl : l.length = n := by rcases hl with h | h; exact h; cases h
    subst hl
    exact .inr (.inl ⟨rfl, rfl, ⟨h1, h2⟩, by rw [h3]; unfold manyB; rw [List.append_assoc]⟩)
  · rcases h.bad rfl with h2 | h2
    · exact .inl ⟨h2, rfl⟩
    · cases br
      · exact .inr (.inr ⟨rfl, rfl, h2⟩)
      · exact .inl ⟨rfl, rfl⟩
theorem Rd.pair {s s1 s2 : List UInt8} {b1 b2 : Bool} {a c : Int} (h : Rd intB OkI s false a s1 b1) (k : Rd intB OkI s1 b1 c s2 b2) : Rd fiB OkF s false (a, c) s2 b2 := by
  rcases h with ⟨e, _⟩ | ⟨_, rfl, h1, h2⟩ | ⟨_, rfl, h1⟩
  · cases e
  · rcases k with ⟨e, _⟩ | ⟨_, rfl, k1, k2⟩ | ⟨_, rfl, k1⟩
    · cases e
    · exact .inr (.inl ⟨rfl, rfl, ⟨h1, k1⟩, by rw [h2, k2]; unfold fiB; rw [List.append_assoc]⟩)
    · refine .inr (.inr ⟨rfl, rfl, fun y t hy e => ?_⟩)
      unfold fiB at e
      rw [h2, List.append_assoc] at e
      exact k1 _ _ hy.2 (intB_free h1 hy.1 e).2
  · rcases k with ⟨_, rfl⟩ | ⟨e, _⟩ | ⟨e, _⟩
    · refine .inr (.inr ⟨rfl, rfl, fun y t hy e => ?_⟩)
      unfold fiB at e
      rw [List.append_assoc] at e
      exact h1 _ _ hy.1 e
    · cases e
    · cases e
theorem flat_pos (hput : ∀ x, 1 ≤ (put x).length) (l : List α) : l.length ≤ (l.flatMap put).length := by
  induction l with
  | nil => simp
  | cons y r ih => have := hput y; rw [List.flatMap_cons, List.length_append, List.length_cons]; omega
theorem many_len (hput : ∀ x, 1 ≤ (put x).length) (h : Many put ok s br n l s1 false) : l.length + s1.length ≤ s.length := by
  obtain ⟨_, _, _, h3⟩ := h.good rfl
  have := flat_pos hput l
  rw [h3, List.length_append, List.length_append]
  omega
end
theorem fiB_pos (f : Fi) : 1 ≤ (fiB f).length := by have := (intB_len f.1).1; unfold fiB; rw [List.length_append]; omega
theorem intB_pos (n : Int) : 1 ≤ (intB n).length := (intB_len n).1

/-! ### The row under way -/
def inShape : Shape Int := ⟨1, fun n => [.int .i64 n], by decide, fun _ => rfl, fun a u hu => by simp at hu; subst hu; rfl⟩
theorem infoIn : (Tryz.prog.info? 3).map (fun i => (i.zero, i.size, i.bytes)) = some (some (.int .i64 0), 1, 8) := by kernel_rfl
structure FA {α : Type} (F : Shape α) (t : TypeId) (X : World) (q b : Nat) (s : ByteArray) (l : List α) (v : Value) (s2 : ByteArray) (b2 : Bool) (wr : World) : Prop where
  rb : RB q b s2 b2 wr
  own : wr.ownsRow X.heap.size t F.sz v l.length (F.vals l)
  le : s2.size ≤ s.size
  stay : Stay q b X wr
section
variable {α : Type} {F : Shape α} {t : TypeId} {X wr Y : World} {q b : Nat} {s s2 s3 : ByteArray} {l : List α} {v v' : Value} {b2 b3 : Bool} {x : α}
theorem FA.read (h : FA F t X q b s l v s2 b2 wr) (hq : q < X.heap.size) (hb : b < X.heap.size) (hr : RB q b s3 b3 Y) (hs : s3.size ≤ s2.size) (hst : Stay q b wr Y) : FA F t X q b s l v s3 b3 Y :=
  ⟨hr, rows_keep h.own (fun k e => by have := h.own.lt k e; exact hst.block k this.2 (by omega) (by omega)), Nat.le_trans hs h.le, h.stay.trans hst⟩
theorem FA.grow (h : FA F t X q b s l v s2 b2 wr) (hq : q < X.heap.size) (hb : b < X.heap.size) {o : Obj} (hown : Y.ownsRow X.heap.size t F.sz v' (l.length + 1) (F.vals (l ++ [x]))) (hg : (wr.alloc o).grownBy Y v.ownBlock) : FA F t X q b s (l ++ [x]) v' s2 b2 Y := by
  have hlt := h.rb.lt
  have hk : ∀ k, k < X.heap.size → Y.heap[k]? = wr.heap[k]? := fun k hk => by
    have h1 := h.stay.size
    rw [hg.block k (by simp; omega) (fun e => by have := (h.own.lt k e.symm).1; omega)]
    exact Below.heap_alloc _ _ _ (by omega)
  have hsz := hg.size
  simp only [World.size_alloc] at hsz
  refine ⟨⟨(hk q hq).trans h.rb.hq, (hk b hb).trans h.rb.rd⟩, by rw [List.length_append]; exact hown, h.le, ⟨hg.os.trans h.stay.os, hg.tape.trans h.stay.tape, hg.output.trans h.stay.output, by have := h.stay.size; omega, fun k k1 k2 k3 => (hk k k1).trans (h.stay.block k k1 k2 k3)⟩⟩
end
/-- What a reading of a list comes to. -/
def ListAns {α : Type} (F : Shape α) (t : TypeId) (put : α → List UInt8) (ok : α → Prop) (q b : Nat) (s : ByteArray) (br : Bool) (X : World) (e : Ending) (w' : World) : Prop :=
  ∃ l v s' br', e = .returned v ∧ (∀ x ∈ l, ok x) ∧ l.length ≤ s.size + 1 ∧ FA F t X q b s l v s' br' w' ∧ Rd (manyB put) (OkL ok) (bs s) br l (bs s') br'

set_option maxRecDepth 100000 in
set_option maxHeartbeats 2000000 in
theorem files_any (q b : Nat) (s : ByteArray) (br : Bool) (X : World) (h : RB q b s br X) (hs : s.size ≤ 100000000000) :
    Calls Tryz.prog 40 #[.pointer (some ⟨q, 0, none⟩)] X (ListAns fiShape 53 fiB OkF q b s br X) := by
  obtain ⟨i0, hi, hz0, hz1, hz2⟩ := info_parts infoFi
  obtain ⟨hq, hb⟩ := h.lt
  have HC : Hid _ := count_any q b s br X h (by omega)
  clear h
  go_enter Tryz.func40, Tryz.ntmps40
  go_wp2_with fail
  refine (show Calls _ _ _ _ _ from HC.out).mono ?_
  rintro e w1 ⟨N, s1, b1, rfl, hN, hz, hrb, hrd, hst⟩
  have HA1 : Hid (FA fiShape 53 X q b s [] (.slice none 0 0) s1 b1 w1) := ⟨hrb, World.ownsRow_nil _ _ _ _, hz, hst⟩
  have HM1 : Hid (Many fiB OkF (bs s) br N [] (bs s1) b1) := Many.start hrd
  clear HC hrb hrd hst hz
  have hN' : N < 18446744073709551616 := hN
  go_wp2
  go_loopw [3, 4] (fun acc left wr => ∃ (j : Nat) (l : List Fi) (s2 : ByteArray) (b2 : Bool), left = .int .u64 j ∧ j + l.length = N ∧ l.length ≤ s.size + 1 ∧ Hid (∀ x ∈ l, OkF x) ∧ Hid (FA fiShape 53 X q b s l acc s2 b2 wr) ∧ Hid (Many fiB OkF (bs s) br N l (bs s2) b2)) (fun _ left _ => (intOf left).toNat)
  case atStart => exact ⟨N, [], s1, b1, rfl, rfl, by simp, (fun x hx => by cases hx), HA1, HM1⟩
  case round =>
    clear HA1 HM1
    obtain ⟨j, l, s2, b2, rfl, hj, hl, HOk, HA, HM⟩ := hrel
    obtain ⟨ao, cap, rfl, _, _, _, _⟩ := own_rows (F := fiShape) HA.out.own
    obtain ⟨c0, c1, cf⟩ := HA.out.rb.cells
    rcases j with _ | j
    · have HD : Hid (Rd (manyB fiB) (OkL OkF) (bs s) br l (bs s2) b2) := HM.out.done (.inl (by omega))
      clear HM
      cases b2 <;>
      · go_wp2
        go_ret
        exact ⟨l, _, s2, _, rfl, HOk.out, hl, HA.out, HD.out⟩
    · have hj0 : (0 : Int) < ((j + 1 : Nat) : Int) := by omega
      cases b2
      · have hlen := many_len fiB_pos HM.out
        rw [bs_len, bs_len] at hlen
        have hz := HA.out.le
        have HR1 : Hid _ := wholeN_any q b s2 false wr HA.out.rb (by omega)
        go_wp2_with fail
        refine (show Calls _ _ _ _ _ from HR1.out).mono ?_
        rintro e w3 ⟨a, s3, b3, rfl, ha, hz3, hrb3, hrd3, hst3⟩
        have HA3 : Hid _ := HA.out.read hq hb hrb3 hz3 hst3
        have HD3 : Hid (Rd intB OkI (bs s2) false a (bs s3) b3) := hrd3
        have HR2 : Hid _ := wholeN_any q b s3 b3 w3 hrb3 (by omega)
        clear hrb3 hrd3 hst3 HR1 c0 c1 cf
        go_wp2_with fail
        refine (show Calls _ _ _ _ _ from HR2.out).mono ?_
        rintro e w4 ⟨c, s4, b4, rfl, hc, hz4, hrb4, hrd4, hst4⟩
        have HA4 : Hid _ := HA3.out.read hq hb hrb4 hz4 hst4
        have HM4 : Hid _ := Many.step fiB_free HM.out (by omega) (Rd.pair HD3.out hrd4)
        have hbox := one_box w4 (a, c)
        have HO4 : Hid _ := HA4.out.own
        clear hrb4 hrd4 hst4 HR2 HA3 HD3 HM HA
        go_wp2_with (at_builtin; refine wpList_append_rows (F := fiShape) _ rfl _ _ 24 rfl X.heap.size 53 i0 _ 16 Tryz.underlying24 hi hz0 hz1 hz2 rfl (.slice ao l.length cap) l.length l rfl (World.ownsRow.alloc HO4.out _) (some ⟨w4.heap.size, 0, none⟩) 1 1 [(a, c)] rfl (by simp) rfl hbox ?c1 ?c2 ?c3 ?_)
        case c1 => unfold maxLen; omega
        case c2 => omega
        case c3 => have := HA4.out.stay.size; simp; omega
        rintro v5 w5 hown hgr hat
        have HA5 : Hid (FA fiShape 53 X q b s (l ++ [(a, c)]) v5 s4 b4 w5) := HA4.out.grow hq hb hown hgr
        clear hown hgr hat hbox HA4 HO4
        go_wp2
        go_roundw
        case rel => exact ⟨j, l ++ [(a, c)], s4, b4, by go_num, by rw [List.length_append, List.length_singleton]; omega, by rw [List.length_append, List.length_singleton]; omega, (fun x hx => by rcases List.mem_append.1 hx with hx | hx; exact HOk.out x hx; obtain rfl : x = (a, c) := (by simpa using hx); exact ⟨ha, hc⟩), HA5, HM4⟩
        case measure => simp [intOf]
      · have HD : Hid (Rd (manyB fiB) (OkL OkF) (bs s) br l (bs s2) true) := HM.out.done (.inr rfl)
        clear HM
        go_wp2
        go_ret
        exact ⟨l, _, s2, _, rfl, HOk.out, hl, HA.out, HD.out⟩
theorem one_int (w : World) (n : Int) : ElemsAt inShape (w.alloc (.cells #[.int .i64 n] 3)) (some ⟨w.heap.size, 0, none⟩) [n] := by
  refine .inr ⟨w.heap.size, 0, rfl, by simp, fun i hi j u hu => ?_⟩
  obtain rfl : i = 0 := by simpa using hi
  have hb := heap_alloc_new w (.cells #[.int .i64 n] 3)
  match j, hu with
  | 0, hu => simp [inShape] at hu; subst hu; rw [Joins.cell_of_block hb]; rfl
  | (t + 1), hu => simp [inShape] at hu
set_option maxRecDepth 100000 in
set_option maxHeartbeats 2000000 in
theorem numbers_any (q b : Nat) (s : ByteArray) (br : Bool) (X : World) (h : RB q b s br X) (hs : s.size ≤ 100000000000) :
    Calls Tryz.prog 41 #[.pointer (some ⟨q, 0, none⟩)] X (ListAns inShape 3 intB OkI q b s br X) := by
  obtain ⟨i0, hi, hz0, hz1, hz2⟩ := info_parts infoIn
  obtain ⟨hq, hb⟩ := h.lt
  have HC : Hid _ := count_any q b s br X h (by omega)
  clear h
  go_enter Tryz.func41, Tryz.ntmps41
  go_wp2_with fail
  refine (show Calls _ _ _ _ _ from HC.out).mono ?_
  rintro e w1 ⟨N, s1, b1, rfl, hN, hz, hrb, hrd, hst⟩
  have HA1 : Hid (FA inShape 3 X q b s [] (.slice none 0 0) s1 b1 w1) := ⟨hrb, World.ownsRow_nil _ _ _ _, hz, hst⟩
  have HM1 : Hid (Many intB OkI (bs s) br N [] (bs s1) b1) := Many.start hrd
  clear HC hrb hrd hst hz
  have hN' : N < 18446744073709551616 := hN
  go_wp2
  go_loopw [3, 4] (fun acc left wr => ∃ (j : Nat) (l : List Int) (s2 : ByteArray) (b2 : Bool), left = .int .u64 j ∧ j + l.length = N ∧ l.length ≤ s.size + 1 ∧ Hid (∀ x ∈ l, OkI x) ∧ Hid (FA inShape 3 X q b s l acc s2 b2 wr) ∧ Hid (Many intB OkI (bs s) br N l (bs s2) b2)) (fun _ left _ => (intOf left).toNat)
  case atStart => exact ⟨N, [], s1, b1, rfl, rfl, by simp, (fun x hx => by cases hx), HA1, HM1⟩
  case round =>
    clear HA1 HM1
    obtain ⟨j, l, s2, b2, rfl, hj, hl, HOk, HA, HM⟩ := hrel
    obtain ⟨ao, cap, rfl, _, _, _, _⟩ := own_rows (F := inShape) HA.out.own
    obtain ⟨c0, c1, cf⟩ := HA.out.rb.cells
    rcases j with _ | j
    · have HD : Hid (Rd (manyB intB) (OkL OkI) (bs s) br l (bs s2) b2) := HM.out.done (.inl (by omega))
      clear HM
      cases b2 <;>
      · go_wp2
        go_ret
        exact ⟨l, _, s2, _, rfl, HOk.out, hl, HA.out, HD.out⟩
    · have hj0 : (0 : Int) < ((j + 1 : Nat) : Int) := by omega
      cases b2
      · have hlen := many_len intB_pos HM.out
        rw [bs_len, bs_len] at hlen
        have hz := HA.out.le
        have HR1 : Hid _ := wholeN_any q b s2 false wr HA.out.rb (by omega)
        go_wp2_with fail
        refine (show Calls _ _ _ _ _ from HR1.out).mono ?_
        rintro e w4 ⟨c, s4, b4, rfl, hc, hz4, hrb4, hrd4, hst4⟩
        have HA4 : Hid _ := HA.out.read hq hb hrb4 hz4 hst4
        have HM4 : Hid _ := Many.step intB_free HM.out (by omega) hrd4
        have hbox := one_int w4 c
        have HO4 : Hid _ := HA4.out.own
        clear hrb4 hrd4 hst4 HR1 HM HA c0 c1 cf
        go_wp2_with (at_builtin; refine wpList_append_rows (F := inShape) _ rfl _ _ 28 rfl X.heap.size 3 i0 _ 8 Tryz.underlying28 hi hz0 hz1 hz2 rfl (.slice ao l.length cap) l.length l rfl (World.ownsRow.alloc HO4.out _) (some ⟨w4.heap.size, 0, none⟩) 1 1 [c] rfl (by simp) rfl hbox ?c1 ?c2 ?c3 ?_)
        case c1 => unfold maxLen; omega
        case c2 => omega
        case c3 => have := HA4.out.stay.size; simp; omega
        rintro v5 w5 hown hgr hat
        have HA5 : Hid (FA inShape 3 X q b s (l ++ [c]) v5 s4 b4 w5) := HA4.out.grow hq hb hown hgr
        clear hown hgr hat hbox HA4 HO4
        go_wp2
        go_roundw
        case rel => exact ⟨j, l ++ [c], s4, b4, by go_num, by rw [List.length_append, List.length_singleton]; omega, by rw [List.length_append, List.length_singleton]; omega, (fun x hx => by rcases List.mem_append.1 hx with hx | hx; exact HOk.out x hx; obtain rfl : x = c := (by simpa using hx); exact hc), HA5, HM4⟩
        case measure => simp [intOf]
      · have HD : Hid (Rd (manyB intB) (OkL OkI) (bs s) br l (bs s2) true) := HM.out.done (.inr rfl)
        clear HM
        go_wp2
        go_ret
        exact ⟨l, _, s2, _, rfl, HOk.out, hl, HA.out, HD.out⟩
end Go.Proofs.YtjfanbemihheiaaGreatDoor.Ma
