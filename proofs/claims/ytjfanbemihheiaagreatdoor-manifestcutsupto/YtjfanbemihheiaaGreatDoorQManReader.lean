/-
  Package manifest's reader: one number, one whole number; whether all of them stood there.
-/
import Derived.Test.YtjfanbemihheiaaGreatDoorQManEncode
namespace Go.Proofs.YtjfanbemihheiaaGreatDoor.Ma
open Go.RowKit Cm
open Pk (RdAt Step enc enc_len fold unfold dnum dnum_enc dnum_some fold_lt fold_unfold unfold_fold unfold_bd)
set_option linter.unusedVariables false

def bs (s : ByteArray) : List UInt8 := s.data.toList
theorem bs_len (s : ByteArray) : (bs s).length = s.size := by unfold bs; rw [Lib.size_eq]
/-- Read: it stood there, or it didn't, or one before hadn't. -/
def Rd {α : Type} (put : α → List UInt8) (ok : α → Prop) (s : List UInt8) (br : Bool) (x : α) (s' : List UInt8) (br' : Bool) : Prop :=
  (br = true ∧ br' = true) ∨ (br = false ∧ br' = false ∧ ok x ∧ s = put x ++ s') ∨ (br = false ∧ br' = true ∧ ∀ y t, ok y → s ≠ put y ++ t)
def OkN (n : Nat) : Prop := n < 18446744073709551616
/-- All that was there but two blocks is as it was. -/
structure Stay (q b : Nat) (w w' : World) : Prop where
  os : w'.os = w.os
  tape : w'.tape = w.tape
  output : w'.output = w.output
  size : w.heap.size ≤ w'.heap.size
  block : ∀ k, k < w.heap.size → k ≠ q → k ≠ b → w'.heap[k]? = w.heap[k]?
theorem Stay.refl (q b : Nat) (w : World) : Stay q b w w := ⟨rfl, rfl, rfl, Nat.le_refl _, fun _ _ _ _ => rfl⟩
theorem Stay.trans {q b : Nat} {w w1 w2 : World} (h : Stay q b w w1) (k : Stay q b w1 w2) : Stay q b w w2 :=
  ⟨k.os.trans h.os, k.tape.trans h.tape, k.output.trans h.output, Nat.le_trans h.size k.size, fun i hi hq hb => (k.block i (by have := h.size; omega) hq hb).trans (h.block i hi hq hb)⟩
theorem Stay.alloc (q b : Nat) (w : World) (o : Obj) : Stay q b w (w.alloc o) := ⟨rfl, rfl, rfl, by simp, fun k hk _ _ => Below.heap_alloc _ _ _ hk⟩
theorem Stay.of_step {q b : Nat} {w w' : World} (h : Step b w none w' none) : Stay q b w w' := ⟨h.kept.os, h.kept.tape, h.kept.output, h.kept.size, fun k hk _ hb => h.kept.block k hk hb (by simp)⟩
theorem Stay.of_below {q b : Nat} {w w' : World} (h : Below w.heap.size w w') : Stay q b w w' := ⟨h.os, h.tape, h.output, h.size, fun k hk _ _ => h.block k hk⟩
theorem Stay.set {q b : Nat} {w w' : World} (h : Stay q b w w') (i : Nat) (v : Value) : Stay q b w (w'.setCell ⟨q, i, none⟩ v) :=
  ⟨h.os, h.tape, h.output, by simpa [World.setCell] using h.size, fun k hk hq hb => (Below.heap_setCell _ _ _ _ (by simpa using hq)).trans (h.block k hk hq hb)⟩
theorem Stay.below {q b B : Nat} {w w' : World} (h : Stay q b w w') (hB : B ≤ w.heap.size) (hq : B ≤ q) (hb : B ≤ b) : Below B w w' :=
  ⟨h.os, h.tape, h.output, h.size, fun k hk => h.block k (by omega) (by omega) (by omega)⟩
def rdObj (b : Nat) (br : Bool) : Obj := .cells #[.pointer (some ⟨b, 0, none⟩), .bool br] 76 (0, 0)
/-- Block q is a reader over pack's reader b, that has s left. -/
structure RB (q b : Nat) (s : ByteArray) (br : Bool) (X : World) : Prop where
  hq : X.heap[q]? = some (rdObj b br)
  rd : RdAt X b s
section
variable {q b : Nat} {s s' : ByteArray} {br br' : Bool} {X Y : World}
theorem RB.ne (h : RB q b s br X) : q ≠ b := by
  rintro rfl
  have h1 := h.hq
  have h2 := h.rd
  unfold RdAt at h2
  rw [h1] at h2
  simp [rdObj] at h2
theorem RB.lt (h : RB q b s br X) : q < X.heap.size ∧ b < X.heap.size := ⟨lt_of_block h.hq, lt_of_block h.rd⟩
theorem RB.cells (h : RB q b s br X) : X.cell? ⟨q, 0, none⟩ = some (.pointer (some ⟨b, 0, none⟩)) ∧ X.cell? ⟨q, 1, none⟩ = some (.bool br) ∧ X.frozen? ⟨q, 1, none⟩ = false := by
  refine ⟨by rw [Joins.cell_of_block h.hq]; rfl, by rw [Joins.cell_of_block h.hq]; rfl, by simp [World.frozen?, h.hq, rdObj]⟩
theorem RB.keep (h : RB q b s br X) (hb : Below X.heap.size X Y) : RB q b s br Y := ⟨(hb.block _ h.lt.1).trans h.hq, (hb.block _ h.lt.2).trans h.rd⟩
theorem RB.step (h : RB q b s br X) (hs : Step b X none Y none) (hr : RdAt Y b s') : RB q b s' br Y :=
  ⟨(hs.kept.block q h.lt.1 h.ne (by simp)).trans h.hq, hr⟩
theorem RB.set (h : RB q b s br X) (br' : Bool) : RB q b s br' (X.setCell ⟨q, 1, none⟩ (.bool br')) := by
  refine ⟨?_, (Below.heap_setCell _ _ _ _ (by simpa using h.ne.symm)).trans h.rd⟩
  have := Joins.block_setCell h.hq (i := 1) (.bool br')
  simpa [rdObj] using this
end
theorem rest_is (s : ByteArray) (n : Nat) : bs (s.extract n s.size) = (bs s).drop n := by
  unfold bs
  rw [Lib.extract_data, Lib.size_eq, List.take_of_length_le]
  simp
theorem rest_size (s : ByteArray) (n : Nat) : (s.extract n s.size).size ≤ s.size := by rw [← bs_len, rest_is, List.length_drop, bs_len]; omega
/-- What a reading of one thing comes to. -/
def RdAns {α : Type} (ret : α → Value) (put : α → List UInt8) (ok : α → Prop) (q b : Nat) (s : ByteArray) (br : Bool) (X : World) (e : Ending) (w' : World) : Prop :=
  ∃ x s' br', e = .returned (ret x) ∧ ok x ∧ s'.size ≤ s.size ∧ RB q b s' br' w' ∧ Rd put ok (bs s) br x (bs s') br' ∧ Stay q b X w'
theorem rd_good {α : Type} {put : α → List UInt8} {ok : α → Prop} {s s' : List UInt8} {x : α} (br : Bool) (h : s = put x ++ s') (hx : ok x) : Rd put ok s br x s' br := by
  cases br
  · exact .inr (.inl ⟨rfl, rfl, hx, h⟩)
  · exact .inl ⟨rfl, rfl⟩
theorem rd_bad {α : Type} {put : α → List UInt8} {ok : α → Prop} {s s' : List UInt8} {x : α} (br : Bool) (h : ∀ y t, ok y → s ≠ put y ++ t) : Rd put ok s br x s' true := by
  cases br
  · exact .inr (.inr ⟨rfl, rfl, h⟩)
  · exact .inl ⟨rfl, rfl⟩
theorem rd_step_set {w w1 : World} {b : Nat} (h : Below w.heap.size w w1) (v : Value) : Step b w none (w1.setCell ⟨b, 0, none⟩ v) none :=
  ⟨⟨h.os, h.tape, h.output, by simpa [World.setCell] using h.size, fun k hk hkb _ => by rw [Below.heap_setCell _ _ _ _ (by simpa using hkb)]; exact h.block k hk⟩, .inl rfl⟩
theorem no_num {s : List UInt8} (hd : dnum s = none) (n : Nat) (t : List UInt8) (hn : OkN n) : s ≠ enc n ++ t := fun e => by
  rw [e, dnum_enc n t hn] at hd; cases hd
set_option maxRecDepth 100000 in
theorem count_any (q b : Nat) (s : ByteArray) (br : Bool) (X : World) (h : RB q b s br X) (hs : s.size ≤ 1000000000000) :
    Calls Tryz.prog 68 #[.pointer (some ⟨q, 0, none⟩)] X (RdAns (fun n : Nat => .int .u64 n) enc OkN q b s br X) := by
  obtain ⟨c0, c1, cf⟩ := h.cells
  have HR : Hid (RB q b s br X) := h
  clear h
  cases hd : dnum (bs s) with
  | none =>
    have HNo : Hid (∀ n t, OkN n → bs s ≠ enc n ++ t) := no_num hd
    have HN : Hid _ := Pk.rNum_none b s X HR.out.rd (by unfold maxLen; omega) hd
    clear hd
    cases br <;>
    · go_enter Tryz.func68, Tryz.ntmps68
      go_wp2_with (go_at_call 91; refine (show Calls _ _ _ _ _ from HN.out).mono ?_; rintro e w1 ⟨rfl, rfl⟩)
      go_ret
      exact ⟨0, s, true, rfl, (by unfold OkN; omega), Nat.le_refl _, HR.out.set true, rd_bad _ HNo.out, (Stay.refl _ _ _).set _ _⟩
  | some p =>
    obtain ⟨n, k⟩ := p
    obtain ⟨h1, h2, h3, h4⟩ := dnum_some hd
    have HN : Hid _ := Pk.rNum_some b s X HR.out.rd (by unfold maxLen; omega) n k hd
    have HE : Hid (bs s = enc n ++ bs (s.extract k s.size)) := by show _ = _; rw [rest_is]; exact h3
    obtain ⟨Y, hY⟩ : ∃ Y, Y = X.setCell ⟨b, 0, none⟩ (.string (s.extract k s.size)) := ⟨_, rfl⟩
    have hst : Step b X none Y none := by rw [hY]; exact rd_step_set (Below.refl _ _) _
    have hry : RdAt Y b (s.extract k s.size) := by rw [hY]; exact one_setCell HR.out.rd
    have HRY : Hid (RB q b (s.extract k s.size) br Y) := HR.out.step hst hry
    have HSt : Hid (Stay q b X Y) := Stay.of_step hst
    rw [← hY] at HN
    obtain ⟨d0, d1, df⟩ := HRY.out.cells
    have hok : OkN n := h1
    have hsz := rest_size s k
    clear hY hst hry hd h1 h2 h3 h4
    cases br <;>
    · go_enter Tryz.func68, Tryz.ntmps68
      go_wp2_with (go_at_call 91; refine (show Calls _ _ _ _ _ from HN.out).mono ?_; rintro e w1 ⟨rfl, rfl⟩)
      go_ret
      exact ⟨n, _, _, rfl, hok, hsz, HRY.out.set _, rd_good _ HE.out hok, HSt.out.set _ _⟩
set_option maxRecDepth 100000 in
theorem wholeN_any (q b : Nat) (s : ByteArray) (br : Bool) (X : World) (h : RB q b s br X) (hs : s.size ≤ 1000000000000) :
    Calls Tryz.prog 42 #[.pointer (some ⟨q, 0, none⟩)] X (RdAns (fun n : Int => .int .i64 n) intB OkI q b s br X) := by
  obtain ⟨c0, c1, cf⟩ := h.cells
  have HR : Hid (RB q b s br X) := h
  clear h
  cases hd : dnum (bs s) with
  | none =>
    have HNo : Hid (∀ n t, OkI n → bs s ≠ intB n ++ t) := fun n t hn => no_num hd _ t (fold_lt hn.1 hn.2)
    have HN : Hid _ := Pk.rInt_none b s X HR.out.rd (by unfold maxLen; omega) hd
    clear hd
    cases br <;>
    · go_enter Tryz.func42, Tryz.ntmps42
      go_wp2_with (go_at_call 69; refine (show Calls _ _ _ _ _ from HN.out).mono ?_; rintro e w1 ⟨rfl, rfl⟩)
      go_ret
      exact ⟨0, s, true, rfl, OkI.zero, Nat.le_refl _, HR.out.set true, rd_bad _ HNo.out, (Stay.refl _ _ _).set _ _⟩
  | some p =>
    obtain ⟨n, k⟩ := p
    obtain ⟨h1, h2, h3, h4⟩ := dnum_some hd
    have HN : Hid _ := Pk.rInt_some b s X HR.out.rd (by unfold maxLen; omega) n k hd
    have HE : Hid (bs s = intB (unfold n) ++ bs (s.extract k s.size)) := by show _ = _; unfold intB; rw [fold_unfold, rest_is]; exact h3
    obtain ⟨Y, hY⟩ : ∃ Y, Y = X.setCell ⟨b, 0, none⟩ (.string (s.extract k s.size)) := ⟨_, rfl⟩
    have hst : Step b X none Y none := by rw [hY]; exact rd_step_set (Below.refl _ _) _
    have hry : RdAt Y b (s.extract k s.size) := by rw [hY]; exact one_setCell HR.out.rd
    have HRY : Hid (RB q b (s.extract k s.size) br Y) := HR.out.step hst hry
    have HSt : Hid (Stay q b X Y) := Stay.of_step hst
    rw [← hY] at HN
    obtain ⟨d0, d1, df⟩ := HRY.out.cells
    have hok : OkI (unfold n) := unfold_bd h1
    have hsz := rest_size s k
    clear hY hst hry hd h1 h2 h3 h4
    cases br <;>
    · go_enter Tryz.func42, Tryz.ntmps42
      go_wp2_with (go_at_call 69; refine (show Calls _ _ _ _ _ from HN.out).mono ?_; rintro e w1 ⟨rfl, rfl⟩)
      go_ret
      exact ⟨_, _, _, rfl, hok, hsz, HRY.out.set _, rd_good _ HE.out hok, HSt.out.set _ _⟩
end Go.Proofs.YtjfanbemihheiaaGreatDoor.Ma
