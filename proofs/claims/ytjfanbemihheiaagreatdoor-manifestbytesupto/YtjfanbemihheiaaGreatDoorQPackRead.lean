/-
  Package pack's reader, as the statements use it: what it takes from bytes that begin with a number's, a whole number's or a text's, and that it stays where they don't.
-/
import Derived.Test.YtjfanbemihheiaaGreatDoorPart1
import Derived.Lib.SmallJoins
namespace Go.Proofs.YtjfanbemihheiaaGreatDoor.Pk
open Go.RowKit
set_option linter.unusedVariables false

theorem RdAt.lt {w : World} {b : Nat} {s : ByteArray} (h : RdAt w b s) : b < w.heap.size := lt_of_block h
theorem RdAt.alloc {w : World} {b : Nat} {s : ByteArray} (h : RdAt w b s) (o : Obj) : RdAt (w.alloc o) b s := (Below.heap_alloc _ _ _ h.lt).trans h
theorem RdAt.below {w w' : World} {b : Nat} {s : ByteArray} (h : RdAt w b s) {B : Nat} (hb : Below B w w') (hB : b < B) : RdAt w' b s := (hb.block b hB).trans h
theorem WrAt.alloc {w : World} {base b : Nat} {r : Option Nat} {bs : List UInt8} (h : WrAt w base b r bs) (o : Obj) : WrAt (w.alloc o) base b r bs :=
  h.keep (Below.heap_alloc _ _ _ h.lt) fun k hk => Below.heap_alloc _ _ _ (h.row_ge k hk).2.1

theorem step_set {w w1 : World} {b : Nat} (h : Below w.heap.size w w1) (v : Value) : Step b w none (w1.setCell ⟨b, 0, none⟩ v) none :=
  ⟨⟨h.os, h.tape, h.output, by simpa [World.setCell] using h.size, fun k hk hkb _ => by rw [Below.heap_setCell _ _ _ _ (by simpa using hkb)]; exact h.block k hk⟩, .inl rfl⟩

theorem rest_of {s : ByteArray} {p r : List UInt8} (h : s.data.toList = p ++ r) : (s.extract p.length s.size).data.toList = r := by
  rw [Lib.extract_data, Lib.size_eq, h, List.drop_left, List.take_of_length_le]
  simp
theorem mid_of {s : ByteArray} {p q r : List UInt8} (h : s.data.toList = p ++ (q ++ r)) : s.extract p.length (p.length + q.length) = ⟨q.toArray⟩ := by
  rw [Lib.extract_eq, h, List.drop_left, Nat.add_sub_cancel_left, List.take_left]
theorem rest2_of {s : ByteArray} {p q r : List UInt8} (h : s.data.toList = p ++ (q ++ r)) : (s.extract (p.length + q.length) s.size).data.toList = r := by
  rw [← List.length_append]
  exact rest_of (by rw [h, List.append_assoc])

theorem rNum_read (b n : Nat) (rest : List UInt8) (s : ByteArray) (w : World) (hr : RdAt w b s) (hs : s.size ≤ maxLen) (hn : n < 18446744073709551616) (hl : s.data.toList = enc n ++ rest) :
    Calls Tryz.prog 91 #[.pointer (some ⟨b, 0, none⟩)] w fun e w' => e = .returned (.tuple #[.int .u64 n, .int .i64 0]) ∧ ∃ s', RdAt w' b s' ∧ s'.data.toList = rest ∧ Step b w none w' none := by
  refine (rNum_some b s w hr hs n (enc n).length (by rw [hl]; exact dnum_enc n rest hn)).mono ?_
  rintro e w' ⟨rfl, rfl⟩
  exact ⟨rfl, _, one_setCell hr, rest_of hl, step_set (Below.refl _ _) _⟩
theorem rInt_read (b u : Nat) (rest : List UInt8) (s : ByteArray) (w : World) (hr : RdAt w b s) (hs : s.size ≤ maxLen) (hn : u < 18446744073709551616) (hl : s.data.toList = enc u ++ rest) :
    Calls Tryz.prog 69 #[.pointer (some ⟨b, 0, none⟩)] w fun e w' => e = .returned (.tuple #[.int .i64 (unfold u), .int .i64 0]) ∧ ∃ s', RdAt w' b s' ∧ s'.data.toList = rest ∧ Step b w none w' none := by
  refine (rInt_some b s w hr hs u (enc u).length (by rw [hl]; exact dnum_enc u rest hn)).mono ?_
  rintro e w' ⟨rfl, rfl⟩
  exact ⟨rfl, _, one_setCell hr, rest_of hl, step_set (Below.refl _ _) _⟩
theorem dtext_text (t rest : List UInt8) (h : t.length < 18446744073709551616) : dtext (text t ++ rest) = some ((enc t.length).length, t.length) := by
  unfold dtext text
  rw [List.append_assoc, dnum_enc _ _ h]
  simp only
  rw [if_pos (by simp)]

end Go.Proofs.YtjfanbemihheiaaGreatDoor.Pk
