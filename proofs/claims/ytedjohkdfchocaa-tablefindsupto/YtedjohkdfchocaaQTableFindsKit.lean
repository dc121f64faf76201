/-
  The texts TableFindsKit.
-/
import Derived.Test.YtedjohkdfchocaaQTableRefGet
import Derived.Test.YtedjohkdfchocaaQTableRefKeys
import Derived.Test.YtedjohkdfchocaaQTableKit
import Derived.Test.YtedjohkdfchocaaQBloomRefBuild

/-
  A table that was opened, and what it is asked: what every answer leaves as it was.
-/
namespace Go.Proofs.Ytedjohkdfchocaa.Tb
open Go.RowKit Cm Mm Bk
open Fr (framesB str sealed)
set_option linter.unusedVariables false

/-- The table at `b` has the versions; what lay ahead of all is as it was. -/
structure FAt (w : World) (es : List En) (b : Nat) (X : World) : Prop where
  tab : ∃ v base, TabAt v base b es X ∧ base ≤ v.heap.size
  bel : Below w.heap.size w X
  sor : Sorted es
  ok : AllOk es
  len : es.length ≤ 1048576
section
variable {w X Y : World} {es : List En} {b : Nat}
theorem FAt.step (h : FAt w es b X) (hb : Below X.heap.size X Y) : FAt w es b Y := by
  obtain ⟨v, base, ht, hB⟩ := h.tab
  exact ⟨⟨v, base, ht.later hB hb, hB⟩, h.bel.trans (hb.mono h.bel.size), h.sor, h.ok, h.len⟩
theorem FAt.drewN (h : FAt w es b X) (n : Nat) : FAt w es b (X.drewN n) := h.step ⟨rfl, rfl, rfl, Nat.le_refl _, fun _ _ => rfl⟩
theorem FAt.tLen (h : FAt w es b X) : Calls Try.prog 12 #[.pointer (some ⟨b, 0, none⟩)] X fun e w' => e = .returned (.int .i64 (es.length : Nat)) ∧ w' = X := by
  obtain ⟨v, base, ht, hB⟩ := h.tab
  exact tLen_any b es X v base ht
theorem FAt.tBlocks (h : FAt w es b X) : Calls Try.prog 21 #[.pointer (some ⟨b, 0, none⟩)] X fun e w' => e = .returned (.int .i64 (nch es : Nat)) ∧ w' = X := by
  obtain ⟨v, base, ht, hB⟩ := h.tab
  exact tBlocks_any b es X v base ht (by have := h.len; omega)
theorem FAt.tFirst (h : FAt w es b X) : Calls Try.prog 28 #[.pointer (some ⟨b, 0, none⟩)] X fun e w' => e = .returned (firstV es) ∧ w' = X := by
  obtain ⟨v, base, ht, hB⟩ := h.tab
  exact tFirst_any b es X v base ht (by have := h.len; omega)
theorem FAt.tLast (h : FAt w es b X) : Calls Try.prog 29 #[.pointer (some ⟨b, 0, none⟩)] X fun e w' => e = .returned (lastV es) ∧ FAt w es b w' := by
  obtain ⟨v, base, ht, hB⟩ := h.tab
  refine (tLast_any b es X v base ht (by have := h.len; omega)).mono ?_
  rintro e w' ⟨rfl, n, rfl⟩
  exact ⟨rfl, h.drewN n⟩
theorem FAt.tGet (h : FAt w es b X) (K : ByteArray) (s : Int) : Calls Try.prog 16 #[.pointer (some ⟨b, 0, none⟩), .string K, .int .i64 s] X fun e w' => e = .returned (foundT (getE es K s)) ∧ FAt w es b w' := by
  obtain ⟨v, base, ht, hB⟩ := h.tab
  refine (tGet_any b es K s X v base ht h.sor hB (by have := h.len; omega)).mono ?_
  rintro e w' ⟨rfl, hb⟩
  exact ⟨rfl, h.step hb⟩
theorem FAt.tMay (h : FAt w es b X) (K : ByteArray) (hK : K.size ≤ 9223372036854775807) : Calls Try.prog 24 #[.pointer (some ⟨b, 0, none⟩), .string K] X fun e w' => e = .returned (.bool (Bl.may (filt (keysE es)) K)) ∧ FAt w es b w' := by
  obtain ⟨v, base, ht, hB⟩ := h.tab
  refine (tMay_any b es K X v base ht (by have := h.len; omega) hK).mono ?_
  rintro e w' ⟨rfl, hb⟩
  exact ⟨rfl, h.step hb⟩
theorem FAt.tAll (h : FAt w es b X) : Calls Try.prog 15 #[.pointer (some ⟨b, 0, none⟩)] X fun e w' => (∃ v, e = .returned v ∧ w'.ownsRow X.heap.size 44 4 v es.length (enShape.vals es)) ∧ Below X.heap.size X w' := by
  obtain ⟨v, base, ht, hB⟩ := h.tab
  exact tAll_any b es X v base ht (by have := h.len; omega)
theorem FAt.tFrom (h : FAt w es b X) (K : ByteArray) : Calls Try.prog 18 #[.pointer (some ⟨b, 0, none⟩), .string K] X fun e w' => (∃ v, e = .returned v ∧ w'.ownsRow X.heap.size 44 4 v (fromE es K).length (enShape.vals (fromE es K))) ∧ Below X.heap.size X w' := by
  obtain ⟨v, base, ht, hB⟩ := h.tab
  exact tFrom_any b es K X v base ht h.sor h.ok hB (by have := h.len; omega)
end
theorem own_any {w : World} {B k n : Nat} {e : TypeId} {v : Value} {vs : List Value} (h : w.ownsRow B e k v n vs) : ∃ o c, v = .slice o n c := by
  rcases h.2 with ⟨rfl, h0⟩ | ⟨g, cap, cur, rfl, _⟩
  · exact ⟨none, 0, by rw [h0]⟩
  · exact ⟨_, _, rfl⟩
theorem own_texts {w : World} {B n : Nat} {v : Value} {xs : List ByteArray} (h : w.ownsRow B 9 1 v xs.length (strVals xs)) : ∃ o c, v = .slice o xs.length c ∧ CellsAt w o (strVals xs) := by
  rcases h.2 with ⟨rfl, h0⟩ | ⟨g, cap, cur, rfl, hB, hg, hle, _⟩
  · refine ⟨none, 0, by rw [h0], .inl ?_⟩
    have : xs = [] := List.eq_nil_of_length_eq_zero h0
    rw [this]; rfl
  · exact ⟨_, _, rfl, own_cells1 h (lt_of_block hg)⟩
section
variable {w X : World} {ao : Option Addr} {ca : Nat} {es : List En} {b : Nat}
theorem FAt.blocksR (h : FAt w es b X) (hx : ElemsAt enShape w ao es) (hca : es.length ≤ ca) : Calls Try.prog 22 #[.slice ao es.length ca] X fun e w' => (∃ o c, e = .returned (.slice o (nch es) c)) ∧ FAt w es b w' := by
  obtain ⟨pb, off, hao⟩ : ∃ pb off, 0 < es.length → ao = some ⟨pb, off, none⟩ := by
    rcases hx with rfl | ⟨pb, off, he, _⟩
    · exact ⟨0, 0, fun h => absurd h (by simp)⟩
    · exact ⟨pb, off, fun _ => he⟩
  refine (blocksR_any ao pb off ca es X hao hca (by have := h.len; omega)).mono ?_
  rintro e w' ⟨⟨v, rfl, ho⟩, hb⟩
  obtain ⟨o, c, rfl⟩ := own_any ho
  exact ⟨⟨o, c, rfl⟩, h.step hb⟩
theorem FAt.keysR (h : FAt w es b X) (hx : ElemsAt enShape w ao es) : Calls Try.prog 27 #[.slice ao es.length ca] X fun e w' => (∃ o c, e = .returned (.slice o (keysE es).length c) ∧ CellsAt w' o (strVals (keysE es))) ∧ FAt w es b w' := by
  refine (keysR_any ao ca es X (hx.later h.bel) (by have := h.len; omega)).mono ?_
  rintro e w' ⟨⟨v, rfl, ho⟩, hb⟩
  obtain ⟨o, c, rfl, hc⟩ := own_texts (n := 0) ho
  exact ⟨⟨o, c, rfl, hc⟩, h.step hb⟩
theorem keysE_len (es : List En) : (keysE es).length ≤ es.length := ks_len es es.length
theorem keys_sized {es : List En} (h : bytesE es ≤ 1048576) : ∀ x ∈ keysE es, x.size ≤ 9223372036854775807 := fun x hx => by
  obtain ⟨i, hi, rfl⟩ := mem_keys hx
  have := (getD_bytes es i).1
  omega
theorem FAt.buildR (h : FAt w es b X) {o : Option Addr} {c : Nat} (hc : CellsAt X o (strVals (keysE es))) (hks : ∀ x ∈ keysE es, x.size ≤ 9223372036854775807) : Calls Try.prog 26 #[.slice o (keysE es).length c] X fun e w' => e = .returned (.string (str (filt (keysE es)))) ∧ FAt w es b w' := by
  have hl := keysE_len es
  refine (Bl.buildR_any o c (keysE es) X hc (by have := h.len; omega) hks).mono ?_
  rintro e w' ⟨⟨f, rfl, hf⟩, hb⟩
  refine ⟨?_, h.step hb⟩
  rw [← filt_eq hf]
  rfl
theorem FAt.mayR (h : FAt w es b X) (K : ByteArray) (hK : K.size ≤ 9223372036854775807) : Calls Try.prog 25 #[.string (str (filt (keysE es))), .string K] X fun e w' => e = .returned (.bool (Bl.may (filt (keysE es)) K)) ∧ w' = X := by
  refine Bl.mayR_any (str (filt (keysE es))) K hK ?_ X
  have hl := keysE_len es
  have hl2 := h.len
  rw [Fr.str_size, filt_len]
  unfold Bl.len
  omega
theorem FAt.getR (h : FAt w es b X) (hx : ElemsAt enShape w ao es) (K : ByteArray) (s : Int) : Calls Try.prog 23 #[.slice ao es.length ca, .string K, .int .i64 s] X fun e w' => e = .returned (foundT (getE es K s)) ∧ Below X.heap.size X w' :=
  getR_any ao ca es K s X (hx.later h.bel) (by have := h.len; omega)
end
theorem sealed_form (xs : List ByteArray) : (∃ S, sealed xs = .tuple #[.string S, .int .i64 0]) ∨ sealed xs = .tuple #[.string ⟨#[]⟩, .int .i64 2] := by
  unfold sealed
  split
  · exact .inl ⟨_, rfl⟩
  · exact .inr rfl
/-- The versions a, which are marked and grown; the versions b, which stay. -/
structure Two (w : World) (xs ys : List En) (a b : Value) (zs : List Value) (X : World) : Prop where
  own : X.ownsRow w.heap.size 44 4 a xs.length zs
  oth : X.ownsRow w.heap.size 44 4 b ys.length (enShape.vals ys)
  far : ∀ k, a.ownBlock = some k → b.ownBlock ≠ some k
  bel : Below w.heap.size w X
theorem two_made {w X Y : World} {xs ys : List En} {a b : Value} (ha : X.ownsRow w.heap.size 44 4 a xs.length (enShape.vals xs)) (hX : Below w.heap.size w X) (hb : Y.ownsRow X.heap.size 44 4 b ys.length (enShape.vals ys)) (hY : Below X.heap.size X Y) : Two w xs ys a b (enShape.vals xs) Y := by
  refine ⟨rows_keep ha (fun k hk => hY.block k (World.ownsRow.lt ha k hk).2), ⟨hb.1, ?_⟩, fun k h1 h2 => ?_, hX.trans (hY.mono hX.size)⟩
  · rcases hb.2 with h | ⟨g, cap, cur, e, hB, h⟩
    · exact .inl h
    · exact .inr ⟨g, cap, cur, e, Nat.le_trans hX.size hB, h⟩
  · have q1 := (World.ownsRow.lt ha k h1).2
    have q2 := (hb.lt k h2).1
    omega
theorem from_len (es : List En) (K : ByteArray) : (fromE es K).length ≤ es.length := (List.dropWhile_sublist _).length_le
theorem may_found {es : List En} {K : ByteArray} {s : Int} (h : (getE es K s).isSome = true) : Bl.may (filt (keysE es)) K = true := by
  obtain ⟨e, he⟩ := Option.isSome_iff_exists.1 h
  have h1 := List.mem_of_find?_eq_some he
  have h2 := List.find?_some he
  simp at h2
  rw [← h2.1]
  exact (filt_is _).keeps (keys_mem h1)
end Go.Proofs.Ytedjohkdfchocaa.Tb
