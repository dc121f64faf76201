/-
  Lists that lie somewhere, for the walks of the statements: a merge of one, of two, of three; two that are the same.
-/
import Derived.Test.YtdaibmafnamfgaaMergeLives
import Derived.Test.YtdaibmafnamfgaaEnRef
namespace Go.Proofs.Ytdaibmafnamfgaa.Mg
open Go.RowKit Go.Shelf Cm Mm
set_option linter.unusedVariables false

/-- A list that lies somewhere. -/
structure Lies (w : World) (ao : Option Addr) (c : Nat) (l : List En) : Prop where
  elems : ElemsAt enShape w ao l
  nil : ao = none → c = 0
theorem Lies.later {w X : World} {ao : Option Addr} {c : Nat} {l : List En} (h : Lies w ao c l) (hb : Below w.heap.size w X) : Lies X ao c l := ⟨h.elems.later hb, h.nil⟩
theorem Lies.of {w : World} {B : Nat} {v : Value} {L : List En} (h : OwnE w B v L) : ∃ ao c, v = .slice ao L.length c ∧ Lies w ao c L := by
  obtain ⟨ao, c, rfl, hn, hx, _⟩ := own_lens h
  exact ⟨ao, c, rfl, hx, hn⟩
/-- A list is answered, and all that lay in w lies. -/
def MLies (w : World) (L : List En) (e : Ending) (w' : World) : Prop := ∃ ao c, e = .returned (.slice ao L.length c) ∧ Lies w' ao c L ∧ Below w.heap.size w w'
theorem MLies.of {w X : World} {L : List En} {e : Ending} {w' : World} (h : MAns X L e w') (hb : Below w.heap.size w X) : MLies w L e w' := by
  obtain ⟨v, rfl, ho, hb2⟩ := h
  obtain ⟨ao2, c2, rfl, h2⟩ := Lies.of ho
  exact ⟨ao2, c2, rfl, h2, hb.trans (hb2.mono hb.size)⟩
theorem m1 {X : World} {ao : Option Addr} {c : Nat} {l : List En} (hx : Lies X ao c l) (hl : l.length ≤ 1000000000000) :
    Calls Try.prog 10 #[.slice (some ⟨X.heap.size, 0, none⟩) 1 1] (X.alloc (.cells #[.slice ao l.length c] 22)) (MLies X (merged l)) := by
  have h := merge_any (some ⟨X.heap.size, 0, none⟩) 1 [l] _ (lists1 X ao c l hx.elems hx.nil) (by simp) (by simpa using hl)
  rw [show [l].flatten = l by simp] at h
  exact h.mono fun e w' h => MLies.of h ((Below.refl _ _).alloc (Nat.le_refl _) _)
theorem m2 {X : World} {ao bo : Option Addr} {c d : Nat} {l k : List En} (hx : Lies X ao c l) (hy : Lies X bo d k) (hl : l.length + k.length ≤ 1000000000000) :
    Calls Try.prog 10 #[.slice (some ⟨X.heap.size, 0, none⟩) 2 2] (X.alloc (.cells #[.slice ao l.length c, .slice bo k.length d] 22)) (MLies X (merged (l ++ k))) :=
  (merge2_any X hx.elems hx.nil hy.elems hy.nil hl).mono fun e w' h => MLies.of h ((Below.refl _ _).alloc (Nat.le_refl _) _)
theorem m3 {X : World} {ao bo co : Option Addr} {c d f : Nat} {l k j : List En} (hx : Lies X ao c l) (hy : Lies X bo d k) (hz : Lies X co f j) (hl : l.length + k.length + j.length ≤ 1000000000000) :
    Calls Try.prog 10 #[.slice (some ⟨X.heap.size, 0, none⟩) 3 3] (X.alloc (.cells #[.slice ao l.length c, .slice bo k.length d, .slice co j.length f] 22)) (MLies X (merged (l ++ k ++ j))) :=
  (merge3_any X hx.elems hx.nil hy.elems hy.nil hz.elems hz.nil hl).mono fun e w' h => MLies.of h ((Below.refl _ _).alloc (Nat.le_refl _) _)
theorem sm {X : World} {ao bo : Option Addr} {c d : Nat} {l : List En} (hx : Lies X ao c l) (hy : Lies X bo d l) (hl : l.length ≤ 1000000000000) :
    Calls Try.prog 11 #[.slice ao l.length c, .slice bo l.length d] X fun e w' => e = .returned (.bool true) ∧ Below X.heap.size X w' := by
  refine (same_any ao bo c d l X hx.elems hy.elems hl).mono ?_
  rintro e w' ⟨rfl, n, rfl⟩
  exact ⟨rfl, below_drewN (Below.refl _ _)⟩
end Go.Proofs.Ytdaibmafnamfgaa.Mg
