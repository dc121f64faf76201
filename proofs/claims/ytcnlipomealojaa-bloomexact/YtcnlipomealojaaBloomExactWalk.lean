/-
  The walk of the statement BloomExact.
-/
import Derived.Test.YtcnlipomealojaaBloomLives
import Derived.Test.YtcnlipomealojaaBloomRefBuild
import Derived.Test.YtcnlipomealojaaCmTexts
import Derived.Test.YtcnlipomealojaaCmSame
import Derived.Deep.RegionHeld3
import Derived.Deep.RegionWith
namespace Go.Proofs.Ytcnlipomealojaa.Bl
open Go.RowKit Cm
set_option linter.unusedVariables false

theorem below_drew {B : Nat} {w w' : World} {n : Nat} (h : Below B w w') : Below B w (w'.drewN n) := ⟨h.os, h.tape, h.output, h.size, h.block⟩
set_option maxRecDepth 100000 in
set_option maxHeartbeats 1000000 in
theorem exact_walk (ao : Option Addr) (ca : Nat) (xs : List ByteArray) (F K : ByteArray) (w : World) (hc : CellsAt w ao (strVals xs)) (nx : ao = none → ca = 0) (hlen : xs.length ≤ 8796093021952) (hs : ∀ x ∈ xs, x.size ≤ 9223372036854775807) (hF : F.size ≤ 140737488351232) (hK : K.size ≤ 140737488351232) :
    Calls Try.prog 3 #[.slice ao xs.length ca, .string F, .string K] w fun e w' => e = .returned (.bool true) ∧ Below w.heap.size w w' := by
  obtain ⟨i0, hi0, hz0, hz1, hz2⟩ := info_parts infoStr
  have HX : Hid (∀ wr, Below w.heap.size w wr → CellsAt wr ao (strVals xs)) := fun wr h => hc.below h
  have HS : Hid _ := hs
  clear hc hs
  go_enter Try.func3, Try.ntmps3
  go_wp2_with fail
  refine (lives_any w).mono ?_
  rintro e w3 ⟨rfl, hB3⟩
  have hs3 := hB3.size
  have hx3 := (HX.out w3 hB3).alloc (.cells #[] 9)
  have HB3 : Hid _ := hB3
  clear hB3
  go_wp2_with (at_builtin; refine wpList_append_any _ rfl _ _ 22 rfl w3.heap.size 9 i0 (.string ⟨#[]⟩) 16 Try.underlying22 hi0 hz0 hz1 hz2 rfl _ 0 [] rfl (own_empty w3 _ (Nat.le_refl _)) ao xs.length ca (strVals xs) rfl nx (by simp [strVals]) hx3 ?c0 ?c1 ?c2 ?c3 ?_)
  case c0 => intro u hu; obtain ⟨x, _, rfl⟩ := List.mem_map.1 hu; rfl
  case c1 => unfold maxLen; omega
  case c2 => omega
  case c3 => simp
  intro v4 w4 hown4 hgrow4 hat4
  have hB4 : Below w3.heap.size w3 w4 := ((Below.refl _ _).alloc (Nat.le_refl _) _).grown hgrow4 (by simp) (fun k hk => ((own_empty w3 _ (Nat.le_refl _)).lt k hk).1)
  have hs4 := hB4.size
  clear hgrow4 hat4 hx3
  have HB4 : Hid _ := hB4
  clear hB4
  go_wp2_with (at_builtin; refine wpList_append_any _ rfl _ _ 22 rfl w3.heap.size 9 i0 (.string ⟨#[]⟩) 16 Try.underlying22 hi0 hz0 hz1 hz2 rfl v4 xs.length (strVals xs) rfl (hown4.alloc _) (some ⟨w4.heap.size, 0, none⟩) 1 1 (strVals [⟨#[115, 112, 97, 114, 101]⟩]) rfl (by simp) rfl (cells_new _ _) ?d0 ?d1 ?d2 ?d3 ?_)
  case d0 => intro u hu; obtain ⟨x, _, rfl⟩ := List.mem_map.1 hu; rfl
  case d1 => unfold maxLen; omega
  case d2 => omega
  case d3 => simp; omega
  intro v5 w5 hown5 hgrow5 hat5
  have hB5 : Below w3.heap.size w3 w5 := (HB4.out.alloc hs4 _).grown hgrow5 (by simp; omega) (fun k hk => (hown4.lt k hk).1)
  have hs5 := hB5.size
  obtain ⟨g5, c5, rfl, hg5, hgl5, hcap5, hc5⟩ := own_some hown5 (by omega)
  have hc5 : CellsAt w5 (some ⟨g5, 0, none⟩) (strVals (xs ++ [⟨#[115, 112, 97, 114, 101]⟩])) := by rw [strVals, List.map_append]; exact hc5
  have HB5 : Hid (Below w.heap.size w w5) := HB3.out.trans (hB5.mono hs3)
  have HFr : Hid (∀ w', Below w5.heap.size w5 w' → CellsAt w' (some ⟨g5, 0, none⟩) (strVals xs) ∧ w'.cell? ⟨g5, 0 + xs.length, none⟩ = some (.string ⟨#[115, 112, 97, 114, 101]⟩)) := fun w' h => by
    obtain ⟨b, off, he, h1, h2⟩ := cells_front (hc5.below h)
    simp only [Option.some.injEq, Addr.mk.injEq] at he
    obtain ⟨rfl, rfl, _⟩ := he
    exact ⟨h1, h2⟩
  have hcapi : (xs.length : Int) ≤ (c5 : Int) := by omega
  have hk0 : (0 : Int) ≤ (xs.length : Int) := by omega
  have hk1 : (xs.length : Int) < (xs.length : Int) + 1 := by omega
  have HU : Hid (Below w5.heap.size w5 w5) := Below.refl _ _
  clear hc5 hgrow5 hat5 hown4 hown5 HB3 HB4 hB5 hi0 hz0 hz1 hz2
  go_wp2_with fail
  refine (build_any (some ⟨g5, 0, none⟩) c5 xs w5 (HFr.out w5 HU.out).1 (by omega) HS.out).mono ?_
  rintro e w6 ⟨⟨f, rfl, hf⟩, hb6⟩
  have hb6 : Below w5.heap.size w5 w6 := hb6
  have hB6 : Below w.heap.size w w6 := HB5.out.trans (hb6.mono HB5.out.size)
  have hs6 := hB6.size
  go_wp2_with fail
  refine (buildR_any ao ca xs w6 (HX.out w6 hB6) (by omega) HS.out).mono ?_
  rintro e w7 ⟨⟨g, rfl, hg⟩, hb7⟩
  obtain rfl : g = f := ByteArray.ext (Array.ext' (hg.unique hf rfl (fun x => Iff.rfl)))
  have hb67 : Below w5.heap.size w5 w7 := hb6.trans (hb7.mono hb6.size)
  have hB7 : Below w.heap.size w w7 := hB6.trans (hb7.mono hs6)
  have hs7 := hB7.size
  have hgs : g.size ≤ 1152921504606846975 := by have := hf.size; unfold len at this; omega
  obtain ⟨hA, hsp⟩ := HFr.out w7 hb67
  have hsp : w7.cell? ⟨g5, xs.length, none⟩ = some (.string ⟨#[115, 112, 97, 114, 101]⟩) := by simpa using hsp
  have HSm : Hid _ := same_any (some ⟨g5, 0, none⟩) ao c5 ca xs w7 hA (HX.out w7 hB7) (by omega)
  clear hb6 hb7 hB6 hs6 hg hA hf HFr HB5 HU hb67
  go_wp2_with fail
  refine (show Calls _ _ _ _ _ from HSm.out).mono ?_
  rintro e w8 ⟨rfl, n8, rfl⟩
  clear HSm
  have hsp8 : (w7.drewN n8).cell? ⟨g5, xs.length, none⟩ = some (.string ⟨#[115, 112, 97, 114, 101]⟩) := hsp
  have hB8 : Below w.heap.size w (w7.drewN n8) := below_drew hB7
  clear hsp
  generalize w7.drewN n8 = w8 at *
  have hKs : K.size ≤ 9223372036854775807 := by omega
  have hFs : F.size ≤ 1152921504606846975 := by omega
  have H1 : Hid (∀ w : World, Calls Try.prog 10 #[.string K] w fun e w' => e = .returned (.int .u64 (hash K : Nat)) ∧ w' = w) := hash_any K hKs
  have H2 : Hid (∀ w : World, Calls Try.prog 11 #[.string K] w fun e w' => e = .returned (.int .u64 (hash K : Nat)) ∧ w' = w) := hashR_any K hKs
  have H3 : Hid (∀ w : World, Calls Try.prog 12 #[.string F, .string K] w fun e w' => e = .returned (.bool (may F.data.toList K)) ∧ Below w.heap.size w w') := may_any F K hKs hFs
  have H4 : Hid (∀ w : World, Calls Try.prog 13 #[.string F, .string K] w fun e w' => e = .returned (.bool (may F.data.toList K)) ∧ w' = w) := mayR_any F K hKs hFs
  have H5 : Hid (∀ w : World, Calls Try.prog 12 #[.string g, .string K] w fun e w' => e = .returned (.bool (may g.data.toList K)) ∧ Below w.heap.size w w') := may_any g K hKs hgs
  have H6 : Hid (∀ w : World, Calls Try.prog 13 #[.string g, .string K] w fun e w' => e = .returned (.bool (may g.data.toList K)) ∧ w' = w) := mayR_any g K hKs hgs
  generalize hash K = h at *
  generalize may F.data.toList K = m1 at *
  generalize may g.data.toList K = m2 at *
  clear hs7 hB7
  go_wp2_with fail
  refine (H1.out _).mono ?_
  rintro e w9 ⟨rfl, rfl⟩
  go_wp2_with fail
  refine (H2.out _).mono ?_
  rintro e w10 ⟨rfl, rfl⟩
  clear hsp8
  go_wp2_with fail
  refine (H3.out _).mono ?_
  rintro e w11 ⟨rfl, hb11⟩
  have hB11 := hB8.trans (hb11.mono hB8.size)
  clear hb11
  go_wp2_with fail
  refine (H4.out _).mono ?_
  rintro e w12 ⟨rfl, rfl⟩
  go_wp2_with fail
  refine (H5.out _).mono ?_
  rintro e w13 ⟨rfl, hb13⟩
  have hB13 := hB11.trans (hb13.mono hB11.size)
  clear hb13
  go_wp2_with fail
  refine (H6.out _).mono ?_
  rintro e w14 ⟨rfl, rfl⟩
  go_wp2
  go_ret
  exact ⟨rfl, hB13⟩

end Go.Proofs.Ytcnlipomealojaa.Bl
