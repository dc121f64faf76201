/-
  The walk of the statement WalMemory.
-/
import Derived.Test.YtpiaegkeclmpgaaWalLives
import Derived.Test.YtpiaegkeclmpgaaCmTexts
namespace Go.Proofs.Ytpiaegkeclmpgaa.Wl
open Go.RowKit Cm Vf
set_option linter.unusedVariables false

set_option maxRecDepth 100000 in
set_option maxHeartbeats 2000000 in
theorem memory_walk (ao : Option Addr) (ca : Nat) (xs : List ByteArray) (w : World) (hc : CellsAt w ao (strVals xs)) (nx : ao = none → ca = 0) (hb : xs.length + total xs ≤ 10995116277) :
    Calls Try.prog 6 #[.slice ao xs.length ca] w fun e w' => e = .returned (.bool true) ∧ Below w.heap.size w w' := by
  obtain ⟨i0, hi0, hz0, hz1, hz2⟩ := info_parts infoStr
  have hlx : xs.length ≤ 10995116277 := by omega
  have hbk : bulk xs ≤ 87960930216 := by unfold bulk; omega
  have HX : Hid (∀ wr, Below w.heap.size w wr → CellsAt wr ao (strVals xs)) := fun wr h => hc.below h
  clear hc hb
  go_enter Try.func6, Try.ntmps6
  go_wp2_with fail
  refine (lives_any w).mono ?_
  rintro e w0 ⟨rfl, hb0⟩
  have hs0 := hb0.size
  go_wp2_with fail
  refine (newHeld LN w0).mono ?_
  rintro e w3 ⟨rfl, F3, hb3⟩
  have hs3' := hb3.size
  have F3 : Hid (Held w3 (fun k => w0.heap.size ≤ k) (w0.heap.size + 1) LN [] [] 0) := F3
  have hB3 : Below w.heap.size w w3 := hb0.trans (hb3.mono hs0)
  have hs3 := hB3.size
  have hx3 := (HX.out w3 hB3).alloc (.cells #[] 9)
  clear hb0 hb3
  have HB3 : Hid _ := hB3
  clear hB3
  go_wp2_with (at_builtin; refine wpList_append_any _ rfl _ _ 22 rfl w3.heap.size 9 i0 (.string ⟨#[]⟩) 16 Try.underlying22 hi0 hz0 hz1 hz2 rfl _ 0 [] rfl (own_empty w3 _ (Nat.le_refl _)) ao xs.length ca (strVals xs) rfl nx (by simp [strVals]) hx3 ?c0 ?c1 ?c2 ?c3 ?_)
  case c0 => intro u hu; obtain ⟨x, _, rfl⟩ := List.mem_map.1 hu; rfl
  case c1 => unfold maxLen; omega
  case c2 => omega
  case c3 => simp
  intro v4 w4 hown4 hgrow4 hat4
  have hB4 : Below w3.heap.size w3 w4 := ((Below.refl _ _).alloc (Nat.le_refl _) _).grown hgrow4 (by simp) (fun k hk => ((own_empty w3 _ (Nat.le_refl _)).lt k hk).1)
  have hs4 := hB4.size
  clear hgrow4 hat4 hx3
  have HB4 : Hid _ := hB4
  clear hB4
  go_wp2_with (at_builtin; refine wpList_append_any _ rfl _ _ 22 rfl w3.heap.size 9 i0 (.string ⟨#[]⟩) 16 Try.underlying22 hi0 hz0 hz1 hz2 rfl v4 xs.length (strVals xs) rfl (hown4.alloc _) (some ⟨w4.heap.size, 0, none⟩) 1 1 (strVals [⟨#[115, 112, 97, 114, 101]⟩]) rfl (by simp) rfl (Fr.cells1' _) ?d0 ?d1 ?d2 ?d3 ?_)
  case d0 => intro u hu; obtain ⟨x, _, rfl⟩ := List.mem_map.1 hu; rfl
  case d1 => unfold maxLen; omega
  case d2 => omega
  case d3 => simp; omega
  intro v5 w5 hown5 hgrow5 hat5
  have hB5 : Below w3.heap.size w3 w5 := (HB4.out.alloc hs4 _).grown hgrow5 (by simp; omega) (fun k hk => (hown4.lt k hk).1)
  have hs5 := hB5.size
  obtain ⟨g5, c5, rfl, hg5, hgl5, hcap5, hc5⟩ := own_some hown5 (by omega)
  have hc5 : CellsAt w5 (some ⟨g5, 0, none⟩) (strVals (xs ++ [⟨#[115, 112, 97, 114, 101]⟩])) := by rw [strVals, List.map_append]; exact hc5
  have F5 : Hid (Held w5 (Cut (fun k => w0.heap.size ≤ k) w3 w5) (w0.heap.size + 1) LN [] [] 0) := F3.out.cutTo hB5
  have HB5 : Hid (Below w.heap.size w w5) := HB3.out.trans (hB5.mono (by omega))
  have hSn : ∀ k, w5.heap.size ≤ k → Cut (fun k => w0.heap.size ≤ k) w3 w5 k := fun k e => .inr e
  have hSg : ¬ Cut (fun k => w0.heap.size ≤ k) w3 w5 g5 := Cut.out hg5 hgl5
  have hSl : ∀ k, Cut (fun k => w0.heap.size ≤ k) w3 w5 k → w.heap.size ≤ k := fun k e => Cut.lo (fun k e => by omega) (by omega) e
  generalize Cut (fun k => w0.heap.size ≤ k) w3 w5 = S at *
  have HFr : Hid (∀ w', Chg S w5 w' → CellsAt w' (some ⟨g5, 0, none⟩) (strVals xs) ∧ w'.cell? ⟨g5, 0 + xs.length, none⟩ = some (.string ⟨#[115, 112, 97, 114, 101]⟩)) := fun w' h => by
    obtain ⟨b, off, he, h1, h2⟩ := cells_front (cells_chg hc5 h fun ad e => by cases e; exact hSg)
    simp only [Option.some.injEq, Addr.mk.injEq] at he
    obtain ⟨rfl, rfl, _⟩ := he
    exact ⟨h1, h2⟩
  have hcapi : (xs.length : Int) ≤ (c5 : Int) := by omega
  have hk0 : (0 : Int) ≤ (xs.length : Int) := by omega
  have hk1 : (xs.length : Int) < (xs.length : Int) + 1 := by omega
  clear hc5 hgrow5 hat5 hown4 hown5 HB3 HB4 hB5 F3
  by_cases hsm : small xs
  · have HRw : Hid _ := Held.rewrite F5.out hSn isLN (some ⟨g5, 0, none⟩) c5 (HFr.out w5 (Chg.refl _ _)).1 (by omega) hsm (by decide)
    go_wp2_with fail
    refine (show Calls _ _ _ _ _ from HRw.out).mono ?_
    rintro e w6 ⟨rfl, ⟨a6, ha6, F6⟩, hc6⟩
    have F6 : Hid (Held w6 S (w0.heap.size + 1) LN xs [] a6) := F6
    have HB6 : Hid (Below w.heap.size w w6) := HB5.out.trans (hc6.below hSl (by omega))
    have hs6 := HB6.out.size
    have hf6 := HFr.out w6 hc6
    have hx6 := HX.out w6 HB6.out
    clear hc6 HRw HFr HB5 F5
    go_wp2_with fail
    refine (same_any (some ⟨g5, 0, none⟩) ao c5 ca xs _ hf6.1 hx6 (by omega)).mono ?_
    rintro e w7 ⟨rfl, n7, rfl⟩
    have hl7 : (w6.drewN n7).cell? ⟨g5, xs.length, none⟩ = some (.string ⟨#[115, 112, 97, 114, 101]⟩) := by have h := hf6.2; rw [Nat.zero_add] at h; exact h
    have F7 : Hid (Held (w6.drewN n7) S (w0.heap.size + 1) LN xs [] a6) := F6.out.keep fun _ _ _ => rfl
    have HB7 : Hid (Below w.heap.size w (w6.drewN n7)) := Fr.below_drew HB6.out
    have hs7 : w.heap.size ≤ (w6.drewN n7).heap.size := hs6
    clear hf6 hx6 HB6 F6
    generalize w6.drewN n7 = w7 at *
    go_wp2_with fail
    refine (F7.out.open isLN (by simp; omega)).mono ?_
    rintro e w8 ⟨la, aa, cap8, rfl, ho8, _, _, hb8⟩
    have hs8 := hb8.size
    have F8 : Hid (Held w8 S (w0.heap.size + 1) LN xs [] a6) := F7.out.below hb8
    have HB8 : Hid (Below w.heap.size w w8) := HB7.out.trans (hb8.mono hs7)
    have ho8 : Hid (w8.ownsRow w7.heap.size 9 1 (.slice aa xs.length cap8) xs.length (strVals xs)) := ho8
    clear hb8 F7 HB7 hl7
    go_wp2_with fail
    refine (F8.out.open isLN (by simp; omega)).mono ?_
    rintro e W ⟨lb, ab, cb, rfl, ho9, _, _, hb9⟩
    have hs9 := hb9.size
    have HB9 : Hid (Below w.heap.size w W) := HB8.out.trans (hb9.mono (by omega))
    have hoa8 : W.ownsRow w7.heap.size 9 1 (.slice aa xs.length cap8) xs.length (strVals xs) := own_keep ho8.out fun k e => hb9.block k (World.ownsRow.lt ho8.out k e).2
    obtain ⟨hcb8, hab, _⟩ := own_slice ho9
    have hla : ∀ k, (Value.slice aa xs.length cap8).ownBlock = some k → w7.heap.size ≤ k ∧ k < w8.heap.size := fun k hk => World.ownsRow.lt ho8.out k hk
    clear ho8 ho9 hb9 F8 HB8
    go_wp2
    go_loopw [67] (fun i wr => ∃ (k : Nat) (ys : List Value), k ≤ xs.length ∧ i = .int .i64 k ∧ Hid (wr.ownsRow w7.heap.size 9 1 (.slice aa xs.length cap8) xs.length ys) ∧ Hid (W.grownBy wr (Value.slice aa xs.length cap8).ownBlock)) (fun i _ => xs.length - (intOf i).toNat)
    case atStart => exact ⟨0, strVals xs, by omega, rfl, hoa8, ⟨rfl, rfl, rfl, Nat.le_refl _, fun _ _ _ => rfl⟩⟩
    case round =>
      obtain ⟨k, ys, hk, rfl, HO, HG⟩ := hrel
      by_cases hlt : k < xs.length
      · obtain ⟨g, cap, he, _, _, _, _⟩ := own_some HO.out (by omega)
        simp only [Value.slice.injEq, true_and] at he
        obtain ⟨rfl, rfl⟩ := he
        have hst := World.ownsRow.stored HO.out k (.string ⟨#[109, 97, 114, 107]⟩)
        have hfz := World.ownsRow.frozenAt HO.out k
        have hcell := World.ownsRow.cellAt HO.out k (by omega)
        have hyl : k < ys.length := by have := HO.out.1; omega
        rw [List.getElem?_eq_getElem hyl] at hcell
        have HO1 : Hid _ := hst.1
        have HG1 : Hid _ := HG.out.trans hst.2
        have hk0 : (0 : Int) ≤ (k : Int) := by omega
        have hk1 : (k : Int) < (xs.length : Int) := by omega
        clear hst
        go_wp2
        go_roundw
        case rel => exact ⟨k + 1, _, by omega, by go_num, HO1, HG1⟩
        case measure => simp [intOf]; omega
      · have hk' : k = xs.length := by omega
        subst hk'
        have HBr : Hid (Below w.heap.size w wr) := HB9.out.grown HG.out (by omega) (fun k hk => by have := (hla k hk).1; omega)
        have hsr := HBr.out.size
        have hgs := HG.out.size
        go_wp2_with (at_builtin; refine wpList_append_any _ rfl _ _ 22 rfl w7.heap.size 9 i0 (.string ⟨#[]⟩) 16 Try.underlying22 hi0 hz0 hz1 hz2 rfl (.slice aa xs.length cap8) xs.length ys rfl (World.ownsRow.alloc HO.out _) (some ⟨wr.heap.size, 0, none⟩) 1 1 (strVals [⟨#[109, 111, 114, 101]⟩]) rfl (by simp) rfl (Fr.cells1' _) ?e0 ?e1 ?e2 ?e3 ?_)
        case e0 => intro u hu; obtain ⟨x, _, rfl⟩ := List.mem_map.1 hu; rfl
        case e1 => unfold maxLen; omega
        case e2 => omega
        case e3 => simp; omega
        intro v9 w9 hown9 hgrow9 hat9
        have hG9 : wr.grownBy w9 (Value.slice aa xs.length cap8).ownBlock :=
          ⟨hgrow9.os, hgrow9.tape, hgrow9.output, by have := hgrow9.size; simp at this; omega, fun k hk hr => (hgrow9.block k (by simp; omega) hr).trans (Below.heap_alloc _ _ _ hk)⟩
        have HB9' : Hid (Below w.heap.size w w9) := HBr.out.grown hG9 (by omega) (fun k hk => by have := (hla k hk).1; omega)
        have hG : W.grownBy w9 (Value.slice aa xs.length cap8).ownBlock := HG.out.trans hG9
        have hcb9 : CellsAt w9 ab (strVals xs) := CellsAt.keep1 hcb8 (fun a ha hl => hG.block _ hl (fun e => by have := (hab a ha).1; have := (hla _ e.symm).2; omega)) hG.size
        obtain ⟨g9, c9, rfl, _, _, _, _⟩ := own_some hown9 (by omega)
        have hx9 := HX.out w9 HB9'.out
        clear hG hG9 hgrow9 hat9 hown9 HO HG HBr hoa8 hcb8 HB9
        go_wp2_with fail
        refine (same_any ab ao cb ca xs _ hcb9 hx9 (by omega)).mono ?_
        rintro e w10 ⟨rfl, n10, rfl⟩
        go_wp2
        go_ret
        exact ⟨rfl, Fr.below_drew HB9'.out⟩
  · have HRw : Hid _ := Held.rewriteLong F5.out (some ⟨g5, 0, none⟩) c5 (HFr.out w5 (Chg.refl _ _)).1 (by omega) hsm
    go_wp2_with fail
    refine (show Calls _ _ _ _ _ from HRw.out).mono ?_
    rintro e w6 ⟨rfl, hb6⟩
    have F6 : Hid (Held w6 S (w0.heap.size + 1) LN [] [] 0) := F5.out.below hb6
    have HB6 : Hid (Below w.heap.size w w6) := HB5.out.trans (hb6.mono (by omega))
    have hs6 := HB6.out.size
    have hf6 := HFr.out w6 (Chg.of_below hb6)
    have hx6 := HX.out w6 HB6.out
    clear hb6 HRw HFr HB5 F5
    go_wp2_with fail
    refine (same_any (some ⟨g5, 0, none⟩) ao c5 ca xs _ hf6.1 hx6 (by omega)).mono ?_
    rintro e w7 ⟨rfl, n7, rfl⟩
    have hl7 : (w6.drewN n7).cell? ⟨g5, xs.length, none⟩ = some (.string ⟨#[115, 112, 97, 114, 101]⟩) := by have h := hf6.2; rw [Nat.zero_add] at h; exact h
    have F7 : Hid (Held (w6.drewN n7) S (w0.heap.size + 1) LN [] [] 0) := F6.out.keep fun _ _ _ => rfl
    have HB7 : Hid (Below w.heap.size w (w6.drewN n7)) := Fr.below_drew HB6.out
    clear hf6 hx6 HB6 F6
    generalize w6.drewN n7 = w7 at *
    go_wp2_with fail
    refine F7.out.acts.mono ?_
    rintro e w8 ⟨rfl, rfl⟩
    go_wp2
    go_ret
    exact ⟨rfl, HB7.out⟩
end Go.Proofs.Ytpiaegkeclmpgaa.Wl
