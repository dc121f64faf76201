/-
  The document's answer for layer 10: a merge, as one after the other is put into its place.
-/
import Derived.Test.YtdaibmafnamfgaaMergeRefIns
namespace Go.Proofs.Ytdaibmafnamfgaa.Mg
open Go.RowKit Go.Shelf Cm Mm
set_option linter.unusedVariables false

theorem insert_any (v : Value) (l : List En) (x : En) (B : Nat) (w : World) (hO : OwnE w B v l) (hs : Sorted l) (hB : B ≤ w.heap.size) (hl : l.length ≤ 100000000000) :
    Calls Try.prog 30 #[v, env x] w (IAns w B (ins l x)) := by
  rcases hO.2 with ⟨rfl, hn⟩ | ⟨g, cap, cur, rfl, _⟩
  · have : l = [] := List.length_eq_zero_iff.1 hn
    subst this
    exact insert_nil x B w hB
  · exact insert_row g cap l x B w hO hs hB hl
def folded (l : List En) : List En := l.foldl ins []
theorem folded_snoc (l : List En) (x : En) : folded (l ++ [x]) = ins (folded l) x := by unfold folded; rw [List.foldl_append]; rfl
theorem folded_merged (l : List En) : folded l = merged l := rfl
theorem OwnE.none (w : World) (B : Nat) : OwnE w B (.slice Option.none 0 0) [] := World.ownsRow_nil _ _ _ _

set_option maxRecDepth 100000 in
set_option maxHeartbeats 2000000 in
theorem mergeR_any (ao : Option Addr) (mc : Nat) (ls : List (List En)) (w : World) (h : Lists w ao ls) (hm : ls.length ≤ 1000) (hl : ls.flatten.length ≤ 10000000000) :
    Calls Try.prog 13 #[.slice ao ls.length mc] w (MAns w (merged ls.flatten)) := by
  obtain ⟨m, hmm⟩ : ∃ m, m = ls.length := ⟨_, rfl⟩
  have HM : Hid _ := hmm
  have HL : Hid (∀ X, Below w.heap.size w X → Lists X ao ls) := fun X hX => h.later hX
  have HT : Hid (∀ i, (ls.take i).flatten.length ≤ 10000000000) := fun i => Nat.le_trans (flat_le ls i) hl
  have HE : Hid (folded (ls.take m).flatten = merged ls.flatten) := by rw [hmm, List.take_length]; exact hid_rfl
  rw [← hmm] at hm ⊢
  clear h hmm hl
  go_enter Try.func13, Try.ntmps13
  go_wp2
  go_loopw [3, 10] (fun v vi wr => ∃ i : Nat, vi = .int .i64 i ∧ i ≤ m ∧ Hid (OwnE wr w.heap.size v (folded (ls.take i).flatten)) ∧ Hid (Below w.heap.size w wr)) (fun _ vi _ => m - (intOf vi).toNat)
  case atStart => exact ⟨0, rfl, by omega, OwnE.none _ _, Below.refl _ _⟩
  case round =>
    obtain ⟨i, rfl, him, HO, HB⟩ := hrel
    by_cases hlt : i < m
    · have hlt' : (i : Int) < (m : Int) := by omega
      obtain ⟨gb, goff, p, cc, rfl, hgb, hcell, hpn, hel⟩ := HL.out wr HB.out i (by have := HM.out; omega)
      have hfn := flat_next (ls := ls) (i := i) (by have := HM.out; omega)
      have hsz := HT.out (i + 1)
      rw [hfn] at hsz
      have HFN : Hid _ := hfn
      have HEL : Hid (∀ X, Below wr.heap.size wr X → ElemsAt enShape X p (ls.getD i [])) := fun X hX => hel.later hX
      generalize ls.getD i [] = q at *
      generalize (ls.take i).flatten = acc at *
      obtain ⟨lq, hlq⟩ : ∃ n, n = q.length := ⟨_, rfl⟩
      have HQ : Hid _ := hlq
      have HSZ : Hid (acc.length + q.length ≤ 10000000000) := by rw [List.length_append] at hsz; exact hsz
      have hlq2 : lq ≤ 10000000000 := by have := HSZ.out; omega
      rw [← hlq] at hcell
      have ho0 := HO.out
      rw [show folded acc = folded (acc ++ q.take 0) by rw [List.take_zero, List.append_nil]] at ho0
      have HO0 : Hid _ := ho0
      clear ho0
      have HBX : Hid (∀ X, Below wr.heap.size wr X → Below w.heap.size w X) := fun X hX => HB.out.trans (hX.mono HB.out.size)
      have HWR : Hid (w.heap.size ≤ wr.heap.size) := HB.out.size
      clear hel hpn hlq hfn hsz HO HB
      generalize wr = X0 at *
      go_wp2
      go_loopw [3, 16] (fun v vj wr => ∃ j : Nat, vj = .int .i64 j ∧ j ≤ lq ∧ Hid (OwnE wr w.heap.size v (folded (acc ++ q.take j))) ∧ Hid (Below X0.heap.size X0 wr)) (fun _ vj _ => lq - (intOf vj).toNat)
      case atStart => exact ⟨0, rfl, by omega, HO0, Below.refl _ _⟩
      case round =>
        clear HO0
        obtain ⟨j, rfl, hj, HO, HB⟩ := hrel
        by_cases hjl : j < lq
        · have hjl' : (j : Int) < (lq : Int) := by omega
          have hjq : j < q.length := by have := HQ.out; omega
          obtain ⟨pb, off, rfl, c0, c1, c2, c3⟩ := elem_cells (HEL.out wr HB.out) (k := j) hjq
          have hb1 : Below wr.heap.size wr (wr.alloc (entObj (q.getD j En.zero))) := (Below.refl _ _).alloc (Nat.le_refl _) _
          have hs := HB.out.size
          have hws := HWR.out
          have hml := merged_len (acc ++ q.take j)
          have hin := insert_any _ _ (q.getD j En.zero) w.heap.size _ (HO.out.later hb1) (merged_sorted (acc ++ q.take j)) (by simp; omega) (by
            have := HSZ.out
            rw [List.length_append, List.length_take] at hml
            show (merged (acc ++ q.take j)).length ≤ _
            omega)
          have he : ins (folded (acc ++ q.take j)) (q.getD j En.zero) = folded (acc ++ q.take (j + 1)) := by
            rw [take_next hjq, ← List.append_assoc, folded_snoc]
          rw [he] at hin
          have HIN : Hid _ := hin
          have HB1 : Hid _ := hb1
          unfold entObj env at HIN
          unfold entObj at HB1
          clear hin he hb1 hml hjq HO
          generalize q.getD j En.zero = x at *
          go_wp2_with fail
          refine (show Calls _ _ _ _ _ from HIN.out).mono ?_
          rintro e w5 ⟨v5, rfl, ho5, hb5⟩
          have HO5 : Hid _ := ho5
          have HB5 : Hid (Below X0.heap.size X0 w5) := HB.out.trans ((HB1.out.trans (hb5.mono HB1.out.size)).mono HB.out.size)
          clear ho5 hb5 HIN HB1 c0 c1 c2 c3
          go_wp2
          go_roundw
          case rel => exact ⟨j + 1, by go_num, by omega, HO5, HB5⟩
          case measure => simp [intOf]; omega
        · have hjn : j = lq := by omega
          have hjl' : ¬ (j : Int) < (lq : Int) := by omega
          have ho := HO.out
          rw [hjn, HQ.out, List.take_length, ← HFN.out] at ho
          have HOn : Hid _ := ho
          clear ho
          have HBn : Hid _ := HBX.out wr HB.out
          clear HO HB hjn
          go_wp2
          go_roundw
          case rel => exact ⟨i + 1, by go_num, by omega, HOn, HBn⟩
          case measure => simp [intOf]; omega
    · have hin : i = m := by omega
      subst hin
      have hlt' : ¬ (i : Int) < (i : Int) := by omega
      have ho := HO.out
      rw [HE.out] at ho
      have HOf : Hid _ := ho
      clear ho HO HL hlt
      go_wp2
      go_ret
      exact ⟨_, rfl, HOf.out, HB.out⟩
theorem m1R {X : World} {ao : Option Addr} {c : Nat} {l : List En} (hx : Lies X ao c l) (hl : l.length ≤ 10000000000) :
    Calls Try.prog 13 #[.slice (some ⟨X.heap.size, 0, none⟩) 1 1] (X.alloc (.cells #[.slice ao l.length c] 22)) (MLies X (merged l)) := by
  have h := mergeR_any (some ⟨X.heap.size, 0, Option.none⟩) 1 [l] _ (lists1 X ao c l hx.elems hx.nil) (by simp) (by simpa using hl)
  rw [show [l].flatten = l by simp] at h
  exact h.mono fun e w' h => MLies.of h ((Below.refl _ _).alloc (Nat.le_refl _) _)
theorem m2R {X : World} {ao bo : Option Addr} {c d : Nat} {l k : List En} (hx : Lies X ao c l) (hy : Lies X bo d k) (hl : l.length + k.length ≤ 10000000000) :
    Calls Try.prog 13 #[.slice (some ⟨X.heap.size, 0, none⟩) 2 2] (X.alloc (.cells #[.slice ao l.length c, .slice bo k.length d] 22)) (MLies X (merged (l ++ k))) := by
  have h := mergeR_any (some ⟨X.heap.size, 0, Option.none⟩) 2 [l, k] _ (lists2 X hx.elems hx.nil hy.elems hy.nil) (by simp) (by simpa using hl)
  rw [show [l, k].flatten = l ++ k by simp] at h
  exact h.mono fun e w' h => MLies.of h ((Below.refl _ _).alloc (Nat.le_refl _) _)
end Go.Proofs.Ytdaibmafnamfgaa.Mg
