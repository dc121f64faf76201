/-
  The texts TableMemKit, TableAsMemWalk.
-/
import Derived.Test.YtedjohkdfchocaaQTableCalls
import Derived.Test.YtedjohkdfchocaaQTableKit
import Derived.Test.YtedjohkdfchocaaPart4
import Derived.Test.YtedjohkdfchocaaQTableLives
import Derived.Deep.RegionHeld3

/-
  A table in memory and the table that was built of it, side by side.
-/
namespace Go.Proofs.Ytedjohkdfchocaa.Tb
open Go.RowKit Cm Mm Bk
open Fr (framesB str sealed)
set_option linter.unusedVariables false

theorem sealed_forms (xs : List ByteArray) : (∃ S, sealed xs = .tuple #[.string S, .int .i64 0]) ∨ sealed xs = .tuple #[.string ⟨#[]⟩, .int .i64 2] := by
  unfold sealed
  split
  · exact .inl ⟨_, rfl⟩
  · exact .inr rfl
theorem clean_sound (x : En) : sound (clean x) = true := by
  rw [sound_iff]
  unfold clean
  split
  · intro _; rfl
  · rename_i h
    intro h2
    exact absurd h2 h
theorem sound_add {vs : List En} (h : ∀ e ∈ vs, sound e = true) (x : En) : ∀ e ∈ addOne vs x, sound e = true := by
  intro e he
  unfold addOne at he
  rcases List.mem_append.1 he with he | he
  · exact h e ((List.takeWhile_sublist _).subset he)
  · rcases List.mem_cons.1 he with rfl | he
    · exact clean_sound x
    · exact h e ((List.dropWhile_sublist _).subset (without_sub.subset he))
theorem sound_addAll (xs : List En) : ∀ {vs : List En}, (∀ e ∈ vs, sound e = true) → ∀ e ∈ addAll vs xs, sound e = true := by
  induction xs with
  | nil => intro vs h; exact h
  | cons x xs ih => intro vs h; exact ih (sound_add h x)
theorem right_of {es : List En} (h : ∀ e ∈ es, sound e = true) (hs : Sorted es) : right es = true := by
  unfold right
  rw [Bool.and_eq_true, List.all_eq_true, rises_iff]
  refine ⟨h, fun k hk => ?_⟩
  rw [getD_lt _ _ _ (by omega), getD_lt _ _ _ hk]
  exact (List.pairwise_iff_getElem.1 hs) k (k + 1) (by omega) hk (by omega)
/-- Both have the versions. -/
structure BAt (w : World) (vs : List En) (tb mb : Nat) (X : World) : Prop where
  tab : ∃ v base, TabAt v base tb vs X ∧ base ≤ v.heap.size
  mem : ∃ S, Tab X S mb vs
  bel : Below w.heap.size w X
  len : vs.length ≤ 1048576
section
variable {w X Y : World} {vs : List En} {tb mb : Nat}
theorem BAt.step (h : BAt w vs tb mb X) (hb : Below X.heap.size X Y) : BAt w vs tb mb Y := by
  obtain ⟨v, base, ht, hB⟩ := h.tab
  obtain ⟨S, hm⟩ := h.mem
  exact ⟨⟨v, base, ht.later hB hb, hB⟩, ⟨S, hm.below hb⟩, h.bel.trans (hb.mono h.bel.size), h.len⟩
theorem BAt.sor (h : BAt w vs tb mb X) : Sorted vs := by
  obtain ⟨S, hm⟩ := h.mem
  exact hm.sorted
theorem BAt.ok (h : BAt w vs tb mb X) : AllOk vs := by
  obtain ⟨S, hm⟩ := h.mem
  exact hm.ok
theorem BAt.tLen (h : BAt w vs tb mb X) : Calls Try.prog 12 #[.pointer (some ⟨tb, 0, none⟩)] X fun e w' => e = .returned (.int .i64 (vs.length : Nat)) ∧ w' = X := by
  obtain ⟨v, base, ht, hB⟩ := h.tab
  exact tLen_any tb vs X v base ht
theorem BAt.mLen (h : BAt w vs tb mb X) : Calls Try.prog 13 #[.pointer (some ⟨mb, 0, none⟩)] X fun e w' => e = .returned (.int .i64 (vs.length : Nat)) ∧ w' = X := by
  obtain ⟨S, hm⟩ := h.mem
  exact Mm.len_any mb vs.length X hm.cells.1
theorem BAt.tAll (h : BAt w vs tb mb X) : Calls Try.prog 15 #[.pointer (some ⟨tb, 0, none⟩)] X fun e w' => ∃ a c, e = .returned (.slice a vs.length c) ∧ ElemsAt enShape w' a vs ∧ Below X.heap.size X w' ∧ BAt w vs tb mb w' := by
  obtain ⟨v, base, ht, hB⟩ := h.tab
  refine (tAll_any tb vs X v base ht (by have := h.len; omega)).mono ?_
  rintro e w' ⟨⟨v, rfl, ho⟩, hb⟩
  obtain ⟨a, c, rfl, _, _, _, q⟩ := own_rows (F := enShape) ho
  exact ⟨a, c, rfl, q, hb, h.step hb⟩
theorem BAt.mAll (h : BAt w vs tb mb X) : Calls Try.prog 10 #[.pointer (some ⟨mb, 0, none⟩)] X fun e w' => ∃ a c, e = .returned (.slice a vs.length c) ∧ ElemsAt enShape w' a vs ∧ Below X.heap.size X w' ∧ BAt w vs tb mb w' := by
  obtain ⟨S, hm⟩ := h.mem
  refine (allS X hm (by have := h.len; omega)).mono ?_
  rintro e w' ⟨v, rfl, ho, hb⟩
  obtain ⟨a, c, rfl, _, _, _, q⟩ := own_rows (F := enShape) ho
  exact ⟨a, c, rfl, q, hb, h.step hb⟩
theorem BAt.same (h : BAt w vs tb mb X) {ps : List En} {a b : Option Addr} {c d : Nat} (ha : ElemsAt enShape X a ps) (hb : ElemsAt enShape X b ps) (hl : ps.length ≤ 1048576) : Calls Try.prog 14 #[.slice a ps.length c, .slice b ps.length d] X fun e w' => e = .returned (.bool true) ∧ BAt w vs tb mb w' := by
  refine (same_any a b c d ps X ha hb (by omega)).mono ?_
  rintro e w' ⟨rfl, n, rfl⟩
  exact ⟨rfl, h.step ⟨rfl, rfl, rfl, Nat.le_refl _, fun _ _ => rfl⟩⟩
theorem BAt.tGet (h : BAt w vs tb mb X) (K : ByteArray) (s : Int) : Calls Try.prog 16 #[.pointer (some ⟨tb, 0, none⟩), .string K, .int .i64 s] X fun e w' => e = .returned (foundT (getE vs K s)) ∧ BAt w vs tb mb w' := by
  obtain ⟨v, base, ht, hB⟩ := h.tab
  refine (tGet_any tb vs K s X v base ht h.sor hB (by have := h.len; omega)).mono ?_
  rintro e w' ⟨rfl, hb⟩
  exact ⟨rfl, h.step hb⟩
theorem BAt.mGet (h : BAt w vs tb mb X) (K : ByteArray) (s : Int) : Calls Try.prog 17 #[.pointer (some ⟨mb, 0, none⟩), .string K, .int .i64 s] X fun e w' => e = .returned (foundT (getE vs K s)) ∧ Below X.heap.size X w' ∧ BAt w vs tb mb w' := by
  obtain ⟨S, hm⟩ := h.mem
  refine (getS K s X hm).mono ?_
  rintro e w' ⟨rfl, hb⟩
  exact ⟨rfl, hb, h.step hb⟩
theorem BAt.tFrom (h : BAt w vs tb mb X) (K : ByteArray) : Calls Try.prog 18 #[.pointer (some ⟨tb, 0, none⟩), .string K] X fun e w' => ∃ a c, e = .returned (.slice a (fromE vs K).length c) ∧ ElemsAt enShape w' a (fromE vs K) ∧ Below X.heap.size X w' ∧ BAt w vs tb mb w' := by
  obtain ⟨v, base, ht, hB⟩ := h.tab
  refine (tFrom_any tb vs K X v base ht h.sor h.ok hB (by have := h.len; omega)).mono ?_
  rintro e w' ⟨⟨v, rfl, ho⟩, hb⟩
  obtain ⟨a, c, rfl, _, _, _, q⟩ := own_rows (F := enShape) ho
  exact ⟨a, c, rfl, q, hb, h.step hb⟩
theorem BAt.mFrom (h : BAt w vs tb mb X) (K : ByteArray) : Calls Try.prog 19 #[.pointer (some ⟨mb, 0, none⟩), .string K] X fun e w' => ∃ a c, e = .returned (.slice a (fromE vs K).length c) ∧ ElemsAt enShape w' a (fromE vs K) ∧ Below X.heap.size X w' ∧ BAt w vs tb mb w' := by
  obtain ⟨S, hm⟩ := h.mem
  refine (fromS K X hm (by have := h.len; omega)).mono ?_
  rintro e w' ⟨v, rfl, ho, hb⟩
  obtain ⟨a, c, rfl, _, _, _, q⟩ := own_rows (F := enShape) ho
  exact ⟨a, c, rfl, q, hb, h.step hb⟩
end
theorem from_short (es : List En) (K : ByteArray) : (fromE es K).length ≤ es.length := (List.dropWhile_sublist _).length_le
end Go.Proofs.Ytedjohkdfchocaa.Tb

/-
  The walk of the statement TableAsMem.
-/
namespace Go.Proofs.Ytedjohkdfchocaa.Tb
open Go.RowKit Cm Mm Bk
open Fr (framesB str sealed)
set_option linter.unusedVariables false

theorem came_apart {w : World} {ao : Option Addr} {xs : List En} (h : ElemsAt enShape w ao xs) {B : Nat} (hB : w.heap.size ≤ B) : xs ≠ [] → ∀ ad, ao = some ad → ¬ (B ≤ ad.block) := fun hne ad e => by
  rcases h with h | ⟨b, off, he, hlt, _⟩
  · exact absurd h hne
  · rw [e] at he
    cases he
    show ¬ (B ≤ b)
    omega
set_option maxRecDepth 100000 in
set_option maxHeartbeats 4000000 in
theorem tableAsMem_walk (ah ao ko : Option Addr) (ch ca ck : Nat) (hs : List Int) (xs : List En) (ks : List ByteArray) (w : World) (hh : CellsAt w ah (hs.map (Value.int .i64))) (hok : ∀ h ∈ hs, -9223372036854775808 ≤ h ∧ h ≤ 9223372036854775807)
    (hx : ElemsAt enShape w ao xs) (hxo : AllOk xs) (hkc : CellsAt w ko (strVals ks)) (hhl : hs.length ≤ 10000000) (hkl : ks.length ≤ 10000000) (hb : xs.length + bytesE xs ≤ 1048576) :
    Calls Try.prog 3 #[.slice ah hs.length ch, .slice ao xs.length ca, .slice ko ks.length ck] w fun e w' => e = .returned (.bool true) ∧ Below w.heap.size w w' := by
  have HN : Hid (∀ wr, Below w.heap.size w wr → _) := fun wr hb => newS ah ch hs wr (hh.below hb) hok (by omega)
  have HA : Hid (∀ wr b B S, Below w.heap.size w wr → Tab wr S b [] → (∀ k, wr.heap.size ≤ k → S k) → w.heap.size ≤ B → (∀ k, S k → B ≤ k) → _) := fun wr b B S hb ht hS hB hS2 => addS (S := S) (b := b) ao ca xs wr ht hS (hx.later hb) (fun hne ad e h => came_apart hx hB hne ad e (hS2 _ h)) hxo (by simp; omega) (by simp [bytesE] at *; omega)
  have HK : Hid (∀ X, Below w.heap.size w X → ∀ k, k < ks.length → ∃ b off, ko = some ⟨b, off, none⟩ ∧ X.cell? ⟨b, off + k, none⟩ = some (.string (ks.getD k ByteArray.empty))) := fun X hX k hk => text_cell (hkc.below hX) hk
  have hlen := addAll_len [] xs
  have hvl : (addAll [] xs).length + bytesE (addAll [] xs) ≤ 1048576 := by simp [bytesE] at hlen hb ⊢; omega
  have HR : Hid (right (addAll [] xs) = true) := right_of (sound_addAll xs (by simp)) (Sorted.addAll (by simp [Sorted]) xs)
  have HO : Hid (AllOk (addAll [] xs)) := AllOk.addAll (by intro e he; simp at he) hxo
  generalize addAll [] xs = vs at *
  have HSM : Hid (Small vs) := small_of hvl
  have HI : Hid (∀ T, tableV vs = .tuple #[.string T, .int .i64 0] → IsTable (bs T) vs ∧ T.size ≤ 59000000) := fun T h => built HO.out hvl h
  have hv1 : vs.length ≤ 1048576 := by omega
  clear hh hok hx hxo hkc hhl hb hlen hvl
  go_enter Try.func3, Try.ntmps3
  go_wp2_with fail
  refine (lives_any _).mono ?_
  rintro e w1 ⟨rfl, hb1⟩
  have HB1 : Hid _ := hb1
  have hs1 := hb1.size
  clear hb1
  go_wp2_with fail
  refine (show Calls _ _ _ _ _ from HN.out w1 HB1.out).mono ?_
  rintro e w2 ⟨rfl, T2, hb2⟩
  have hs2 := hb2.size
  have HB2 : Hid (Below w.heap.size w w2) := HB1.out.trans (hb2.mono hs1)
  have HAd : Hid _ := HA.out w2 (w1.heap.size + 1) w1.heap.size _ HB2.out T2 (fun k hk => Nat.le_trans hs2 hk) hs1 (fun k e => e)
  clear hb2 T2 HN HA HB1
  go_wp2_with fail
  refine (show Calls _ _ _ _ _ from HAd.out).mono ?_
  rintro e w3 ⟨rfl, T3, hc3⟩
  have HB3 : Hid (Below w.heap.size w w3) := HB2.out.trans (hc3.below (fun k e => Nat.le_trans hs1 e) (Nat.le_trans hs1 hs2))
  have HT3 : Hid (∃ S, Tab w3 S (w1.heap.size + 1) vs) := ⟨_, T3⟩
  have HAl : Hid _ := allS w3 T3 (by omega)
  generalize w1.heap.size + 1 = mb at *
  clear T3 hc3 HAd HB2
  go_wp2_with fail
  refine (show Calls _ _ _ _ _ from HAl.out).mono ?_
  rintro e w4 ⟨v4, rfl, ho4, hb4⟩
  obtain ⟨a4, c4, rfl, _, _, hc4, he4⟩ := own_rows (F := enShape) ho4
  have HB4 : Hid (Below w.heap.size w w4) := HB3.out.trans (hb4.mono HB3.out.size)
  have HT4 : Hid (∃ S, Tab w4 S mb vs) := by obtain ⟨S, h⟩ := HT3.out; exact ⟨S, h.below hb4⟩
  have HBu : Hid _ := build_any a4 c4 vs w4 he4 HO.out hc4 HSM.out
  clear ho4 hb4 he4 hc4 HAl HT3 HB3
  go_wp2_with fail
  refine (show Calls _ _ _ _ _ from HBu.out).mono ?_
  rintro e w5 ⟨rfl, hb5⟩
  have HB5 : Hid (Below w.heap.size w w5) := HB4.out.trans (hb5.mono HB4.out.size)
  have HT5 : Hid (∃ S, Tab w5 S mb vs) := by obtain ⟨S, h⟩ := HT4.out; exact ⟨S, h.below hb5⟩
  have hV : tableV vs = sealed (tpays vs) := by unfold tableV; rw [HR.out]; rfl
  clear hb5 HBu HT4 HB4
  rcases sealed_forms (tpays vs) with ⟨S, hS⟩ | hS
  · obtain ⟨hit, hSs⟩ := HI.out S (hV.trans hS)
    have HIT : Hid _ := hit
    rw [hV, hS]
    clear hS hV HI hit HR
    go_wp2_with fail
    refine (open_any S _ (by omega)).mono ?_
    intro e w6 hA
    obtain ⟨tb, rfl, hT6, _⟩ := open_built HIT.out hA
    have hF6 : BAt w vs tb mb w6 := by
      obtain ⟨S5, h5⟩ := HT5.out
      exact ⟨⟨w5, w5.heap.size, hT6, Nat.le_refl _⟩, ⟨S5, h5.below hT6.bel⟩, HB5.out.trans (hT6.bel.mono HB5.out.size), hv1⟩
    have HF0 : Hid (BAt w vs tb mb w6.drew) := hF6.step (Below.refl _ _).drew
    clear hF6 hT6 hA HIT HB5 HT5 HSM hSs
    go_wp2_with fail
    go_region_held3 (fun w' => True) (trivial)
      ((first
        | (go_at_call 12; refine (BAt.tLen HF0.out).mono ?_; rintro e z1 ⟨rfl, rfl⟩)
        | (go_at_call 13; refine (BAt.mLen HF0.out).mono ?_; rintro e z2 ⟨rfl, rfl⟩)
        | (go_at_call 15; refine (BAt.tAll HF0.out).mono ?_; rintro e z3 ⟨a3, k3, rfl, he3, hb3, hF3⟩)
        | (go_at_call 10; refine (BAt.mAll hF3).mono ?_; rintro e z4 ⟨a4, k4, rfl, he4, hb4, hF4⟩)
        | (go_at_call 14; refine (BAt.same hF4 (he3.later hb4) he4 hv1).mono ?_; rintro e z5 ⟨rfl, hF5⟩)
        | fail))
    have HF : Hid _ := hF5
    clear he3 hb3 hF3 he4 hb4 hF4 hF5 HF0
    go_wp2
    go_loopw [66] (fun i wr => ∃ k : Nat, i = .int .i64 k ∧ k ≤ ks.length ∧ Hid (BAt w vs tb mb wr)) (fun i _ => ks.length - (intOf i).toNat)
    case atStart => exact ⟨0, rfl, by omega, HF⟩
    case round =>
      clear HF
      obtain ⟨k, rfl, hk, HF⟩ := hrel
      by_cases hlt : k < ks.length
      · obtain ⟨pb, off, rfl, ck0⟩ := HK.out wr HF.out.bel k hlt
        generalize ks.getD k ByteArray.empty = K at *
        have hk0 : (0 : Int) ≤ (k : Int) := by omega
        have hk1 : (k : Int) < (ks.length : Int) := by omega
        have HG1 : Hid _ := BAt.tGet HF.out K k
        clear HF
        go_wp2_with fail
        refine (show Calls _ _ _ _ _ from HG1.out).mono ?_
        rintro e w7 ⟨rfl, hF7⟩
        have HG2 : Hid _ := BAt.mGet (hF7.step ((Below.refl _ _).alloc (Nat.le_refl _) (entObj ((getE vs K k).getD En.zero)))) K k
        unfold foundT env at HG2 ⊢
        generalize (getE vs K k).isSome = fnd at HG2 ⊢
        generalize (getE vs K k).getD En.zero = y at HG2 ⊢
        unfold entObj at HG2
        clear hF7 HG1 ck0
        go_wp2_with fail
        refine (show Calls _ _ _ _ _ from HG2.out).mono ?_
        rintro e w8 ⟨rfl, hb8, hF8⟩
        obtain ⟨X, hX⟩ : ∃ X, X = w8.alloc (entObj y) := ⟨_, rfl⟩
        have hs8 : w7.heap.size < w8.heap.size := by have := hb8.size; simp at this; omega
        have q1 : w8.heap[w7.heap.size]? = some (entObj y) := (hb8.block _ (by simp)).trans (heap_alloc_new _ _)
        have q2 : X.heap[w7.heap.size]? = some (entObj y) := by rw [hX]; exact (Below.heap_alloc _ _ _ hs8).trans q1
        have q3 : X.heap[w8.heap.size]? = some (entObj y) := by rw [hX]; exact heap_alloc_new _ _
        have HF8 : Hid (BAt w vs tb mb X) := by rw [hX]; exact hF8.step ((Below.refl _ _).alloc (Nat.le_refl _) _)
        obtain ⟨m0, m1, m2, m3, _⟩ := ent_cells q2
        obtain ⟨n0, n1, n2, n3, _⟩ := ent_cells q3
        have hns := neq_self
        have hgd := guardEn
        unfold entObj at hX
        rw [hX] at m0 m1 m2 m3 n0 n1 n2 n3
        have HFr : Hid _ := BAt.tFrom HF8.out K
        rw [hX] at HFr
        clear q1 q2 q3 hb8 hF8 HG2 hs8 HF8 hX
        cases fnd
        all_goals
          go_wp2_with fail
          refine (show Calls _ _ _ _ _ from HFr.out).mono ?_
          rintro e w9 ⟨a9, c9, rfl, he9, hb9, hF9⟩
          have HE9 : Hid (∀ Z, Below w9.heap.size w9 Z → ElemsAt enShape Z a9 (fromE vs K)) := fun Z hZ => he9.later hZ
          have HFm : Hid _ := BAt.mFrom hF9 K
          clear he9 hb9 hF9 HFr m0 m1 m2 m3 n0 n1 n2 n3 hns hgd
          go_wp2_with fail
          refine (show Calls _ _ _ _ _ from HFm.out).mono ?_
          rintro e w10 ⟨a10, c10, rfl, he10, hb10, hF10⟩
          have HSa : Hid _ := BAt.same (c := c9) (d := c10) hF10 (HE9.out _ hb10) he10 (by have := from_short vs K; omega)
          clear he10 hb10 hF10 HFm HE9
          go_wp2_with fail
          refine (show Calls _ _ _ _ _ from HSa.out).mono ?_
          rintro e w11 ⟨rfl, hF11⟩
          have HF11 : Hid _ := hF11
          clear hF11 HSa
          go_wp2
          go_roundw
          case rel => exact ⟨k + 1, by go_num, by omega, HF11⟩
          case measure => simp [intOf]; omega
      · go_wp2
        go_ret
        exact ⟨rfl, HF.out.bel⟩
  · rw [hV, hS]
    clear hS hV HI
    go_wp2
    go_ret
    exact ⟨rfl, HB5.out⟩
end Go.Proofs.Ytedjohkdfchocaa.Tb
