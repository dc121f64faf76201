/-
  The walk of the statement VfsPower.
-/
import Derived.Test.YthiagcialidfjaaVfsFated
import Derived.Test.YthiagcialidfjaaVfsKeepsWalk
namespace Go.Proofs.Ythiagcialidfjaa.Vf
open Go.RowKit Cm
set_option linter.unusedVariables false

def XN : ByteArray := ⟨#[120]⟩
theorem rem_nat (x d : Int) (hd : 0 < d) (hd2 : d ≤ 9223372036854775807) : ∃ k : Nat, (k : Int) < d ∧ wrap64 ((IntKind.u64.wrap x).tmod d) = (k : Int) := by
  have h0 : 0 ≤ IntKind.u64.wrap x := by rw [IntKind.wrap_u64]; omega
  have h1 : 0 ≤ (IntKind.u64.wrap x).tmod d := Int.tmod_nonneg _ h0
  have h2 : (IntKind.u64.wrap x).tmod d < d := Int.tmod_lt_of_pos _ hd
  refine ⟨((IntKind.u64.wrap x).tmod d).toNat, by omega, ?_⟩
  rw [IntWalk.wrap64_in _ ⟨by omega, by omega⟩]
  omega
def one (aft : Bool) : Nat := if aft then 1 else 0
def kindOf (aft : Bool) : Int := if aft then 2 else 1
/-- What stands behind k rounds. -/
structure Pow (n : Nat) (aft : Bool) (xs : List ByteArray) (k : Nat) (T : ByteArray) (s : St) : Prop where
  armed : s.armed = 0
  acts : s.acts = min k (n + 1)
  down : s.down = decide (n < k)
  fates : k ≤ n → ∀ j : Int, s.fates j = if j = n then some (kindOf aft) else none
  text : T.data.toList = cat (xs.take (min k (n + one aft)))
  files : s.files = xF (min k (n + one aft)) ⟨T.data.toList, 0⟩
  cnt : s.cnt ≤ k
theorem pow_start (n : Nat) (aft : Bool) (xs : List ByteArray) : Pow n aft xs 0 ⟨#[]⟩ (St.init.arm [((n : Int), kindOf aft)]) := by
  refine ⟨rfl, by simp [St.arm, St.init], by simp [St.arm, St.init], fun _ j => ?_, by simp [cat], ?_, Nat.le_refl _⟩
  · show firstOf _ _ = _
    unfold firstOf
    by_cases e : j = n
    · subst e; rw [if_neg (by omega)]; simp
    · rw [if_neg e]; simp; intro _ e2; exact absurd e2.symm e
  · rw [show min 0 (n + one aft) = 0 by omega, xF_zero]; rfl
section
variable {n : Nat} {aft : Bool} {xs : List ByteArray} {k : Nat} {T : ByteArray} {s : St}
theorem Pow.zero (h : Pow n aft xs k T s) (h0 : min k (n + one aft) = 0) : (⟨T.data.toList, 0⟩ : File) = ⟨[], 0⟩ := by
  rw [h.text, h0]; simp [cat]
theorem Pow.old (h : Pow n aft xs k T s) : s.old [120] = ⟨T.data.toList, 0⟩ := by
  have := xF_old (min k (n + one aft)) ⟨T.data.toList, 0⟩ h.zero
  unfold oldM at this
  unfold St.old
  rw [h.files]; exact this
theorem Pow.fate (h : Pow n aft xs k T s) (hk : k ≤ n) : s.fate = if k = n then kindOf aft else 0 := by
  have e : s.at_ = k := by unfold St.at_; rw [h.acts, h.armed]; omega
  unfold St.fate
  rw [e, h.fates hk]
  by_cases e2 : k = n
  · subst e2; simp
  · rw [if_neg (by omega), if_neg e2]; rfl
theorem Pow.size (h : Pow n aft xs k T s) : T.size ≤ total xs := by
  rw [cat_size xs _ T h.text]; exact total_take _ _
theorem isX : isName XN.data.toList = true := by decide
/-- A round ahead of the fate. -/
theorem Pow.ahead (h : Pow n aft xs k T s) (hlt : k < xs.length) (hk : k < n) : s.appendE [120] = 0 ∧ Pow n aft xs (k + 1) (T ++ xs.getD k ByteArray.empty) (s.append [120] (xs.getD k ByteArray.empty).data.toList) := by
  have hf : s.fate = 0 := by rw [h.fate (by omega), if_neg (by omega)]
  have hd : s.down = false := by rw [h.down]; simp; omega
  have m1 : min k (n + one aft) = k := by omega
  have m2 : min (k + 1) (n + one aft) = k + 1 := by omega
  have hT := h.text
  rw [m1] at hT
  have e2 : s.append [120] (xs.getD k ByteArray.empty).data.toList = { s.tick.addTo [120] (xs.getD k ByteArray.empty).data.toList with down := false } := by
    unfold St.append; rw [hd, show isName [120] = true from isX, hf]; simp; unfold St.act; rw [hf]; rfl
  refine ⟨by unfold St.appendE; rw [hd, show isName [120] = true from isX, hf]; rfl, ?_⟩
  rw [e2]
  have ho : s.tick.old [120] = ⟨T.data.toList, 0⟩ := h.old
  refine ⟨h.armed, ?_, by simp; omega, fun hk2 j => ?_, by rw [m2]; exact cat_step xs k hlt T hT, ?_, ?_⟩
  · show s.acts + 1 = _; rw [h.acts]; omega
  · show (if j = s.at_ then none else s.fates j) = _
    have e : s.at_ = k := by unfold St.at_; rw [h.acts, h.armed]; omega
    rw [e, h.fates (by omega)]
    by_cases e3 : j = k
    · rw [if_pos e3, if_neg (by omega)]
    · rw [if_neg e3]
  · show setF s.files [120] (some ⟨(s.tick.old [120]).bytes ++ _, (s.tick.old [120]).synced⟩) = _
    rw [ho, h.files, m1, m2, xF_set k (k + 1) _ _ (by omega), ByteArray.data_append, Array.toList_append]
  · have := h.cnt
    show (if _ then _ else _) ≤ _
    split
    · show s.cnt ≤ _; omega
    · show s.cnt + 1 ≤ _; omega
/-- The round of the fate. -/
theorem Pow.struck (h : Pow n aft xs k T s) (hlt : k < xs.length) (hk : k = n) : s.appendE [120] = 7 ∧ Pow n aft xs (k + 1) (if aft then T ++ xs.getD k ByteArray.empty else T) (s.append [120] (xs.getD k ByteArray.empty).data.toList) := by
  subst hk
  have hf : s.fate = kindOf aft := by rw [h.fate (by omega), if_pos rfl]
  have hd : s.down = false := by rw [h.down]; simp
  have m1 : min k (k + one aft) = k := by omega
  have hT := h.text
  rw [m1] at hT
  have ho : s.tick.old [120] = ⟨T.data.toList, 0⟩ := h.old
  cases aft with
  | false =>
    have hf : s.fate = 1 := hf
    have e2 : s.append [120] (xs.getD k ByteArray.empty).data.toList = { s.tick with down := true } := by
      unfold St.append; rw [hd, show isName [120] = true from isX, hf]; simp; unfold St.act; rw [hf]; rfl
    refine ⟨by unfold St.appendE; rw [hd, show isName [120] = true from isX, hf]; rfl, ?_⟩
    rw [e2]
    have m2 : min (k + 1) (k + one false) = k := by unfold one; simp
    refine ⟨h.armed, ?_, by simp, fun hk2 => by omega, by rw [m2]; exact hT, ?_, ?_⟩
    · show s.acts + 1 = _; rw [h.acts]; omega
    · show s.files = _; rw [m2, h.files, m1]; rfl
    · have := h.cnt; show s.cnt ≤ _; omega
  | true =>
    have hf : s.fate = 2 := hf
    have e2 : s.append [120] (xs.getD k ByteArray.empty).data.toList = { s.tick.addTo [120] (xs.getD k ByteArray.empty).data.toList with down := true } := by
      unfold St.append; rw [hd, show isName [120] = true from isX, hf]; simp; unfold St.act; rw [hf]; rfl
    refine ⟨by unfold St.appendE; rw [hd, show isName [120] = true from isX, hf]; rfl, ?_⟩
    rw [e2]
    have m2 : min (k + 1) (k + one true) = k + 1 := by unfold one; simp
    refine ⟨h.armed, ?_, by simp, fun hk2 => by omega, by rw [m2]; exact cat_step xs k hlt T hT, ?_, ?_⟩
    · show s.acts + 1 = _; rw [h.acts]; omega
    · show setF s.files [120] (some ⟨(s.tick.old [120]).bytes ++ _, (s.tick.old [120]).synced⟩) = _
      rw [ho, h.files, m1, m2, xF_set k (k + 1) _ _ (by omega)]
      simp only [if_true]
      rw [ByteArray.data_append, Array.toList_append]
    · have := h.cnt
      show (if _ then _ else _) ≤ _
      split
      · show s.cnt ≤ _; omega
      · show s.cnt + 1 ≤ _; omega
/-- A round behind it. -/
theorem Pow.behind (h : Pow n aft xs k T s) (hk : n < k) (t : List UInt8) : s.appendE [120] = 7 ∧ Pow n aft xs (k + 1) T (s.append [120] t) := by
  have hd : s.down = true := by rw [h.down]; simp; omega
  have e2 : s.append [120] t = s := by unfold St.append; rw [hd]; rfl
  have m1 : min (k + 1) (n + one aft) = min k (n + one aft) := by unfold one; split <;> omega
  refine ⟨by unfold St.appendE; rw [hd]; rfl, ?_⟩
  rw [e2]
  exact ⟨h.armed, by rw [h.acts]; omega, by rw [hd]; simp; omega, fun hk2 => by omega, by rw [m1]; exact h.text, by rw [m1]; exact h.files, by have := h.cnt; omega⟩
end

set_option maxRecDepth 100000 in
set_option maxHeartbeats 2000000 in
theorem power_walk_false (ax : Option Addr) (cx : Nat) (xs : List ByteArray) (x : Int) (w : World) (hx : CellsAt w ax (strVals xs)) (hb : xs.length + total xs ≤ 2199023255552) :
    Calls Try.prog 4 #[.slice ax xs.length cx, .int .i64 x, .bool false] w fun e w' => e = .returned (.bool true) ∧ Below w.heap.size w w' := by
  have hlen : xs.length ≤ 2199023255552 := by omega
  have HBd : Hid (xs.length + total xs ≤ 2199023255552) := hb
  have HX : Hid (∀ wr, Below w.heap.size w wr → CellsAt wr ax (strVals xs)) := fun wr h => hx.below h
  obtain ⟨n, hn12, hn⟩ := rem_nat x 12 (by decide) (by decide)
  clear hb hx
  go_enter Try.func4, Try.ntmps4
  go_wp2_with fail
  refine (lives_any w).mono ?_
  rintro e w0 ⟨rfl, hb0⟩
  have hs0 := hb0.size
  go_wp2_with fail
  refine (newFSB w0).mono ?_
  rintro e w1 ⟨rfl, HC, hb1⟩
  have HB1 : Hid (Below w.heap.size w w1) := hb0.trans (hb1.mono hs0)
  have HC1 : Hid _ := HC
  have hs1 := hb1.size
  clear hb0 hb1 HC
  go_wp2_with fail
  refine (FSB.arm1 HC1.out hs1 n 1 ⟨by omega, by omega⟩).mono ?_
  rintro e w2 ⟨rfl, HC, hb2⟩
  have HC2 : Hid _ := HC
  have HB2 : Hid (Below w.heap.size w w2) := HB1.out.trans (hb2.mono hs0)
  have hs2 := Nat.le_trans hs1 hb2.size
  clear hb2 HC HC1 HB1
  rw [hn]
  clear hn
  go_wp2
  go_loopw [36, 10] (fun i t wr => ∃ (k : Nat) (T : ByteArray) (s : St), k ≤ xs.length ∧ i = .int .i64 k ∧ t = .string T ∧ Hid (Pow n false xs k T s) ∧ Hid (FSB wr w0.heap.size (w0.heap.size + 1) s) ∧ w0.heap.size ≤ wr.heap.size ∧ Hid (Below w.heap.size w wr)) (fun i _ _ => xs.length - (intOf i).toNat)
  case atStart => exact ⟨0, _, _, by omega, rfl, rfl, pow_start n false xs, HC2.out, hs2, HB2.out⟩
  case round =>
    obtain ⟨k, T, s, hk, rfl, rfl, HP, HC, hsr, HB⟩ := hrel
    have hTs : T.size ≤ 2199023255552 := by have h1 := HBd.out; have h2 := HP.out.size; omega
    by_cases hlt : k < xs.length
    · rcases HX.out wr HB.out with h0 | ⟨pb, off, rfl, hbl, hcells⟩
      · have : xs.length = 0 := by have := congrArg List.length h0; simpa [strVals] using this
        omega
      have hck := hcells k (by simpa [strVals] using hlt)
      have hxk : (strVals xs)[k]? = some (.string (xs.getD k ByteArray.empty)) := by simp [strVals, hlt]
      rw [hxk] at hck
      have hps : (xs.getD k ByteArray.empty).size ≤ 2199023255552 := by
        have h1 := HBd.out; have h2 := total_at xs k hlt; omega
      have HA := fun h => HP.out.ahead hlt h
      have HS := fun h => HP.out.struck hlt h
      have HD := fun h => HP.out.behind h (xs.getD k ByteArray.empty).data.toList
      have HA : Hid _ := HA
      have HS : Hid _ := HS
      have HD : Hid _ := HD
      generalize xs.getD k ByteArray.empty = p at *
      have HAp : Hid _ := append1 w0.heap.size (w0.heap.size + 1) s XN p wr HC.out hsr (by decide) (by have := HP.out.cnt; omega) (by rw [show XN.data.toList = [120] from rfl, HP.out.old]; show T.data.toList.length + _ ≤ _; rw [← Lib.size_eq]; omega) (by rw [HP.out.armed]; omega) (by rw [HP.out.acts]; omega)
      have hadd := fun w : World => run_string_add_sum (P := Try.prog) w T p (by omega)
      clear hcells hxk hbl HC
      rcases Nat.lt_trichotomy k n with hkn | hkn | hkn
      · go_wp2_with fail
        refine (show Calls _ _ _ _ _ from HAp.out).mono ?_
        rintro e w3 ⟨rfl, HC3, hb3⟩
        obtain ⟨hE, HP3⟩ := HA.out hkn
        rw [show XN.data.toList = [120] from rfl] at HC3 ⊢
        rw [hE]
        have HC3 : Hid _ := HC3
        have HP3 : Hid _ := HP3
        have HB3 : Hid (Below w.heap.size w w3) := HB.out.trans (hb3.mono hs0)
        have hs3 := Nat.le_trans hsr hb3.size
        have HDn : Hid (Calls Try.prog 13 #[.pointer (some ⟨w0.heap.size + 1, 0, none⟩)] w3 fun e w' => e = .returned (.bool false) ∧ w' = w3) := by
          have := FSB.down HC3.out
          rw [HP3.out.down, decide_eq_false (by omega)] at this
          exact this
        clear hE hb3 HAp HA HS HD
        go_wp2_with fail
        refine (show Calls _ _ _ _ _ from HDn.out).mono ?_
        rintro e w4 ⟨rfl, rfl⟩
        go_wp2
        go_roundw
        case rel => exact ⟨k + 1, T ++ p, _, by omega, by go_num, rfl, HP3.out, HC3.out, hs3, HB3.out⟩
        case measure => simp [intOf]; omega
      · subst hkn
        go_wp2_with fail
        refine (show Calls _ _ _ _ _ from HAp.out).mono ?_
        rintro e w3 ⟨rfl, HC3, hb3⟩
        obtain ⟨hE, HP3⟩ := HS.out (by trivial)
        rw [show XN.data.toList = [120] from rfl] at HC3 ⊢
        rw [hE]
        have HC3 : Hid _ := HC3
        have HP3 : Hid (Pow k false xs (k + 1) T (s.append [120] p.data.toList)) := HP3
        have HB3 : Hid (Below w.heap.size w w3) := HB.out.trans (hb3.mono hs0)
        have hs3 := Nat.le_trans hsr hb3.size
        have HDn : Hid (Calls Try.prog 13 #[.pointer (some ⟨w0.heap.size + 1, 0, none⟩)] w3 fun e w' => e = .returned (.bool true) ∧ w' = w3) := by
          have := FSB.down HC3.out
          rw [HP3.out.down, decide_eq_true (by omega)] at this
          exact this
        clear hE hb3 HAp HA HS HD
        go_wp2_with fail
        refine (show Calls _ _ _ _ _ from HDn.out).mono ?_
        rintro e w4 ⟨rfl, rfl⟩
        go_wp2
        go_roundw
        case rel => exact ⟨k + 1, T, _, by omega, by go_num, rfl, HP3.out, HC3.out, hs3, HB3.out⟩
        case measure => simp [intOf]; omega
      · go_wp2_with fail
        refine (show Calls _ _ _ _ _ from HAp.out).mono ?_
        rintro e w3 ⟨rfl, HC3, hb3⟩
        obtain ⟨hE, HP3⟩ := HD.out hkn
        rw [show XN.data.toList = [120] from rfl] at HC3 ⊢
        rw [hE]
        have HC3 : Hid _ := HC3
        have HP3 : Hid _ := HP3
        have HB3 : Hid (Below w.heap.size w w3) := HB.out.trans (hb3.mono hs0)
        have hs3 := Nat.le_trans hsr hb3.size
        have HDn : Hid (Calls Try.prog 13 #[.pointer (some ⟨w0.heap.size + 1, 0, none⟩)] w3 fun e w' => e = .returned (.bool true) ∧ w' = w3) := by
          have := FSB.down HC3.out
          rw [HP3.out.down, decide_eq_true (by omega)] at this
          exact this
        clear hE hb3 HAp HA HS HD
        go_wp2_with fail
        refine (show Calls _ _ _ _ _ from HDn.out).mono ?_
        rintro e w4 ⟨rfl, rfl⟩
        go_wp2
        go_roundw
        case rel => exact ⟨k + 1, T, _, by omega, by go_num, rfl, HP3.out, HC3.out, hs3, HB3.out⟩
        case measure => simp [intOf]; omega
    · obtain rfl : k = xs.length := by omega
      obtain ⟨E, hE, hE7⟩ : ∃ E : Int, s.findE [120] = E ∧ (E == 7) = s.down := by
        refine ⟨_, rfl, ?_⟩
        unfold St.findE
        cases s.down
        · simp only [Bool.false_eq_true, if_false]; split <;> rfl
        · rfl
      have hdn := HP.out.down
      have HRd : Hid _ := FSB.read HC.out XN (by decide)
      go_wp2_with fail
      refine (show Calls _ _ _ _ _ from HRd.out).mono ?_
      rintro e w3 ⟨rfl, hb3⟩
      rw [show XN.data.toList = [120] from rfl, hE]
      have HC3 : Hid _ := FSB.below HC.out hb3
      have HB3 : Hid (Below w.heap.size w w3) := HB.out.trans (hb3.mono HB.out.size)
      have HDn : Hid _ := FSB.down HC3.out
      generalize (St.found s [120]).bytes.toArray = FB at *
      clear hE hb3 HRd HC
      generalize s.down = dn at *
      have HCr : Hid _ := FSB.crash (w := w3.alloc (.cells #[.int .i64 1152921504606846976] 3)) (FSB.below HC3.out ((Below.refl _ _).alloc (Nat.le_refl _) _)) (some ⟨w3.heap.size, 0, none⟩) 1 [1152921504606846976] (cellsI1 _) (by have := HP.out.cnt; omega) (by decide) (by rw [HP.out.files]; exact xF_short _ T _ (by omega))
      have HDd : Hid (dn = decide (n < xs.length)) := hdn
      clear hdn
      cases dn
      all_goals
        go_wp2_with fail
        refine (show Calls _ _ _ _ _ from HDn.out).mono ?_
        rintro e w4 ⟨rfl, rfl⟩
        go_wp2_with fail
        refine (show Calls _ _ _ _ _ from HCr.out).mono ?_
        rintro e w5 ⟨b', ks, rfl, hN, HG, hb5⟩
        have HB5 : Hid (Below w.heap.size w w5) := HB3.out.trans (((Below.refl _ _).alloc (Nat.le_refl _) _).trans (hb5.mono (by simp)) |>.mono HB3.out.size)
        by_cases h0 : min xs.length (n + one false) = 0
        · have hks : ks = [] := hN.unique (by rw [HP.out.files, h0, xF_zero]; exact names_none)
          subst hks
          have HG : Hid _ := HG
          clear hN hb5 HCr HDn HC3
          have H0 : Hid _ := h0
          clear h0
          go_wp2_with fail
          refine (Calm.read_none HG.out XN (by unfold crashed; simp) (by decide)).mono ?_
          rintro e w6 ⟨rfl, hb6⟩
          have HB6 : Hid (Below w.heap.size w w6) := HB5.out.trans (hb6.mono HB5.out.size)
          clear hb6
          by_cases hx0 : xs.length = 0
          · go_wp2
            go_ret
            exact ⟨rfl, HB6.out⟩
          · have hn0 : n = 0 := by have h0 : min xs.length (n + 0) = 0 := H0.out; omega
            subst hn0
            go_wp2
            go_ret
            exact ⟨rfl, HB6.out⟩
        · have hks : ks = [[120]] := hN.unique (by rw [HP.out.files]; exact xF_names _ _ h0)
          subst hks
          have HG : ∃ bb, Calm w5 bb b' (xF 1 ⟨T.data.toList, T.data.toList.length⟩) 0 1 := by
            rw [HP.out.files, xF_crash _ _ h0] at HG
            rw [← left_all T 0 (by omega) (by omega)]
            exact ⟨_, HG⟩
          obtain ⟨bb, HG⟩ := HG
          have HG : Hid _ := HG
          clear hN hb5 HCr HDn HC3
          have H0 : Hid _ := h0
          clear h0
          go_wp2_with fail
          refine (Calm.read_some HG.out XN T _ (xF_x 1 _ (by decide)) rfl (by decide)).mono ?_
          rintro e w6 ⟨rfl, hb6⟩
          have HB6 : Hid (Below w.heap.size w w6) := HB5.out.trans (hb6.mono HB5.out.size)
          clear hb6
          have hx0 : ¬ xs.length = 0 := by have h0 : ¬ min xs.length (n + 0) = 0 := H0.out; omega
          by_cases hn0 : n = 0
          · have h0 : ¬ min xs.length (n + 0) = 0 := H0.out
            omega
          · go_wp2
            go_ret
            exact ⟨rfl, HB6.out⟩

set_option maxRecDepth 100000 in
set_option maxHeartbeats 2000000 in
theorem power_walk_true (ax : Option Addr) (cx : Nat) (xs : List ByteArray) (x : Int) (w : World) (hx : CellsAt w ax (strVals xs)) (hb : xs.length + total xs ≤ 2199023255552) :
    Calls Try.prog 4 #[.slice ax xs.length cx, .int .i64 x, .bool true] w fun e w' => e = .returned (.bool true) ∧ Below w.heap.size w w' := by
  have hlen : xs.length ≤ 2199023255552 := by omega
  have HBd : Hid (xs.length + total xs ≤ 2199023255552) := hb
  have HX : Hid (∀ wr, Below w.heap.size w wr → CellsAt wr ax (strVals xs)) := fun wr h => hx.below h
  obtain ⟨n, hn12, hn⟩ := rem_nat x 12 (by decide) (by decide)
  clear hb hx
  go_enter Try.func4, Try.ntmps4
  go_wp2_with fail
  refine (lives_any w).mono ?_
  rintro e w0 ⟨rfl, hb0⟩
  have hs0 := hb0.size
  go_wp2_with fail
  refine (newFSB w0).mono ?_
  rintro e w1 ⟨rfl, HC, hb1⟩
  have HB1 : Hid (Below w.heap.size w w1) := hb0.trans (hb1.mono hs0)
  have HC1 : Hid _ := HC
  have hs1 := hb1.size
  clear hb0 hb1 HC
  go_wp2_with fail
  refine (FSB.arm1 HC1.out hs1 n 2 ⟨by omega, by omega⟩).mono ?_
  rintro e w2 ⟨rfl, HC, hb2⟩
  have HC2 : Hid _ := HC
  have HB2 : Hid (Below w.heap.size w w2) := HB1.out.trans (hb2.mono hs0)
  have hs2 := Nat.le_trans hs1 hb2.size
  clear hb2 HC HC1 HB1
  rw [hn]
  clear hn
  go_wp2
  go_loopw [36, 10] (fun i t wr => ∃ (k : Nat) (T : ByteArray) (s : St), k ≤ xs.length ∧ i = .int .i64 k ∧ t = .string T ∧ Hid (Pow n true xs k T s) ∧ Hid (FSB wr w0.heap.size (w0.heap.size + 1) s) ∧ w0.heap.size ≤ wr.heap.size ∧ Hid (Below w.heap.size w wr)) (fun i _ _ => xs.length - (intOf i).toNat)
  case atStart => exact ⟨0, _, _, by omega, rfl, rfl, pow_start n true xs, HC2.out, hs2, HB2.out⟩
  case round =>
    obtain ⟨k, T, s, hk, rfl, rfl, HP, HC, hsr, HB⟩ := hrel
    have hTs : T.size ≤ 2199023255552 := by have h1 := HBd.out; have h2 := HP.out.size; omega
    by_cases hlt : k < xs.length
    · rcases HX.out wr HB.out with h0 | ⟨pb, off, rfl, hbl, hcells⟩
      · have : xs.length = 0 := by have := congrArg List.length h0; simpa [strVals] using this
        omega
      have hck := hcells k (by simpa [strVals] using hlt)
      have hxk : (strVals xs)[k]? = some (.string (xs.getD k ByteArray.empty)) := by simp [strVals, hlt]
      rw [hxk] at hck
      have hps : (xs.getD k ByteArray.empty).size ≤ 2199023255552 := by
        have h1 := HBd.out; have h2 := total_at xs k hlt; omega
      have HA := fun h => HP.out.ahead hlt h
      have HS := fun h => HP.out.struck hlt h
      have HD := fun h => HP.out.behind h (xs.getD k ByteArray.empty).data.toList
      have HA : Hid _ := HA
      have HS : Hid _ := HS
      have HD : Hid _ := HD
      generalize xs.getD k ByteArray.empty = p at *
      have HAp : Hid _ := append1 w0.heap.size (w0.heap.size + 1) s XN p wr HC.out hsr (by decide) (by have := HP.out.cnt; omega) (by rw [show XN.data.toList = [120] from rfl, HP.out.old]; show T.data.toList.length + _ ≤ _; rw [← Lib.size_eq]; omega) (by rw [HP.out.armed]; omega) (by rw [HP.out.acts]; omega)
      have hadd := fun w : World => run_string_add_sum (P := Try.prog) w T p (by omega)
      clear hcells hxk hbl HC
      rcases Nat.lt_trichotomy k n with hkn | hkn | hkn
      · go_wp2_with fail
        refine (show Calls _ _ _ _ _ from HAp.out).mono ?_
        rintro e w3 ⟨rfl, HC3, hb3⟩
        obtain ⟨hE, HP3⟩ := HA.out hkn
        rw [show XN.data.toList = [120] from rfl] at HC3 ⊢
        rw [hE]
        have HC3 : Hid _ := HC3
        have HP3 : Hid _ := HP3
        have HB3 : Hid (Below w.heap.size w w3) := HB.out.trans (hb3.mono hs0)
        have hs3 := Nat.le_trans hsr hb3.size
        have HDn : Hid (Calls Try.prog 13 #[.pointer (some ⟨w0.heap.size + 1, 0, none⟩)] w3 fun e w' => e = .returned (.bool false) ∧ w' = w3) := by
          have := FSB.down HC3.out
          rw [HP3.out.down, decide_eq_false (by omega)] at this
          exact this
        clear hE hb3 HAp HA HS HD
        go_wp2_with fail
        refine (show Calls _ _ _ _ _ from HDn.out).mono ?_
        rintro e w4 ⟨rfl, rfl⟩
        go_wp2
        go_roundw
        case rel => exact ⟨k + 1, T ++ p, _, by omega, by go_num, rfl, HP3.out, HC3.out, hs3, HB3.out⟩
        case measure => simp [intOf]; omega
      · subst hkn
        go_wp2_with fail
        refine (show Calls _ _ _ _ _ from HAp.out).mono ?_
        rintro e w3 ⟨rfl, HC3, hb3⟩
        obtain ⟨hE, HP3⟩ := HS.out (by trivial)
        rw [show XN.data.toList = [120] from rfl] at HC3 ⊢
        rw [hE]
        have HC3 : Hid _ := HC3
        have HP3 : Hid (Pow k true xs (k + 1) (T ++ p) (s.append [120] p.data.toList)) := HP3
        have HB3 : Hid (Below w.heap.size w w3) := HB.out.trans (hb3.mono hs0)
        have hs3 := Nat.le_trans hsr hb3.size
        have HDn : Hid (Calls Try.prog 13 #[.pointer (some ⟨w0.heap.size + 1, 0, none⟩)] w3 fun e w' => e = .returned (.bool true) ∧ w' = w3) := by
          have := FSB.down HC3.out
          rw [HP3.out.down, decide_eq_true (by omega)] at this
          exact this
        clear hE hb3 HAp HA HS HD
        go_wp2_with fail
        refine (show Calls _ _ _ _ _ from HDn.out).mono ?_
        rintro e w4 ⟨rfl, rfl⟩
        go_wp2
        go_roundw
        case rel => exact ⟨k + 1, (T ++ p), _, by omega, by go_num, rfl, HP3.out, HC3.out, hs3, HB3.out⟩
        case measure => simp [intOf]; omega
      · go_wp2_with fail
        refine (show Calls _ _ _ _ _ from HAp.out).mono ?_
        rintro e w3 ⟨rfl, HC3, hb3⟩
        obtain ⟨hE, HP3⟩ := HD.out hkn
        rw [show XN.data.toList = [120] from rfl] at HC3 ⊢
        rw [hE]
        have HC3 : Hid _ := HC3
        have HP3 : Hid _ := HP3
        have HB3 : Hid (Below w.heap.size w w3) := HB.out.trans (hb3.mono hs0)
        have hs3 := Nat.le_trans hsr hb3.size
        have HDn : Hid (Calls Try.prog 13 #[.pointer (some ⟨w0.heap.size + 1, 0, none⟩)] w3 fun e w' => e = .returned (.bool true) ∧ w' = w3) := by
          have := FSB.down HC3.out
          rw [HP3.out.down, decide_eq_true (by omega)] at this
          exact this
        clear hE hb3 HAp HA HS HD
        go_wp2_with fail
        refine (show Calls _ _ _ _ _ from HDn.out).mono ?_
        rintro e w4 ⟨rfl, rfl⟩
        go_wp2
        go_roundw
        case rel => exact ⟨k + 1, T, _, by omega, by go_num, rfl, HP3.out, HC3.out, hs3, HB3.out⟩
        case measure => simp [intOf]; omega
    · obtain rfl : k = xs.length := by omega
      obtain ⟨E, hE, hE7⟩ : ∃ E : Int, s.findE [120] = E ∧ (E == 7) = s.down := by
        refine ⟨_, rfl, ?_⟩
        unfold St.findE
        cases s.down
        · simp only [Bool.false_eq_true, if_false]; split <;> rfl
        · rfl
      have hdn := HP.out.down
      have HRd : Hid _ := FSB.read HC.out XN (by decide)
      go_wp2_with fail
      refine (show Calls _ _ _ _ _ from HRd.out).mono ?_
      rintro e w3 ⟨rfl, hb3⟩
      rw [show XN.data.toList = [120] from rfl, hE]
      have HC3 : Hid _ := FSB.below HC.out hb3
      have HB3 : Hid (Below w.heap.size w w3) := HB.out.trans (hb3.mono HB.out.size)
      have HDn : Hid _ := FSB.down HC3.out
      generalize (St.found s [120]).bytes.toArray = FB at *
      clear hE hb3 HRd HC
      generalize s.down = dn at *
      have HCr : Hid _ := FSB.crash (w := w3.alloc (.cells #[.int .i64 1152921504606846976] 3)) (FSB.below HC3.out ((Below.refl _ _).alloc (Nat.le_refl _) _)) (some ⟨w3.heap.size, 0, none⟩) 1 [1152921504606846976] (cellsI1 _) (by have := HP.out.cnt; omega) (by decide) (by rw [HP.out.files]; exact xF_short _ T _ (by omega))
      have HDd : Hid (dn = decide (n < xs.length)) := hdn
      clear hdn
      cases dn
      all_goals
        go_wp2_with fail
        refine (show Calls _ _ _ _ _ from HDn.out).mono ?_
        rintro e w4 ⟨rfl, rfl⟩
        go_wp2_with fail
        refine (show Calls _ _ _ _ _ from HCr.out).mono ?_
        rintro e w5 ⟨b', ks, rfl, hN, HG, hb5⟩
        have HB5 : Hid (Below w.heap.size w w5) := HB3.out.trans (((Below.refl _ _).alloc (Nat.le_refl _) _).trans (hb5.mono (by simp)) |>.mono HB3.out.size)
        by_cases h0 : min xs.length (n + one true) = 0
        · have hks : ks = [] := hN.unique (by rw [HP.out.files, h0, xF_zero]; exact names_none)
          subst hks
          have HG : Hid _ := HG
          clear hN hb5 HCr HDn HC3
          have H0 : Hid _ := h0
          clear h0
          go_wp2_with fail
          refine (Calm.read_none HG.out XN (by unfold crashed; simp) (by decide)).mono ?_
          rintro e w6 ⟨rfl, hb6⟩
          have HB6 : Hid (Below w.heap.size w w6) := HB5.out.trans (hb6.mono HB5.out.size)
          clear hb6
          by_cases hx0 : xs.length = 0
          · go_wp2
            go_ret
            exact ⟨rfl, HB6.out⟩
          · have h0 : min xs.length (n + 1) = 0 := H0.out
            omega
        · have hks : ks = [[120]] := hN.unique (by rw [HP.out.files]; exact xF_names _ _ h0)
          subst hks
          have HG : ∃ bb, Calm w5 bb b' (xF 1 ⟨T.data.toList, T.data.toList.length⟩) 0 1 := by
            rw [HP.out.files, xF_crash _ _ h0] at HG
            rw [← left_all T 0 (by omega) (by omega)]
            exact ⟨_, HG⟩
          obtain ⟨bb, HG⟩ := HG
          have HG : Hid _ := HG
          clear hN hb5 HCr HDn HC3
          have H0 : Hid _ := h0
          clear h0
          go_wp2_with fail
          refine (Calm.read_some HG.out XN T _ (xF_x 1 _ (by decide)) rfl (by decide)).mono ?_
          rintro e w6 ⟨rfl, hb6⟩
          have HB6 : Hid (Below w.heap.size w w6) := HB5.out.trans (hb6.mono HB5.out.size)
          clear hb6
          have hx0 : ¬ xs.length = 0 := by have h0 : ¬ min xs.length (n + 1) = 0 := H0.out; omega
          by_cases hn0 : n = 0
          · have h0 : ¬ min xs.length (n + 1) = 0 := H0.out
            clear h0
            subst hn0
            go_wp2
            go_ret
            exact ⟨rfl, HB6.out⟩
          · go_wp2
            go_ret
            exact ⟨rfl, HB6.out⟩
end Go.Proofs.Ythiagcialidfjaa.Vf
