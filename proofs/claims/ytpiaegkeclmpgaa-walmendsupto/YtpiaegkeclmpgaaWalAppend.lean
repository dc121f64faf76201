/-
  Package wal: Append of payloads that are frames, one act each; Rewrite.
-/
import Derived.Test.YtpiaegkeclmpgaaWalActs
namespace Go.Proofs.Ytpiaegkeclmpgaa.Wl
open Go.RowKit Cm Vf
attribute [local go_sem ↓] Go.wp_at_zero Go.wp_at_succ
set_option linter.unusedVariables false

def fr (xs : List ByteArray) : List UInt8 := Fr.framesB xs
theorem fr_size (xs : List ByteArray) : (Fr.str (Fr.framesB xs)).size = 8 * xs.length + total xs := by rw [Fr.str_size, Fr.framesB_len]

set_option maxRecDepth 100000 in
set_option maxHeartbeats 1000000 in
theorem append_log (S : Nat → Prop) (lb n b : Nat) (s : St) (x : ByteArray) (ao : Option Addr) (cap : Nat) (xs : List ByteArray) (w : World)
    (h : FSAt w S b s) (hS : ∀ k, w.heap.size ≤ k → S k) (hL : LogAt w lb n b x false) (hlb : ¬ S lb) (hd : s.down = false) (hc : CellsAt w ao (strVals xs)) (hb : 8 * xs.length + total xs ≤ 70368744177600)
    (hxs : ∀ y ∈ xs, y.size ≤ 65536) (hne : 0 < xs.length) (hx : x.size ≤ 281474976710656) (hn : s.cnt < 9223372036854775000) (hsz : (s.old x.data.toList).bytes.length ≤ 70368744177600) (ha : s.armed ≤ s.acts) (hac : s.acts ≤ 9223372036854774000) (hm : n + xs.length ≤ 9223372036854775807) :
    Calls Try.prog 10 #[.pointer (some ⟨lb, 0, none⟩), .slice ao xs.length cap] w fun e w' => e = .returned (.int .i64 (s.logE x.data.toList (fr xs))) ∧ FSAt w' S b (s.log x.data.toList (fr xs)) ∧
      LogAt w' lb (if s.logE x.data.toList (fr xs) = 0 then n + xs.length else n) b x false ∧ Chg (fun k => S k ∨ k = lb) w w' := by
  obtain ⟨c0, c1, c2, c3, fz⟩ := hL.cells
  have HD : Hid _ := down_any S b s w h
  obtain ⟨_, _, g0, g1, g2, g3, g4, _⟩ := h.cells
  have HSe : Hid _ := Fr.seal_small ao cap xs w hc hb
  rw [Fr.sealed_ok hxs] at HSe
  obtain ⟨F, hF⟩ : ∃ F, F = Fr.str (Fr.framesB xs) := ⟨_, rfl⟩
  rw [← hF] at HSe
  have hFd : F.data.toList = fr xs := by rw [hF]; rfl
  have hFs : F.size = 8 * xs.length + total xs := by rw [hF]; exact fr_size xs
  have HP : Hid (∀ w1 : World, Below w.heap.size w w1 → Calls Try.prog 25 #[.pointer (some ⟨b, 0, none⟩), .string x, .string F] w1 fun e w' => e = .returned (.int .i64 (s.logE x.data.toList (fr xs))) ∧ FSAt w' S b (s.log x.data.toList (fr xs)) ∧ Chg S w1 w') := fun w1 h1 => by
    have := put_any S b s x F w1 (FSX.below h h1) (fun k e => hS k (Nat.le_trans h1.size e)) hx hn (by omega) ha hac
    rw [hFd] at this
    exact this
  have HL : Hid (∀ w1 w2 : World, Below w.heap.size w w1 → Chg S w1 w2 → LogAt w2 lb n b x false) := fun w1 w2 h1 h2 => (hL.below h1).chg h2 hlb
  have HK : Hid (∀ w1, Below w.heap.size w w1 → w1.cell? ⟨lb, 1, none⟩ = some (.pointer (some ⟨b, 0, none⟩)) ∧ w1.cell? ⟨lb, 2, none⟩ = some (.string x)) := fun w1 h1 => by
    obtain ⟨_, k1, k2, _⟩ := (hL.below h1).cells
    exact ⟨k1, k2⟩
  have HW : Hid (∀ w1 w2 : World, Below w.heap.size w w1 → Chg S w1 w2 → Chg (fun k => S k ∨ k = lb) w w2) := fun w1 w2 h1 h2 => (Chg.of_below h1).then (h2.mono fun k _ e => .inl e)
  have HSet : Hid (∀ w2 v, FSAt w2 S b (s.log x.data.toList (fr xs)) → FSAt (w2.setCell ⟨lb, 0, none⟩ v) S b (s.log x.data.toList (fr xs))) := fun w2 v h2 => FSX.keep h2 fun k hk _ => Below.heap_setCell _ _ _ _ (by rintro rfl; exact hlb hk)
  rw [hd] at HD
  generalize s.log x.data.toList (fr xs) = s1 at *
  generalize s.logE x.data.toList (fr xs) = E at *
  clear h hS hL hlb hc hb hxs hsz hF hFd hFs fz g1 g2 g3 g4 ha hac hn hx hd
  by_cases hE : E = 0
  · subst hE
    rw [if_pos rfl]
    go_enter Try.func10, Try.ntmps10
    go_wp2_with fail
    refine (show Calls _ _ _ _ _ from HD.out).mono ?_
    rintro e w1 ⟨rfl, rfl⟩
    go_wp2_with fail
    refine (show Calls _ _ _ _ _ from HSe.out).mono ?_
    rintro e w2 ⟨rfl, hb2⟩
    have HP2 : Hid (∀ w3, w3 = w2.drew → Calls Try.prog 25 #[.pointer (some ⟨b, 0, none⟩), .string x, .string F] w3 fun e w' => e = .returned (.int .i64 0) ∧ FSAt w' S b s1 ∧ Chg S w2.drew w') := fun w3 e3 => by subst e3; exact HP.out w2.drew hb2.drew
    obtain ⟨k1, k2⟩ := HK.out w2 hb2
    have HL2 : Hid (∀ w3, Chg S w2.drew w3 → LogAt w3 lb n b x false) := fun w3 h3 => HL.out w2.drew w3 hb2.drew h3
    have HW2 : Hid (∀ w3, Chg S w2.drew w3 → Chg (fun k => S k ∨ k = lb) w1 w3) := fun w3 h3 => HW.out w2.drew w3 hb2.drew h3
    clear hb2 HP HL HW HK c0 c1 c2 c3 g0
    go_wp2_with fail
    go_region_held3 (fun w' => w'.cell? ⟨lb, 1, none⟩ = some (.pointer (some ⟨b, 0, none⟩)) ∧ w'.cell? ⟨lb, 2, none⟩ = some (.string x)) (first | exact ⟨by assumption, by assumption⟩ | exact ⟨k1, k2⟩)
      ((go_at_call 25; refine (HP2.out _ ?_).mono ?_; rfl; rintro e w3 ⟨rfl, h3, hc3⟩; have q1 := (HL2.out w3 hc3).cells.2.1; have q2 := (HL2.out w3 hc3).cells.2.2.1))
    have HL3 : Hid (LogAt w3 lb n b x false) := HL2.out w3 hc3
    have HR3 : Hid (FSAt w3 S b s1 ∧ Chg (fun k => S k ∨ k = lb) w1 w3) := ⟨h3, HW2.out w3 hc3⟩
    clear h3 hc3 HP2 HL2 HW2 q1 q2
    go_wp2_with fail
    refine (add_any lb n b x false ao xs.length cap _ HL3.out hm).mono ?_
    rintro e w4 ⟨rfl, rfl⟩
    have HR4 : Hid (FSAt (w3.setCell ⟨lb, 0, none⟩ (.int .i64 ((n + xs.length : Nat) : Int))) S b s1 ∧ LogAt (w3.setCell ⟨lb, 0, none⟩ (.int .i64 ((n + xs.length : Nat) : Int))) lb (n + xs.length) b x false ∧ Chg (fun k => S k ∨ k = lb) w1 (w3.setCell ⟨lb, 0, none⟩ (.int .i64 ((n + xs.length : Nat) : Int)))) :=
      ⟨HSet.out _ _ HR3.out.1, HL3.out.set _, HR3.out.2.then (Chg.set _ _ _ _ (.inr rfl))⟩
    generalize w3.setCell ⟨lb, 0, none⟩ (.int .i64 ((n + xs.length : Nat) : Int)) = w4 at *
    clear HL3 HR3 HSet
    go_wp2
    go_ret
    exact ⟨rfl, HR4.out⟩
  · rw [if_neg hE]
    have e3 : (E == 0) = false := by simpa using hE
    go_enter Try.func10, Try.ntmps10
    go_wp2_with fail
    refine (show Calls _ _ _ _ _ from HD.out).mono ?_
    rintro e w1 ⟨rfl, rfl⟩
    go_wp2_with fail
    refine (show Calls _ _ _ _ _ from HSe.out).mono ?_
    rintro e w2 ⟨rfl, hb2⟩
    have HP2 : Hid (∀ w3, w3 = w2.drew → Calls Try.prog 25 #[.pointer (some ⟨b, 0, none⟩), .string x, .string F] w3 fun e w' => e = .returned (.int .i64 E) ∧ FSAt w' S b s1 ∧ Chg S w2.drew w') := fun w3 e3 => by subst e3; exact HP.out w2.drew hb2.drew
    obtain ⟨k1, k2⟩ := HK.out w2 hb2
    have HL2 : Hid (∀ w3, Chg S w2.drew w3 → LogAt w3 lb n b x false) := fun w3 h3 => HL.out w2.drew w3 hb2.drew h3
    have HW2 : Hid (∀ w3, Chg S w2.drew w3 → Chg (fun k => S k ∨ k = lb) w1 w3) := fun w3 h3 => HW.out w2.drew w3 hb2.drew h3
    clear hb2 HP HL HW HK c0 c1 c2 c3 g0 hE
    go_wp2_with fail
    go_region_held3 (fun w' => w'.cell? ⟨lb, 1, none⟩ = some (.pointer (some ⟨b, 0, none⟩)) ∧ w'.cell? ⟨lb, 2, none⟩ = some (.string x)) (first | exact ⟨by assumption, by assumption⟩ | exact ⟨k1, k2⟩)
      ((go_at_call 25; refine (HP2.out _ ?_).mono ?_; rfl; rintro e w3 ⟨rfl, h3, hc3⟩; have q1 := (HL2.out w3 hc3).cells.2.1; have q2 := (HL2.out w3 hc3).cells.2.2.1))
    have HR3 : Hid (FSAt w3 S b s1 ∧ LogAt w3 lb n b x false ∧ Chg (fun k => S k ∨ k = lb) w1 w3) := ⟨h3, HL2.out w3 hc3, HW2.out w3 hc3⟩
    clear h3 hc3 HP2 HL2 HW2 q1 q2
    go_wp2
    go_ret
    exact ⟨rfl, HR3.out⟩

theorem syncE_cases (s : St) (x : Name) : s.syncE x = 0 ∨ s.syncE x = 5 ∨ s.syncE x = 7 := by
  unfold St.syncE St.findE errOf
  cases s.down <;> cases (s.files x).isNone <;> cases gone s.fate <;> simp
section
variable (S : Nat → Prop) (b : Nat) (s : St) (x : ByteArray) (ao : Option Addr) (cap : Nat) (xs : List ByteArray) (w : World)
theorem rewrite_long (hc : CellsAt w ao (strVals xs)) (hb : 8 * xs.length + total xs ≤ 70368744177600) (hl : ¬ ∀ y ∈ xs, y.size ≤ 65536) :
    Calls Try.prog 18 #[.pointer (some ⟨b, 0, none⟩), .string x, .slice ao xs.length cap] w fun e w' => e = .returned (.int .i64 2) ∧ Below w.heap.size w w' := by
  have HS : Hid _ := Fr.seal_small ao cap xs w hc hb
  rw [Fr.sealed_long hl] at HS
  clear hc hb hl
  go_enter Try.func18, Try.ntmps18
  go_wp2_with fail
  refine (show Calls _ _ _ _ _ from HS.out).mono ?_
  rintro e w2 ⟨rfl, hb2⟩
  go_wp2
  go_ret
  exact ⟨rfl, hb2⟩
set_option maxRecDepth 100000 in
set_option maxHeartbeats 1000000 in
theorem rewrite_small (h : FSAt w S b s) (hS : ∀ k, w.heap.size ≤ k → S k) (hc : CellsAt w ao (strVals xs)) (hb : 8 * xs.length + total xs ≤ 70368744177600)
    (hxs : ∀ y ∈ xs, y.size ≤ 65536) (hx : x.size ≤ 281474976710656) (hn : s.cnt < 9223372036854774000) (hsz : ((s.delete x.data.toList).old x.data.toList).bytes.length ≤ 70368744177600) (ha : s.armed ≤ s.acts) (hac : s.acts ≤ 9223372036854773000) :
    Calls Try.prog 18 #[.pointer (some ⟨b, 0, none⟩), .string x, .slice ao xs.length cap] w fun e w' => e = .returned (.int .i64 (s.rewriteE x.data.toList (fr xs))) ∧ FSAt w' S b (s.rewrite x.data.toList (fr xs)) ∧ Chg S w w' := by
  have HSe : Hid _ := Fr.seal_small ao cap xs w hc hb
  rw [Fr.sealed_ok hxs] at HSe
  obtain ⟨F, hF⟩ : ∃ F, F = Fr.str (Fr.framesB xs) := ⟨_, rfl⟩
  rw [← hF] at HSe
  have hFd : F.data.toList = fr xs := by rw [hF]; rfl
  have hFs : F.size = 8 * xs.length + total xs := by rw [hF]; exact fr_size xs
  have hne := delete_near s x.data.toList
  have HDe : Hid (∀ w1, Below w.heap.size w w1 → Calls Try.prog 30 #[.pointer (some ⟨b, 0, none⟩), .string x] w1 fun e w' => e = .returned (.int .i64 (s.syncE x.data.toList)) ∧ FSAt w' S b (s.delete x.data.toList) ∧ Chg S w1 w') := fun w1 h1 =>
    deleteS S b s x w1 (FSX.below h h1) (fun k e => hS k (Nat.le_trans h1.size e)) hx (by omega) ha (by omega)
  have HP : Hid (∀ w1 : World, FSAt w1 S b (s.delete x.data.toList) → w.heap.size ≤ w1.heap.size → Calls Try.prog 25 #[.pointer (some ⟨b, 0, none⟩), .string x, .string F] w1 fun e w' => e = .returned (.int .i64 ((s.delete x.data.toList).logE x.data.toList (fr xs))) ∧ FSAt w' S b ((s.delete x.data.toList).log x.data.toList (fr xs)) ∧ Chg S w1 w') := fun w1 h1 h2 => by
    have := put_any S b (s.delete x.data.toList) x F w1 h1 (fun k e => hS k (Nat.le_trans h2 e)) hx (by have := hne.cnt; omega) (by omega) (by have := hne.armed; have := hne.lo; omega) (by have := hne.hi; omega)
    rw [hFd] at this
    exact this
  clear h hS hc hb hxs hsz hF hFd hFs ha hac hn hx hne
  unfold St.rewriteE St.rewrite
  by_cases hE : s.syncE x.data.toList = 0 ∨ s.syncE x.data.toList = 5
  · rw [if_pos hE, if_pos hE]
    generalize (s.delete x.data.toList).logE x.data.toList (fr xs) = E2 at *
    generalize (s.delete x.data.toList).log x.data.toList (fr xs) = s2 at *
    generalize s.delete x.data.toList = s1 at *
    generalize s.syncE x.data.toList = E at *
    rcases hE with rfl | rfl
    all_goals
      go_enter Try.func18, Try.ntmps18
      go_wp2_with fail
      refine (show Calls _ _ _ _ _ from HSe.out).mono ?_
      rintro e w2 ⟨rfl, hb2⟩
      have HD2 : Hid _ := HDe.out w2 hb2
      have HB2 : Hid _ := hb2
      clear hb2 HDe
      go_wp2_with fail
      refine (show Calls _ _ _ _ _ from HD2.out).mono ?_
      rintro e w3 ⟨rfl, h3, hc3⟩
      have HP3 : Hid _ := HP.out w3 h3 (Nat.le_trans HB2.out.size hc3.size)
      have HC3 : Hid (Chg S w w3) := (Chg.of_below HB2.out).then hc3
      clear h3 hc3 HP HD2 HB2
      go_wp2_with fail
      refine (show Calls _ _ _ _ _ from HP3.out).mono ?_
      rintro e w4 ⟨rfl, h4, hc4⟩
      have HR : Hid (FSAt w4 S b s2 ∧ Chg S w w4) := ⟨h4, HC3.out.then hc4⟩
      clear h4 hc4
      go_wp2
      go_ret
      exact ⟨rfl, HR.out⟩
  · rw [if_neg hE, if_neg hE]
    have e7 : s.syncE x.data.toList = 7 := ((syncE_cases s x.data.toList).resolve_left fun e => hE (.inl e)).resolve_left fun e => hE (.inr e)
    rw [e7] at HDe ⊢
    generalize s.delete x.data.toList = s1 at *
    clear hE HP e7
    go_enter Try.func18, Try.ntmps18
    go_wp2_with fail
    refine (show Calls _ _ _ _ _ from HSe.out).mono ?_
    rintro e w2 ⟨rfl, hb2⟩
    have HD2 : Hid _ := HDe.out w2 hb2
    have HB2 : Hid _ := hb2
    clear hb2 HDe
    go_wp2_with fail
    refine (show Calls _ _ _ _ _ from HD2.out).mono ?_
    rintro e w3 ⟨rfl, h3, hc3⟩
    have HR : Hid (FSAt w3 S b s1 ∧ Chg S w w3) := ⟨h3, (Chg.of_below HB2.out).then hc3⟩
    clear h3 hc3 HD2 HB2
    go_wp2
    go_ret
    exact ⟨rfl, HR.out⟩
end
end Go.Proofs.Ytpiaegkeclmpgaa.Wl
