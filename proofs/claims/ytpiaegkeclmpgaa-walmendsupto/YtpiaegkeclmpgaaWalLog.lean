/-
  Package wal: a log in memory; Count, Torn, add, isName, put.
-/
import Derived.Test.YtpiaegkeclmpgaaWalKit
import Derived.Test.YtpiaegkeclmpgaaFrameKit
namespace Go.Proofs.Ytpiaegkeclmpgaa.Wl
open Go.RowKit Cm Vf
set_option linter.unusedVariables false

/-- Block lb is the log, with n payloads, of the file x in the file system b. -/
def LogAt (w : World) (lb n b : Nat) (x : ByteArray) (torn : Bool) : Prop := w.heap[lb]? = some (.cells #[.int .i64 n, .pointer (some ⟨b, 0, none⟩), .string x, .bool torn] 37 (0, 0))
section
variable {w w' : World} {lb n b : Nat} {x : ByteArray} {torn : Bool}
theorem LogAt.lt (h : LogAt w lb n b x torn) : lb < w.heap.size := lt_of_block h
theorem LogAt.keep (h : LogAt w lb n b x torn) (hk : w'.heap[lb]? = w.heap[lb]?) : LogAt w' lb n b x torn := hk.trans h
theorem LogAt.below (h : LogAt w lb n b x torn) (hb : Below w.heap.size w w') : LogAt w' lb n b x torn := h.keep (hb.block _ h.lt)
theorem LogAt.chg {S : Nat → Prop} (h : LogAt w lb n b x torn) (hc : Chg S w w') (hn : ¬ S lb) : LogAt w' lb n b x torn := h.keep (hc.block _ h.lt hn)
theorem LogAt.cells (h : LogAt w lb n b x torn) : w.cell? ⟨lb, 0, none⟩ = some (.int .i64 n) ∧ w.cell? ⟨lb, 1, none⟩ = some (.pointer (some ⟨b, 0, none⟩)) ∧ w.cell? ⟨lb, 2, none⟩ = some (.string x) ∧ w.cell? ⟨lb, 3, none⟩ = some (.bool torn) ∧ ∀ i, w.frozen? ⟨lb, i, none⟩ = false := by
  have h1 : w.heap[lb]? = some (.cells #[.int .i64 n, .pointer (some ⟨b, 0, none⟩), .string x, .bool torn] 37 (0, 0)) := h
  refine ⟨?_, ?_, ?_, ?_, fun i => by simp [World.frozen?, h1]⟩ <;> rw [Joins.cell_of_block h1] <;> rfl
theorem LogAt.set (h : LogAt w lb n b x torn) (m : Nat) : LogAt (w.setCell ⟨lb, 0, none⟩ (.int .i64 m)) lb m b x torn := by
  have h1 : w.heap[lb]? = some (.cells #[.int .i64 n, .pointer (some ⟨b, 0, none⟩), .string x, .bool torn] 37 (0, 0)) := h
  show (w.setCell _ _).heap[lb]? = _
  rw [Joins.block_setCell h1]; rfl
end

theorem count_any (lb n b : Nat) (x : ByteArray) (t : Bool) (w : World) (h : LogAt w lb n b x t) :
    Calls Try.prog 12 #[.pointer (some ⟨lb, 0, none⟩)] w fun e w' => e = .returned (.int .i64 n) ∧ w' = w := by
  obtain ⟨c0, c1, c2, c3, fz⟩ := h.cells
  clear h
  go_enter Try.func12, Try.ntmps12
  go_wp2
  go_ret
  exact ⟨rfl, rfl⟩
theorem torn_any (lb n b : Nat) (x : ByteArray) (t : Bool) (w : World) (h : LogAt w lb n b x t) :
    Calls Try.prog 17 #[.pointer (some ⟨lb, 0, none⟩)] w fun e w' => e = .returned (.bool t) ∧ w' = w := by
  obtain ⟨c0, c1, c2, c3, fz⟩ := h.cells
  clear h
  go_enter Try.func17, Try.ntmps17
  go_wp2
  go_ret
  exact ⟨rfl, rfl⟩
theorem add_any (lb n b : Nat) (x : ByteArray) (t : Bool) (ao : Option Addr) (m cap : Nat) (w : World) (h : LogAt w lb n b x t) (hm : n + m ≤ 9223372036854775807) :
    Calls Try.prog 23 #[.pointer (some ⟨lb, 0, none⟩), .slice ao m cap] w fun e w' => e = .returned (.tuple #[]) ∧ w' = w.setCell ⟨lb, 0, none⟩ (.int .i64 ((n + m : Nat) : Int)) := by
  obtain ⟨c0, c1, c2, c3, fz⟩ := h.cells
  have fz0 := fz 0
  clear h fz
  go_enter Try.func23, Try.ntmps23
  go_wp2
  go_end0
  exact ⟨rfl, by congr 2⟩
theorem isName_any (x : ByteArray) (w : World) :
    Calls Try.prog 20 #[.string x] w fun e w' => e = .returned (.bool (isName x.data.toList)) ∧ w' = w := by
  have hl : x.data.toList.length = x.size := by rw [Array.length_toList]; rfl
  by_cases h0 : x.size = 0
  · have hx : x = ⟨#[]⟩ := by
      cases x with | mk d => cases d with | mk l => simp [ByteArray.size] at h0; subst h0; rfl
    subst hx
    clear hl h0
    go_enter Try.func20, Try.ntmps20
    go_wp2
    go_ret
    exact ⟨rfl, rfl⟩
  · have he : x.data.toList.isEmpty = false := by
      cases h : x.data.toList with
      | nil => rw [h] at hl; exact absurd hl.symm h0
      | cons a l => rfl
    have hne : x.toList.isEmpty = false := by rw [Lib.toList_data]; exact he
    have hE : Hid (isName x.data.toList = decide ((x.size : Int) ≤ 40)) := by
      show _ = _
      unfold isName; rw [he, hl]
      by_cases h : x.size ≤ 40
      · rw [decide_eq_true h, decide_eq_true (by omega)]; rfl
      · rw [decide_eq_false h, decide_eq_false (by omega)]; rfl
    rw [hE.out]
    clear hl he
    go_enter Try.func20, Try.ntmps20
    go_wp2
    go_ret
    exact ⟨rfl, rfl⟩

set_option maxRecDepth 100000 in
set_option maxHeartbeats 500000 in
theorem put_any (S : Nat → Prop) (b : Nat) (s : St) (x t : ByteArray) (w : World) (h : FSAt w S b s) (hS : ∀ k, w.heap.size ≤ k → S k)
    (hx : x.size ≤ 281474976710656) (hn : s.cnt < 9223372036854775000) (hsz : (s.old x.data.toList).bytes.length + t.size ≤ 140737488355328) (ha : s.armed ≤ s.acts) (hac : s.acts ≤ 9223372036854774000) :
    Calls Try.prog 25 #[.pointer (some ⟨b, 0, none⟩), .string x, .string t] w fun e w' => e = .returned (.int .i64 (s.logE x.data.toList t.data.toList)) ∧ FSAt w' S b (s.log x.data.toList t.data.toList) ∧ Chg S w w' := by
  have HA : Hid _ := appendS S b s x t w h hS hx (by omega) hsz ha (by omega)
  have hne := append_near s x.data.toList t.data.toList
  have HSy : Hid (∀ w1, FSAt w1 S b (s.append x.data.toList t.data.toList) → Chg S w w1 → Calls Try.prog 36 #[.pointer (some ⟨b, 0, none⟩), .string x] w1 fun e w' => e = .returned (.int .i64 ((s.append x.data.toList t.data.toList).syncE x.data.toList)) ∧ FSAt w' S b ((s.append x.data.toList t.data.toList).sync x.data.toList) ∧ Chg S w1 w') := fun w1 h1 h2 =>
    syncS S b _ x w1 h1 (fun k e => hS k (Nat.le_trans h2.size e)) hx (by have := hne.cnt; omega) (by have := hne.armed; have := hne.lo; omega) (by have := hne.hi; omega)
  clear h hS hx hn hsz ha hac hne
  by_cases h0 : s.appendE x.data.toList = 0
  · have e1 : s.logE x.data.toList t.data.toList = (s.append x.data.toList t.data.toList).syncE x.data.toList := by unfold St.logE; rw [if_pos h0]
    have e2 : s.log x.data.toList t.data.toList = (s.append x.data.toList t.data.toList).sync x.data.toList := by unfold St.log; rw [if_pos h0]
    rw [e1, e2]
    rw [h0] at HA
    generalize s.append x.data.toList t.data.toList = s1 at *
    clear e1 e2 h0
    go_enter Try.func25, Try.ntmps25
    go_wp2_with fail
    refine (show Calls _ _ _ _ _ from HA.out).mono ?_
    rintro e w1 ⟨rfl, h1, hc1⟩
    have HS1 : Hid _ := HSy.out w1 h1 hc1
    have HC1 : Hid _ := hc1
    clear h1 hc1
    go_wp2_with fail
    refine (show Calls _ _ _ _ _ from HS1.out).mono ?_
    rintro e w2 ⟨rfl, h2, hc2⟩
    have HR : Hid (FSAt w2 S b (s1.sync x.data.toList) ∧ Chg S w w2) := ⟨h2, HC1.out.then hc2⟩
    clear h2 hc2
    go_wp2
    go_ret
    exact ⟨rfl, HR.out⟩
  · have e1 : s.logE x.data.toList t.data.toList = s.appendE x.data.toList := by unfold St.logE; rw [if_neg h0]
    have e2 : s.log x.data.toList t.data.toList = s.append x.data.toList t.data.toList := by unfold St.log; rw [if_neg h0]
    rw [e1, e2]
    have e3 : (s.appendE x.data.toList == 0) = false := by simpa using h0
    generalize s.append x.data.toList t.data.toList = s1 at *
    generalize s.appendE x.data.toList = E at *
    clear e1 e2 h0 HSy
    go_enter Try.func25, Try.ntmps25
    go_wp2_with fail
    refine (show Calls _ _ _ _ _ from HA.out).mono ?_
    rintro e w1 ⟨rfl, h1, hc1⟩
    have HR : Hid (FSAt w1 S b s1 ∧ Chg S w w1) := ⟨h1, hc1⟩
    clear h1 hc1
    go_wp2
    go_ret
    exact ⟨rfl, HR.out⟩
end Go.Proofs.Ytpiaegkeclmpgaa.Wl
