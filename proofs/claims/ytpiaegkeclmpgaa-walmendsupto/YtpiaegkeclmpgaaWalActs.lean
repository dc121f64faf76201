/-
  Package wal: Open of a log, Append to it.
-/
import Derived.Test.YtpiaegkeclmpgaaWalLog
namespace Go.Proofs.Ytpiaegkeclmpgaa.Wl
open Go.RowKit Cm Vf
set_option linter.unusedVariables false

set_option maxRecDepth 100000 in
set_option maxHeartbeats 1000000 in
/-- A log whose file holds these frames, and something behind them that begins with no frame. -/
theorem open_ok (S : Nat → Prop) (b : Nat) (s : St) (x : ByteArray) (xs : List ByteArray) (r : List UInt8) (w : World) (h : FSAt w S b s) (hd : s.down = false) (hx : isName x.data.toList = true)
    (hxs : ∀ y ∈ xs, y.size ≤ 65536) (hr : Fr.first r = none) (ht : (s.old x.data.toList).bytes = Fr.framesB xs ++ r) (hsz : (s.old x.data.toList).bytes.length ≤ 70368744177600) :
    Calls Try.prog 9 #[.pointer (some ⟨b, 0, none⟩), .string x] w fun e w' => ∃ lb ao cap, e = .returned (.tuple #[.pointer (some ⟨lb, 0, none⟩), .slice ao xs.length cap, .int .i64 0]) ∧
      w'.ownsRow w.heap.size 9 1 (.slice ao xs.length cap) xs.length (strVals xs) ∧ LogAt w' lb xs.length b x (decide (0 < r.length)) ∧ w.heap.size ≤ lb ∧ Below w.heap.size w w' := by
  have hxs40 : x.size ≤ 40 := by unfold isName at hx; rw [Lib.size_eq]; simp at hx; exact hx.2
  obtain ⟨fo, bm, c0, c1, c2, c3, c4, fz⟩ := h.cells
  have HD : Hid _ := down_any S b s w h
  have HN : Hid _ := isName_any x w
  have HR : Hid _ := read_any S b s x w h (by omega)
  have hfo : (s.found x.data.toList) = s.old x.data.toList := by unfold St.found; rw [hd]; rfl
  rw [hd] at HD
  rw [hx] at HN
  rw [hfo] at HR
  obtain ⟨T, hT⟩ : ∃ T : ByteArray, T = ⟨(s.old x.data.toList).bytes.toArray⟩ := ⟨_, rfl⟩
  rw [← hT] at HR
  have HTd : Hid (T.data.toList = Fr.framesB xs ++ r) := by rw [hT]; exact ht
  have HTs : Hid (T.size = (Fr.framesB xs).length + r.length) := by rw [Lib.size_eq, HTd.out, List.length_append]; exact hid_rfl
  have hTl : T.size ≤ 70368744177600 := by rw [hT, Lib.size_eq]; exact hsz
  have hlen : 8 * xs.length ≤ T.size := by have := HTs.out; rw [Fr.framesB_len] at this; omega
  have HSc : Hid (∀ w1, Calls _ _ _ _ _) := fun w1 => Fr.scan_own T xs r w1 hxs hr HTd.out hTl
  have HTo : Hid (decide ((Fr.framesB xs).length < T.size) = decide (0 < r.length)) := by
    have := HTs.out
    show _ = _
    by_cases h0 : 0 < r.length
    · rw [decide_eq_true h0, decide_eq_true (by omega)]
    · rw [decide_eq_false h0, decide_eq_false (by omega)]
  generalize (Fr.framesB xs).length = n at *
  generalize s.findE x.data.toList = E at *
  clear h hd hx hxs hr ht hsz hT HTd HTs hfo c0 c1 c2 c3 c4 fz
  go_enter Try.func9, Try.ntmps9
  go_wp2_with fail
  refine (show Calls _ _ _ _ _ from HD.out).mono ?_
  rintro e w1 ⟨rfl, rfl⟩
  go_wp2_with fail
  refine (show Calls _ _ _ _ _ from HN.out).mono ?_
  rintro e w1 ⟨rfl, rfl⟩
  go_wp2_with fail
  refine (show Calls _ _ _ _ _ from HR.out).mono ?_
  rintro e w2 ⟨rfl, hb2⟩
  have HSc2 : Hid _ := HSc.out w2
  have hs2 := hb2.size
  have HB2 : Hid _ := hb2
  clear hb2
  go_wp2_with fail
  refine (show Calls _ _ _ _ _ from HSc2.out).mono ?_
  rintro e w3 ⟨ao, cap, rfl, hown3, hb3⟩
  have hs3 := hb3.size
  have HB3 : Hid _ := hb3
  have HO3 : Hid (w3.ownsRow w2.heap.size 9 1 (.slice ao xs.length cap) xs.length (strVals xs)) := hown3
  clear hb3 hown3
  go_wp2_with fail
  refine (clone_any x _ (by omega)).mono ?_
  rintro e w4 ⟨rfl, hb4⟩
  have hs4 := hb4.size
  have HB4 : Hid _ := hb4
  clear hb4
  have HL : Hid (LogAt (w4.alloc (.cells #[.int .i64 0, .pointer (some ⟨b, 0, none⟩), .string x, .bool (decide (n < T.size))] 37)) w4.heap.size 0 b x (decide (n < T.size))) := heap_alloc_new w4 _
  go_wp2_with fail
  refine (add_any w4.heap.size 0 b x _ ao xs.length cap _ HL.out (by omega)).mono ?_
  rintro e w5 ⟨rfl, rfl⟩
  have HL5 : Hid _ := HL.out.set (0 + xs.length)
  have HB5 : Hid (Below w4.heap.size w4 ((w4.alloc (.cells #[.int .i64 0, .pointer (some ⟨b, 0, none⟩), .string x, .bool (decide (n < T.size))] 37)).setCell ⟨w4.heap.size, 0, none⟩ (.int .i64 ((0 + xs.length : Nat) : Int)))) :=
    Below.setCell ((Below.refl _ _).alloc (Nat.le_refl _) _) (show w4.heap.size ≤ (⟨w4.heap.size, 0, none⟩ : Addr).block from Nat.le_refl _) _
  generalize ((w4.alloc (.cells #[.int .i64 0, .pointer (some ⟨b, 0, none⟩), .string x, .bool (decide (n < T.size))] 37)).setCell ⟨w4.heap.size, 0, none⟩ (.int .i64 ((0 + xs.length : Nat) : Int))) = w5 at *
  rw [HTo.out, Nat.zero_add] at HL5
  go_wp2
  go_ret3
  have hB4 : Below w3.heap.size w3 w5 := HB4.out.trans (HB5.out.mono hs4)
  refine ⟨_, _, _, rfl, ?_, HL5.out, by omega, (HB2.out.trans (HB3.out.mono hs2)).trans (hB4.mono (by omega))⟩
  have h1 := own_keep HO3.out fun k e => hB4.block k (HO3.out.lt k e).2
  exact ⟨h1.1, h1.2.imp id fun ⟨g, cap, cur, q1, q2, q3⟩ => ⟨g, cap, cur, q1, by omega, q3⟩⟩

section
variable (S : Nat → Prop) (lb n b : Nat) (s : St) (x : ByteArray) (ao : Option Addr) (cap : Nat) (xs : List ByteArray) (w : World)
theorem append_down (t : Bool) (h : FSAt w S b s) (hL : LogAt w lb n b x t) (hd : s.down = true) (m : Nat) :
    Calls Try.prog 10 #[.pointer (some ⟨lb, 0, none⟩), .slice ao m cap] w fun e w' => e = .returned (.int .i64 7) ∧ w' = w := by
  obtain ⟨c0, c1, c2, c3, fz⟩ := hL.cells
  have HD : Hid _ := down_any S b s w h
  obtain ⟨_, _, g0, g1, g2, g3, g4, _⟩ := h.cells
  rw [hd] at HD
  clear h hL fz g1 g2 g3 g4
  go_enter Try.func10, Try.ntmps10
  go_wp2_with fail
  refine (show Calls _ _ _ _ _ from HD.out).mono ?_
  rintro e w1 ⟨rfl, rfl⟩
  go_wp2
  go_ret
  exact ⟨rfl, rfl⟩
theorem append_torn (h : FSAt w S b s) (hL : LogAt w lb n b x true) (hd : s.down = false) (m : Nat) :
    Calls Try.prog 10 #[.pointer (some ⟨lb, 0, none⟩), .slice ao m cap] w fun e w' => e = .returned (.int .i64 8) ∧ w' = w := by
  obtain ⟨c0, c1, c2, c3, fz⟩ := hL.cells
  have HD : Hid _ := down_any S b s w h
  obtain ⟨_, _, g0, g1, g2, g3, g4, _⟩ := h.cells
  rw [hd] at HD
  clear h hL fz g1 g2 g3 g4
  go_enter Try.func10, Try.ntmps10
  go_wp2_with fail
  refine (show Calls _ _ _ _ _ from HD.out).mono ?_
  rintro e w1 ⟨rfl, rfl⟩
  go_wp2
  go_ret
  exact ⟨rfl, rfl⟩
theorem append_long (h : FSAt w S b s) (hL : LogAt w lb n b x false) (hd : s.down = false) (hc : CellsAt w ao (strVals xs)) (hb : 8 * xs.length + total xs ≤ 70368744177600) (hl : ¬ ∀ y ∈ xs, y.size ≤ 65536) :
    Calls Try.prog 10 #[.pointer (some ⟨lb, 0, none⟩), .slice ao xs.length cap] w fun e w' => e = .returned (.int .i64 2) ∧ Below w.heap.size w w' := by
  obtain ⟨c0, c1, c2, c3, fz⟩ := hL.cells
  have HD : Hid _ := down_any S b s w h
  obtain ⟨_, _, g0, g1, g2, g3, g4, _⟩ := h.cells
  have HS : Hid _ := Fr.seal_small ao cap xs w hc hb
  rw [Fr.sealed_long hl] at HS
  rw [hd] at HD
  clear h hL fz g1 g2 g3 g4 hc hb hl
  go_enter Try.func10, Try.ntmps10
  go_wp2_with fail
  refine (show Calls _ _ _ _ _ from HD.out).mono ?_
  rintro e w1 ⟨rfl, rfl⟩
  go_wp2_with fail
  refine (show Calls _ _ _ _ _ from HS.out).mono ?_
  rintro e w2 ⟨rfl, hb2⟩
  go_wp2
  go_ret
  exact ⟨rfl, hb2⟩
theorem append_none (h : FSAt w S b s) (hL : LogAt w lb n b x false) (hd : s.down = false) :
    Calls Try.prog 10 #[.pointer (some ⟨lb, 0, none⟩), .slice ao 0 cap] w fun e w' => e = .returned (.int .i64 0) ∧ Below w.heap.size w w' := by
  obtain ⟨c0, c1, c2, c3, fz⟩ := hL.cells
  have HD : Hid _ := down_any S b s w h
  obtain ⟨_, _, g0, g1, g2, g3, g4, _⟩ := h.cells
  have HS : Hid _ := Fr.seal_small ao cap [] w (.inl rfl) (by simp [total])
  rw [Fr.sealed_ok (by simp)] at HS
  rw [hd] at HD
  clear h hL fz g1 g2 g3 g4
  go_enter Try.func10, Try.ntmps10
  go_wp2_with fail
  refine (show Calls _ _ _ _ _ from HD.out).mono ?_
  rintro e w1 ⟨rfl, rfl⟩
  go_wp2_with fail
  refine (show Calls _ _ _ _ _ from HS.out).mono ?_
  rintro e w2 ⟨rfl, hb2⟩
  go_wp2
  go_ret
  exact ⟨rfl, hb2⟩
end
end Go.Proofs.Ytpiaegkeclmpgaa.Wl
