/-
  Package order: 'Int' and 'Text' answer right parts in new memory, in the order of what was handed in.
-/
import Derived.Test.YtceghgbkiafklaaDoorOrderRows
import Derived.Test.YtceghgbkiafklaaDoorCmClone
import Derived.Laws.MakeOwn
import Derived.Handy
namespace Go.Proofs.YtceghgbkiafklaaDoor.Od
open Go.RowKit
open Go.Proofs.YtceghgbkiafklaaDoor.Cm
attribute [local go_sem ↓] Go.wp_at_zero Go.wp_at_succ
set_option linter.unusedVariables false

def intP (n : Int) : Pt := ⟨1, n, ⟨#[]⟩⟩
def textP (s : ByteArray) : Pt := ⟨2, 0, s⟩
def intVals (l : List Int) : List Value := l.map (Value.int .i64)
theorem intPart_any (n : Int) (w : World) : Calls Tryd.prog 31 #[.int .i64 n] w fun e w' => e = .returned (pv (intP n)) ∧ Below w.heap.size w w' := by
  unfold pv intP
  go_enter Tryd.func31, Tryd.ntmps31
  go_wp2
  go_returns
  exact ⟨rfl, (Below.refl _ _).alloc (Nat.le_refl _) _⟩
theorem textPart_any (s : ByteArray) (w : World) : Calls Tryd.prog 32 #[.string s] w fun e w' => e = .returned (pv (textP s)) ∧ Below w.heap.size w w' := by
  unfold pv textP
  go_enter Tryd.func32, Tryd.ntmps32
  go_wp2
  go_returns
  exact ⟨rfl, (Below.refl _ _).alloc (Nat.le_refl _) _⟩
theorem own_alloc3 {w : World} {B : Nat} {e : TypeId} {n : Nat} {v : Value} {xs : List Value} (h : w.ownsRow B e 3 v n xs) (o : Obj) : (w.alloc o).ownsRow B e 3 v n xs :=
  own_keep3 h fun k hk => Below.heap_alloc _ _ _ (h.lt k hk).2
theorem own_slice3 {w : World} {B : Nat} {e : TypeId} {n : Nat} {v : Value} {xs : List Value} (h : w.ownsRow B e 3 v n xs) : ∃ go c, v = .slice go n c := by
  rcases h.2 with ⟨rfl, rfl⟩ | ⟨g, cap, cur, rfl, _⟩
  · exact ⟨none, 0, rfl⟩
  · exact ⟨_, _, rfl⟩
theorem parts_new (w : World) (p : Pt) : PartsAt (w.alloc (.cells #[.int .i64 p.k, .int .i64 p.n, .string p.s] 25)) (some ⟨w.heap.size, 0, none⟩) [p] := by
  refine .inr ⟨w.heap.size, 0, rfl, by simp, fun j hj => ?_⟩
  have hj : j = 0 := by simpa using hj
  subst hj
  have e := heap_alloc_new w (.cells #[.int .i64 p.k, .int .i64 p.n, .string p.s] 25)
  rw [Joins.cell_of_block e, Joins.cell_of_block e, Joins.cell_of_block e]
  exact ⟨rfl, rfl, rfl⟩
set_option maxRecDepth 100000 in
set_option maxHeartbeats 500000 in
theorem Int_any (ao : Option Addr) (cap : Nat) (xs : List Int) (w : World) (hx : CellsAt w ao (intVals xs)) (hl : xs.length ≤ 4294967) :
    Calls Tryd.prog 19 #[.slice ao xs.length cap] w fun e w' => ∃ v, e = .returned v ∧ w'.ownsRow w.heap.size 25 3 v xs.length (partVals (xs.map intP)) ∧ Below w.heap.size w w' := by
  obtain ⟨i0, hi0, hz0, hz1, hz2⟩ := info_parts infoPart
  obtain ⟨w1, hmk, hown, hgr⟩ := run_make_own (P := Tryd.prog) w w.heap.size 22 25 i0 _ 3 Tryd.underlying22 hi0 hz0 hz1 .i64 .i64 xs.length (by rw [hz2]; omega) (by unfold maxLen; omega) (Nat.le_refl _)
  have HB1 : Hid (Below w.heap.size w w1) := (Below.refl _ _).grown hgr (Nat.le_refl _) (fun k hk => by cases hk)
  have HO : Hid (w1.ownsRow w.heap.size 25 3 (.slice (some ⟨w.heap.size, 0, none⟩) 0 xs.length) 0 []) := hown
  clear hown hgr
  go_enter Tryd.func19, Tryd.ntmps19
  go_wp2_with fail
  go_loopw [3, 11] (fun v i wr => ∃ (k : Nat) (go : Option Addr) (c : Nat), k ≤ xs.length ∧ v = .slice go k c ∧ i = .int .i64 k ∧ Hid (wr.ownsRow w.heap.size 25 3 (.slice go k c) k (partVals ((xs.take k).map intP))) ∧ Hid (Below w.heap.size w wr)) (fun _ i _ => xs.length - (intOf i).toNat)
  case atStart => exact ⟨0, _, _, by omega, rfl, rfl, HO.out, HB1.out⟩
  case round =>
    obtain ⟨k, go, c, hk, rfl, rfl, HR, HB⟩ := hrel
    have hsr := HB.out.size
    by_cases hlt : k < xs.length
    · rcases hx.below HB.out with h0 | ⟨b, off, rfl, hbl, hcells⟩
      · simp [intVals] at h0; simp [h0] at hlt
      have hc := hcells k (by simp [intVals, hlt])
      simp only [intVals, List.getElem?_map, List.getElem?_eq_getElem hlt, Option.map_some] at hc
      have HN : Hid ((xs.take (k + 1)).map intP = (xs.take k).map intP ++ [intP xs[k]]) := by
        show _ = _
        rw [List.take_add_one, List.getElem?_eq_getElem hlt, List.map_append]; rfl
      generalize xs[k] = x at *
      clear hcells
      go_wp2_with fail
      refine (intPart_any x _).mono ?_
      rintro e w3 ⟨rfl, hb3⟩
      unfold pv
      have HB3 : Hid (Below wr.heap.size wr w3) := hb3
      clear hb3
      have hs3 := HB3.out.size
      have hownr := own_below3 HR.out HB3.out
      go_wp2_with (at_builtin; refine wpList_append_parts _ rfl _ _ 22 rfl w.heap.size 25 i0 _ Tryd.underlying22 hi0 hz0 hz1 hz2 rfl (.slice go k c) k ((xs.take k).map intP) rfl (own_alloc3 hownr _) _ 1 1 [intP x] rfl (fun h => by cases h) rfl (parts_new w3 _) ?c3 ?c4 ?_)
      case c3 => omega
      case c4 => simp; omega
      intro v4 w4 hown4 hgrow4 hat4
      have HB4 : Hid (Below w.heap.size w w4) := ((HB.out.trans (HB3.out.mono hsr)).alloc (by omega) _).grown hgrow4 (by simp; omega) (fun i hi => (HR.out.lt i hi).1)
      have HR4 : Hid (w4.ownsRow w.heap.size 25 3 v4 (k + 1) (partVals ((xs.take (k + 1)).map intP))) := by rw [HN.out, List.map_take]; exact hown4
      obtain ⟨go4, c4, rfl⟩ := own_slice3 hown4
      clear hown4 hgrow4 hat4 hownr HN
      go_wp2
      go_roundw
      case rel => exact ⟨k + 1, go4, c4, by omega, rfl, by go_num, HR4, HB4⟩
      case measure => simp [intOf]; omega
    · obtain rfl : k = xs.length := by omega
      have HF : Hid (wr.ownsRow w.heap.size 25 3 (.slice go xs.length c) xs.length (partVals (xs.map intP))) := by
        have := HR.out
        rw [List.take_length] at this
        exact this
      go_wp2
      go_ret
      exact ⟨_, rfl, HF.out, HB.out⟩
set_option maxRecDepth 100000 in
set_option maxHeartbeats 500000 in
theorem Text_any (ao : Option Addr) (cap : Nat) (xs : List ByteArray) (w : World) (hx : CellsAt w ao (strVals xs)) (hl : xs.length ≤ 4294967) (hs : ∀ x ∈ xs, x.size ≤ 281474976710656) :
    Calls Tryd.prog 20 #[.slice ao xs.length cap] w fun e w' => ∃ v, e = .returned v ∧ w'.ownsRow w.heap.size 25 3 v xs.length (partVals (xs.map textP)) ∧ Below w.heap.size w w' := by
  obtain ⟨i0, hi0, hz0, hz1, hz2⟩ := info_parts infoPart
  obtain ⟨w1, hmk, hown, hgr⟩ := run_make_own (P := Tryd.prog) w w.heap.size 22 25 i0 _ 3 Tryd.underlying22 hi0 hz0 hz1 .i64 .i64 xs.length (by rw [hz2]; omega) (by unfold maxLen; omega) (Nat.le_refl _)
  have HB1 : Hid (Below w.heap.size w w1) := (Below.refl _ _).grown hgr (Nat.le_refl _) (fun k hk => by cases hk)
  have HO : Hid (w1.ownsRow w.heap.size 25 3 (.slice (some ⟨w.heap.size, 0, none⟩) 0 xs.length) 0 []) := hown
  clear hown hgr
  go_enter Tryd.func20, Tryd.ntmps20
  go_wp2_with fail
  go_loopw [3, 11] (fun v i wr => ∃ (k : Nat) (go : Option Addr) (c : Nat), k ≤ xs.length ∧ v = .slice go k c ∧ i = .int .i64 k ∧ Hid (wr.ownsRow w.heap.size 25 3 (.slice go k c) k (partVals ((xs.take k).map textP))) ∧ Hid (Below w.heap.size w wr)) (fun _ i _ => xs.length - (intOf i).toNat)
  case atStart => exact ⟨0, _, _, by omega, rfl, rfl, HO.out, HB1.out⟩
  case round =>
    obtain ⟨k, go, c, hk, rfl, rfl, HR, HB⟩ := hrel
    have hsr := HB.out.size
    by_cases hlt : k < xs.length
    · rcases hx.below HB.out with h0 | ⟨b, off, rfl, hbl, hcells⟩
      · simp [strVals] at h0; simp [h0] at hlt
      have hc := hcells k (by simp [strVals, hlt])
      simp only [strVals, List.getElem?_map, List.getElem?_eq_getElem hlt, Option.map_some] at hc
      have HN : Hid ((xs.take (k + 1)).map textP = (xs.take k).map textP ++ [textP xs[k]]) := by
        show _ = _
        rw [List.take_add_one, List.getElem?_eq_getElem hlt, List.map_append]; rfl
      have hxs : (xs[k]).size ≤ 281474976710656 := hs _ (List.getElem_mem hlt)
      generalize xs[k] = x at *
      clear hcells
      go_wp2_with fail
      refine (Cm.clone_any x _ hxs).mono ?_
      rintro e w2 ⟨rfl, hb2⟩
      go_wp2_with fail
      refine (textPart_any x _).mono ?_
      rintro e w3 ⟨rfl, hb3⟩
      unfold pv
      have HB3 : Hid (Below wr.heap.size wr w3) := hb2.trans (hb3.mono hb2.size)
      clear hb3 hb2
      have hs3 := HB3.out.size
      have hownr := own_below3 HR.out HB3.out
      go_wp2_with (at_builtin; refine wpList_append_parts _ rfl _ _ 22 rfl w.heap.size 25 i0 _ Tryd.underlying22 hi0 hz0 hz1 hz2 rfl (.slice go k c) k ((xs.take k).map textP) rfl (own_alloc3 hownr _) _ 1 1 [textP x] rfl (fun h => by cases h) rfl (parts_new w3 _) ?c3 ?c4 ?_)
      case c3 => omega
      case c4 => simp; omega
      intro v4 w4 hown4 hgrow4 hat4
      have HB4 : Hid (Below w.heap.size w w4) := ((HB.out.trans (HB3.out.mono hsr)).alloc (by omega) _).grown hgrow4 (by simp; omega) (fun i hi => (HR.out.lt i hi).1)
      have HR4 : Hid (w4.ownsRow w.heap.size 25 3 v4 (k + 1) (partVals ((xs.take (k + 1)).map textP))) := by rw [HN.out, List.map_take]; exact hown4
      obtain ⟨go4, c4, rfl⟩ := own_slice3 hown4
      clear hown4 hgrow4 hat4 hownr HN
      go_wp2
      go_roundw
      case rel => exact ⟨k + 1, go4, c4, by omega, rfl, by go_num, HR4, HB4⟩
      case measure => simp [intOf]; omega
    · obtain rfl : k = xs.length := by omega
      have HF : Hid (wr.ownsRow w.heap.size 25 3 (.slice go xs.length c) xs.length (partVals (xs.map textP))) := by
        have := HR.out
        rw [List.take_length] at this
        exact this
      go_wp2
      go_ret
      exact ⟨_, rfl, HF.out, HB.out⟩
end Go.Proofs.YtceghgbkiafklaaDoor.Od
