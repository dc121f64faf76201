/-
  The statement OrderKeys, walked: whatever list of parts and whatever text, it answers true.
-/
import Derived.Test.YtceghgbkiafklaaDoorOrderRefSplit2
import Derived.Test.YtceghgbkiafklaaDoorOrderBackWalk
import Derived.Test.YtceghgbkiafklaaDoorOrderRangesWalk
namespace Go.Proofs.YtceghgbkiafklaaDoor.Od
open Go.RowKit
open Go.Proofs.YtceghgbkiafklaaDoor.Cm
attribute [local go_sem ↓] Go.wp_at_zero Go.wp_at_succ
set_option linter.unusedVariables false

def mark7 : Pt := ⟨-7, 0, ⟨#[]⟩⟩
theorem parts_new7 (w : World) : PartsAt (w.alloc (.cells #[.int .i64 (-7), .int .i64 0, .string ⟨#[]⟩] 25)) (some ⟨w.heap.size, 0, none⟩) [mark7] := parts_new w mark7

set_option maxRecDepth 100000 in
set_option maxHeartbeats 500000 in
theorem keys_walk (ao : Option Addr) (ca : Nat) (ps : List Pt) (t : ByteArray) (w : World) (hp : PartsAt w ao ps) (op : oks ps) (na : ao = none → ca = 0) (hm : MaxOk w) (hbd : 4 * ps.length + tot ps ≤ 1048576) (htl : t.data.toList.length ≤ 1048576) :
    Calls Tryd.prog 3 #[.slice ao ps.length ca, .string t] w fun e w' => e = .returned (.bool true) ∧ Below w.heap.size w w' := by
  obtain ⟨i0, hi0, hz0, hz1, hz2⟩ := info_parts infoPart
  have ht : t.size ≤ 1048576 := by rw [← str_of]; exact htl
  have hlp : ps.length ≤ 1048576 := by omega
  have HRP : Hid (room ps) := room_of hbd
  obtain ⟨k1, k2, HK⟩ : ∃ k1 k2, Hid (keyAns ps = .tuple #[.string k1, .int .i64 k2]) := by
    by_cases h : rights ps
    · exact ⟨_, _, keyAns_right h⟩
    · exact ⟨_, _, keyAns_wrong h⟩
  clear hbd htl
  go_enter Tryd.func3, Tryd.ntmps3
  go_wp2_with fail
  refine (lives_any _ hm).mono ?_
  rintro e w2 ⟨rfl, hb2⟩
  have HB2 : Hid (Below w.heap.size w w2) := hb2
  have hs2 := hb2.size
  have hp2 := (hp.below HB2.out).below ((Below.refl _ w2).alloc (Nat.le_refl _) (.cells #[] 25))
  clear hb2
  go_wp2_with (at_builtin; refine wpList_append_parts _ rfl _ _ 22 rfl w.heap.size 25 i0 _ Tryd.underlying22 hi0 hz0 hz1 hz2 rfl _ 0 [] rfl (own_empty3 w2 _ hs2) ao ps.length ca ps rfl na rfl hp2 ?c1 ?c2 ?_)
  case c1 => omega
  case c2 => simp; omega
  intro v3 w3 hown3 hgrow3 hat3
  have HB3 : Hid (Below w.heap.size w w3) := (HB2.out.alloc hs2 _).grown hgrow3 (by simp; omega) (fun k hk => ((own_empty3 w2 _ hs2).lt k hk).1)
  have hs3 := HB3.out.size
  clear hgrow3 hat3 hp2
  have hp7 := parts_new7 w3
  go_wp2_with (at_builtin; refine wpList_append_parts _ rfl _ _ 22 rfl w.heap.size 25 i0 _ Tryd.underlying22 hi0 hz0 hz1 hz2 rfl v3 ps.length ps rfl (own_alloc3 hown3 _) (some ⟨w3.heap.size, 0, none⟩) 1 1 [mark7] rfl (fun h => by cases h) rfl hp7 ?d1 ?d2 ?_)
  case d1 => omega
  case d2 => simp; omega
  intro v4 w4 hown4 hgrow4 hat4
  have HB4 : Hid (Below w.heap.size w w4) := (HB3.out.alloc hs3 _).grown hgrow4 (by simp; omega) (fun k hk => (hown3.lt k hk).1)
  have hs4 := HB4.out.size
  have hlm : ps.length + 1 = (ps ++ [mark7]).length := by simp
  rw [hlm] at hown4
  obtain ⟨ao4, ca4, rfl, na4, _, la4, hp4⟩ := own_parts hown4
  have htk : (ps ++ [mark7]).take ps.length = ps := by simp
  have HP4 : Hid (PartsAt w4 ao4 ps) := by have := hp4.take ps.length; rw [htk] at this; exact this
  have HP7 : Hid (PartsAt w4 ao4 (ps ++ [mark7])) := hp4
  rw [← hlm] at la4 ⊢
  have hcut := cut_parts ao4 (ps.length + 1) ca4 ps.length (by omega)
  clear hgrow4 hat4 hown3 hown4 hp4 na4 hp7 hlm htk
  go_wp2_with fail
  refine (Key_any ao4 ca4 ps _ HP4.out op (hm.below HB4.out) HRP.out).mono ?_
  rintro e w5 ⟨rfl, hb5⟩
  rw [HK.out]
  have HB5 : Hid (Below w.heap.size w w5) := HB4.out.trans (hb5.mono hs4)
  have hs5 := HB5.out.size
  have HP5 : Hid (PartsAt w5 ao4 ps) := HP4.out.below hb5
  have HP75 : Hid (PartsAt w5 ao4 (ps ++ [mark7])) := HP7.out.below hb5
  clear hb5 HP4 HP7
  go_wp2_with fail
  refine (refKey_any ao ca ps _ (hp.below HB5.out) op HRP.out).mono ?_
  rintro e w6 ⟨rfl, hb6⟩
  rw [HK.out]
  have HB6 : Hid (Below w.heap.size w w6) := HB5.out.trans (hb6.mono hs5)
  have hs6 := HB6.out.size
  have HP6 : Hid (PartsAt w6 ao4 ps) := HP5.out.below hb6
  have HP76 : Hid (PartsAt w6 ao4 (ps ++ [mark7])) := HP75.out.below hb6
  clear hb6 HP5 HP75
  go_wp2_with fail
  refine (same_any ao4 ao ca4 ca ps _ HP6.out (hp.below HB6.out) (by omega)).mono ?_
  rintro e w7 ⟨rfl, hb7⟩
  have HB7 : Hid (Below w.heap.size w w7) := HB6.out.trans (hb7.mono hs6)
  have hs7 := HB7.out.size
  have hp77 := HP76.out.below hb7
  have HM7 : Hid (MaxOk w7) := hm.below HB7.out
  obtain ⟨b7, off7, rfl, hc7⟩ : ∃ b off, ao4 = some ⟨b, off, none⟩ ∧ w7.cell? ⟨b, off + ps.length * 3, none⟩ = some (.int .i64 (-7)) := by
    rcases hp77 with h0 | ⟨b, off, rfl, _, hc⟩
    · simp at h0
    · have := (hc ps.length (by simp)).1
      have e : (ps ++ [mark7]).getD ps.length Pt.zero = mark7 := by simp
      rw [e] at this
      exact ⟨b, off, rfl, this⟩
  clear hb7 HP6 HP76 hp77
  go_wp2_with fail
  refine (Split_any t _ HM7.out (by omega)).mono ?_
  rintro e w8 ⟨hans8, hb8⟩
  have HB8 : Hid (Below w.heap.size w w8) := HB7.out.trans (hb8.mono hs7)
  have hs8 := HB8.out.size
  have HA8 : Hid (SplitAns w7 t.data.toList e w8) := hans8
  clear hb8 hans8
  rcases HA8.out with ⟨hno8, rfl⟩ | ⟨qs, v8, hrq, oq, hlq, rfl, hown8⟩
  · clear HA8
    go_wp2_with fail
    refine (refSplit_any t _ (by omega)).mono ?_
    rintro e w9 ⟨hans9, hb9⟩
    have HB9 : Hid (Below w.heap.size w w9) := HB8.out.trans (hb9.mono hs8)
    have hs9 := HB9.out.size
    rcases hans9 with ⟨_, rfl⟩ | ⟨rs, v9, hrr, or, hlr, _⟩
    · clear hb9
      have HS : Hid (Calls Tryd.prog 12 #[.slice none 0 0, .slice none 0 0] w9 fun e w' => e = .returned (.bool true) ∧ Below w9.heap.size w9 w') := same_any none none 0 0 [] w9 (.inl rfl) (.inl rfl) (by simp)
      go_wp2_with fail
      refine Calls.mono HS.out ?_
      rintro e w10 ⟨rfl, hb10⟩
      go_wp2
      go_ret
      exact ⟨rfl, HB9.out.trans (hb10.mono hs9)⟩
    · exact absurd ⟨rs, hrr, or, hlr⟩ hno8
  · clear HA8
    obtain ⟨ao8, ca8, rfl, _, _, _, hp8⟩ := own_parts hown8
    have HP8 : Hid (PartsAt w8 ao8 qs) := hp8
    have hlen : qs.length ≤ 1048576 := by
      have h1 := keyOf_ge hrq
      rw [← hlq, str_of] at h1
      omega
    clear hp8 hown8
    go_wp2_with fail
    refine (refSplit_any t _ (by omega)).mono ?_
    rintro e w9 ⟨hans9, hb9⟩
    have HB9 : Hid (Below w.heap.size w w9) := HB8.out.trans (hb9.mono hs8)
    have hs9 := HB9.out.size
    rcases hans9 with ⟨hno9, rfl⟩ | ⟨rs, v9, hrr, or, hlr, rfl, hown9⟩
    · exact absurd ⟨qs, hrq, oq, hlq⟩ hno9
    · obtain rfl : qs = rs := key_inj hrq hrr oq or (by rw [← hlq, ← hlr])
      obtain ⟨ao9, ca9, rfl, _, _, _, hp9⟩ := own_parts hown9
      have HS : Hid _ := same_any ao8 ao9 ca8 ca9 qs w9 (HP8.out.below hb9) hp9 (by omega)
      clear hb9 hp9 hown9 hrr or hlr HP8
      go_wp2_with fail
      refine Calls.mono HS.out ?_
      rintro e w10 ⟨rfl, hb10⟩
      go_wp2
      go_ret
      exact ⟨rfl, HB9.out.trans (hb10.mono hs9)⟩
end Go.Proofs.YtceghgbkiafklaaDoor.Od
