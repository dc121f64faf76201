/-
  The walk of MergeJoins.
-/
import Derived.Test.YtdaibmafnamfgaaMergeLies
namespace Go.Proofs.Ytdaibmafnamfgaa.Mg
open Go.RowKit Go.Shelf Cm Mm
set_option linter.unusedVariables false

set_option maxRecDepth 100000 in
set_option maxHeartbeats 2000000 in
theorem joins_any (ao bo co : Option Addr) (ca cb cc : Nat) (a b c : List En) (w : World) (ha : ElemsAt enShape w ao a) (hb : ElemsAt enShape w bo b) (hc : ElemsAt enShape w co c) (na : ao = none → ca = 0) (nb : bo = none → cb = 0) (nc : co = none → cc = 0) (hl : a.length + b.length + c.length ≤ 1048576) :
    Calls Try.prog 5 #[.slice ao a.length ca, .slice bo b.length cb, .slice co c.length cc] w fun e w' => e = .returned (.bool true) ∧ Below w.heap.size w w' := by
  have HA : Hid (∀ X, Below w.heap.size w X → Lies X ao ca a) := fun X hX => ⟨ha.later hX, na⟩
  have HB : Hid (∀ X, Below w.heap.size w X → Lies X bo cb b) := fun X hX => ⟨hb.later hX, nb⟩
  have HC : Hid (∀ X, Below w.heap.size w X → Lies X co cc c) := fun X hX => ⟨hc.later hX, nc⟩
  have l1 := merged_len (a ++ b ++ c)
  have l2 := merged_len (a ++ b)
  have l3 := merged_len (b ++ c)
  simp only [List.length_append] at l1 l2 l3
  have HL : Hid (a.length + b.length + c.length ≤ 1048576 ∧ (merged (a ++ b ++ c)).length ≤ 1048576 ∧ (merged (a ++ b)).length ≤ 1048576 ∧ (merged (b ++ c)).length ≤ 1048576) := ⟨hl, by omega, by omega, by omega⟩
  have HE : Hid (Sorted (merged (a ++ b ++ c)) ∧ merged (merged (a ++ b) ++ c) = merged (a ++ b ++ c) ∧ merged (a ++ merged (b ++ c)) = merged (a ++ b ++ c) ∧ merged (merged (a ++ b ++ c) ++ merged (a ++ b ++ c)) = merged (a ++ b ++ c)) :=
    ⟨merged_sorted _, merged_left _ _, by rw [merged_right, List.append_assoc], by rw [merged_twice, merged_self (merged_sorted _)]⟩
  have HM : Hid ((merged a).length ≤ 1048576) := by have := merged_len a; show _ ≤ _; omega
  clear ha hb hc na nb nc l1 l2 l3 hl
  go_enter Try.func5, Try.ntmps5
  go_wp2_with fail
  refine (lives_any _).mono ?_
  rintro e w0 ⟨rfl, hb0⟩
  have H0 : Hid _ := hb0
  have HM1 : Hid _ := m3 (HA.out w0 hb0) (HB.out w0 hb0) (HC.out w0 hb0) (by have := HL.out.1; omega)
  clear hb0
  go_wp2_with fail
  refine (show Calls _ _ _ _ _ from HM1.out).mono ?_
  rintro e w1 ⟨ao1, c1, rfl, hy1, hb1⟩
  have HW1 : Hid (Below w.heap.size w w1) := H0.out.trans (hb1.mono H0.out.size)
  have HWX : Hid (∀ X, Below w1.heap.size w1 X → Below w.heap.size w X) := fun X hX => HW1.out.trans (hX.mono HW1.out.size)
  have HY1 : Hid (∀ X, Below w1.heap.size w1 X → Lies X ao1 c1 _) := fun X hX => hy1.later hX
  have HR : Hid _ := rising_any ao1 c1 _ w1 hy1.elems HE.out.1 (by have := HL.out.2.1; omega)
  clear hy1 hb1 HM1 H0
  generalize hLq : merged (a ++ b ++ c) = L at *
  clear hLq
  go_wp2_with fail
  refine (show Calls _ _ _ _ _ from HR.out).mono ?_
  rintro e w2 ⟨rfl, P2⟩
  clear HR
  have hw2 := HWX.out _ P2
  have hm3 := m2 (HA.out _ hw2) (HB.out _ hw2) (by have := HL.out; omega)
  have HM3 : Hid _ := hm3
  have HP2 : Hid _ := P2
  clear hm3 hw2 P2
  go_wp2_with fail
  refine (show Calls _ _ _ _ _ from HM3.out).mono ?_
  rintro e w3 ⟨ao3, c3, rfl, hy3, hb3⟩
  have P3 : Below w1.heap.size w1 w3 := HP2.out.trans (hb3.mono HP2.out.size)
  clear hb3 HM3 HP2
  have hw3 := HWX.out _ P3
  have hm4 := m2 hy3 (HC.out _ hw3) (by have := HL.out; omega)
  rw [HE.out.2.1] at hm4
  have HM4 : Hid _ := hm4
  have HP3 : Hid _ := P3
  clear hm4 hw3 P3 hy3
  go_wp2_with fail
  refine (show Calls _ _ _ _ _ from HM4.out).mono ?_
  rintro e w4 ⟨ao4, c4, rfl, hy4, hb4⟩
  have P4 : Below w1.heap.size w1 w4 := HP3.out.trans (hb4.mono HP3.out.size)
  clear hb4 HM4 HP3
  have HS5 : Hid _ := sm hy4 (HY1.out _ P4) (by have := HL.out; omega)
  have HP4 : Hid _ := P4
  clear P4 hy4
  go_wp2_with fail
  refine (show Calls _ _ _ _ _ from HS5.out).mono ?_
  rintro e w5 ⟨rfl, hb5⟩
  have P5 : Below w1.heap.size w1 w5 := HP4.out.trans (hb5.mono HP4.out.size)
  clear hb5 HS5 HP4
  have hw5 := HWX.out _ P5
  have hm6 := m2 (HB.out _ hw5) (HC.out _ hw5) (by have := HL.out; omega)
  have HM6 : Hid _ := hm6
  have HP5 : Hid _ := P5
  clear hm6 hw5 P5
  go_wp2_with fail
  refine (show Calls _ _ _ _ _ from HM6.out).mono ?_
  rintro e w6 ⟨ao6, c6, rfl, hy6, hb6⟩
  have P6 : Below w1.heap.size w1 w6 := HP5.out.trans (hb6.mono HP5.out.size)
  clear hb6 HM6 HP5
  have hw6 := HWX.out _ P6
  have hm7 := m2 (HA.out _ hw6) hy6 (by have := HL.out; omega)
  rw [HE.out.2.2.1] at hm7
  have HM7 : Hid _ := hm7
  have HP6 : Hid _ := P6
  clear hm7 hw6 P6 hy6
  go_wp2_with fail
  refine (show Calls _ _ _ _ _ from HM7.out).mono ?_
  rintro e w7 ⟨ao7, c7, rfl, hy7, hb7⟩
  have P7 : Below w1.heap.size w1 w7 := HP6.out.trans (hb7.mono HP6.out.size)
  clear hb7 HM7 HP6
  have HS8 : Hid _ := sm hy7 (HY1.out _ P7) (by have := HL.out; omega)
  have HP7 : Hid _ := P7
  clear P7 hy7
  go_wp2_with fail
  refine (show Calls _ _ _ _ _ from HS8.out).mono ?_
  rintro e w8 ⟨rfl, hb8⟩
  have P8 : Below w1.heap.size w1 w8 := HP7.out.trans (hb8.mono HP7.out.size)
  clear hb8 HS8 HP7
  have hw8 := HWX.out _ P8
  have hm9 := m2 (HY1.out _ P8) (HY1.out _ P8) (by have := HL.out; omega)
  rw [HE.out.2.2.2] at hm9
  have HM9 : Hid _ := hm9
  have HP8 : Hid _ := P8
  clear hm9 hw8 P8
  go_wp2_with fail
  refine (show Calls _ _ _ _ _ from HM9.out).mono ?_
  rintro e w9 ⟨ao9, c9, rfl, hy9, hb9⟩
  have P9 : Below w1.heap.size w1 w9 := HP8.out.trans (hb9.mono HP8.out.size)
  clear hb9 HM9 HP8
  have HS10 : Hid _ := sm hy9 (HY1.out _ P9) (by have := HL.out; omega)
  have HP9 : Hid _ := P9
  clear P9 hy9
  go_wp2_with fail
  refine (show Calls _ _ _ _ _ from HS10.out).mono ?_
  rintro e w10 ⟨rfl, hb10⟩
  have P10 : Below w1.heap.size w1 w10 := HP9.out.trans (hb10.mono HP9.out.size)
  clear hb10 HS10 HP9
  have hw10 := HWX.out _ P10
  have hm11 := m2 (HA.out _ hw10) (HA.out _ hw10) (by have := HL.out; omega)
  rw [merged_twice] at hm11
  have HM11 : Hid _ := hm11
  have HP10 : Hid _ := P10
  clear hm11 hw10 P10
  go_wp2_with fail
  refine (show Calls _ _ _ _ _ from HM11.out).mono ?_
  rintro e w11 ⟨ao11, c11, rfl, hy11, hb11⟩
  have P11 : Below w1.heap.size w1 w11 := HP10.out.trans (hb11.mono HP10.out.size)
  clear hb11 HM11 HP10
  have hw11 := HWX.out _ P11
  have hm12 := m1 (HA.out _ hw11) (by have := HL.out; omega)
  have HM12 : Hid _ := hm12
  have HP11 : Hid _ := P11
  have HY11 : Hid (∀ X, Below w11.heap.size w11 X → Lies X ao11 c11 _) := fun X hX => hy11.later hX
  clear hm12 hw11 P11 hy11
  go_wp2_with fail
  refine (show Calls _ _ _ _ _ from HM12.out).mono ?_
  rintro e w12 ⟨ao12, c12, rfl, hy12, hb12⟩
  have P12 : Below w1.heap.size w1 w12 := HP11.out.trans (hb12.mono HP11.out.size)
  have hy11' := HY11.out w12 hb12
  clear hb12 HM12 HP11 HY11
  have HS13 : Hid _ := sm hy11' hy12 (by have := HM.out; omega)
  have HP12 : Hid _ := P12
  clear P12 hy12 hy11'
  go_wp2_with fail
  refine (show Calls _ _ _ _ _ from HS13.out).mono ?_
  rintro e w13 ⟨rfl, hb13⟩
  have P13 : Below w1.heap.size w1 w13 := HP12.out.trans (hb13.mono HP12.out.size)
  clear hb13 HS13 HP12
  have HF : Hid _ := HWX.out _ P13
  clear P13
  go_wp2
  go_ret
  exact ⟨rfl, HF.out⟩
end Go.Proofs.Ytdaibmafnamfgaa.Mg
