/-
  The walk of MergeTrims.
-/
import Derived.Test.YtdaibmafnamfgaaMergeLies
namespace Go.Proofs.Ytdaibmafnamfgaa.Mg
open Go.RowKit Go.Shelf Cm Mm
set_option linter.unusedVariables false

def intShape : Shape Int := ⟨1, fun z => [.int .i64 z], by decide, fun _ => rfl, fun s u hu => by simp at hu; subst hu; rfl⟩
theorem int_vals (zs : List Int) : intShape.vals zs = zs.map (Value.int .i64) := by
  induction zs with
  | nil => rfl
  | cons z zs ih => rw [Shape.vals_cons, ih]; rfl
theorem int_elems {w : World} {ao : Option Addr} {zs : List Int} (h : CellsAt w ao (zs.map (Value.int .i64))) : ElemsAt intShape w ao zs := by
  rcases h with h | ⟨b, off, rfl, hb, hc⟩
  · exact .inl (by simpa using h)
  · refine .inr ⟨b, off, rfl, hb, fun i hi j u hu => ?_⟩
    have hj : j < intShape.sz := by rw [← intShape.len zs[i]]; exact (List.getElem?_eq_some_iff.1 hu).1
    have hj1 : j < 1 := hj
    obtain rfl : j = 0 := by omega
    have := hc i (by simpa using hi)
    rw [List.getElem?_map, List.getElem?_eq_getElem hi] at this
    have e : off + i * intShape.sz + 0 = off + i := by show off + i * 1 + 0 = off + i; omega
    rw [e, this]
    simpa [intShape] using hu
theorem int_two (w : World) (x y : Int) : ElemsAt intShape (w.alloc (.cells #[.int .i64 x, .int .i64 y] 3)) (some ⟨w.heap.size, 0, none⟩) [x, y] := by
  refine .inr ⟨w.heap.size, 0, rfl, by simp, fun i hi j u hu => ?_⟩
  have hj : j < intShape.sz := by rw [← intShape.len [x, y][i]]; exact (List.getElem?_eq_some_iff.1 hu).1
  have hj1 : j < 1 := hj
  obtain rfl : j = 0 := by omega
  rw [Joins.cell_of_block (show (w.alloc (.cells #[.int .i64 x, .int .i64 y] 3)).heap[w.heap.size]? = some (.cells #[.int .i64 x, .int .i64 y] 3 (0, 0)) from heap_alloc_new w _)]
  rcases (show i = 0 ∨ i = 1 by simp at hi; omega) with rfl | rfl <;> simpa [intShape] using hu
def topOf (l : List En) : Int := l.foldl (fun t x => max t x.seq) 0
theorem top_next {l : List En} {i : Nat} (h : i < l.length) : topOf (l.take (i + 1)) = max (topOf (l.take i)) (l.getD i En.zero).seq := by
  unfold topOf
  rw [take_next h, List.foldl_append, List.foldl_cons, List.foldl_nil]
theorem top_ge : ∀ (l : List En) (t : Int), t ≤ l.foldl (fun t x => max t x.seq) t ∧ ∀ x ∈ l, x.seq ≤ l.foldl (fun t x => max t x.seq) t
  | [], t => ⟨Int.le_refl _, fun x hx => by cases hx⟩
  | y :: l, t => by
    obtain ⟨h1, h2⟩ := top_ge l (max t y.seq)
    refine ⟨by rw [List.foldl_cons]; omega, fun x hx => ?_⟩
    rw [List.foldl_cons]
    rcases List.mem_cons.1 hx with rfl | hx
    · omega
    · exact h2 x hx
theorem top_all {l : List En} {at_ : Int} (h : topOf l ≤ at_) : ∀ x ∈ merged l, x.seq ≤ at_ := fun x hx => by
  have := (top_ge l 0).2 x (merged_sub l x hx)
  unfold topOf at h
  omega
theorem info1 : (Try.prog.info? 3).map (fun i => (i.zero, i.size, i.bytes)) = some (some (.int .i64 0), 1, 8) := by kernel_rfl
theorem vm {X : World} {ao : Option Addr} {c : Nat} {l : List En} (n : Int) (hx : Lies X ao c l) (hl : l.length ≤ 1000000000000) :
    Calls Try.prog 16 #[.slice ao l.length c, .int .i64 n] X (MLies X (view n (merged l))) :=
  (view_any ao c l n X hx.elems hx.nil hl).mono fun e w' h => MLies.of h (Below.refl _ _)
theorem tm {X : World} {ao so : Option Addr} {c sc : Nat} {l : List En} {seen : List Int} (b : Bool) (hx : Lies X ao c l) (hl : l.length ≤ 1000000000000) (hs : CellsAt X so (seen.map (Value.int .i64))) (hsl : seen.length ≤ 1000000000000) :
    Calls Try.prog 14 #[.slice ao l.length c, .bool b, .slice so seen.length sc] X (MLies X (trim b seen (merged l))) :=
  (trim_any b ao c l so sc seen X hx.elems hx.nil hl hs hsl).mono fun e w' h => MLies.of h (Below.refl _ _)
theorem view_len (n : Int) (l : List En) : (view n l).length ≤ l.length := by
  have : ∀ (l : List En) (p : Option ByteArray), (vw n p l).length ≤ l.length := by
    intro l
    induction l with
    | nil => intro p; exact Nat.le_refl _
    | cons x l ih =>
      intro p
      show (if _ then _ else _ : List En).length ≤ _
      split
      · have := ih (some x.key)
        rw [List.length_append, List.length_cons]
        split <;> simp <;> omega
      · have := ih p
        rw [List.length_cons]; omega
  exact this l none

set_option maxRecDepth 100000 in
set_option maxHeartbeats 2000000 in
theorem trims_any (ao so : Option Addr) (ca sc : Nat) (l : List En) (seen : List Int) (b : Bool) (w : World) (ha : ElemsAt enShape w ao l) (na : ao = none → ca = 0) (hs : CellsAt w so (seen.map (Value.int .i64))) (ns : so = none → sc = 0) (hl : l.length ≤ 1048576) (hsl : seen.length ≤ 1048576) :
    Calls Try.prog 6 #[.slice ao l.length ca, .slice so seen.length sc, .bool b] w fun e w' => e = .returned (.bool true) ∧ Below w.heap.size w w' := by
  obtain ⟨i0, hi, hz0, hz1, hz2⟩ := info_parts info1
  obtain ⟨m, hm⟩ : ∃ m, m = l.length := ⟨_, rfl⟩
  have HMq : Hid _ := hm
  have HA : Hid (∀ X, Below w.heap.size w X → Lies X ao ca l) := fun X hX => ⟨ha.later hX, na⟩
  have HS : Hid (∀ X, Below w.heap.size w X → CellsAt X so (seen.map (Value.int .i64))) := fun X hX => hs.keep (fun b hb => hX.block b hb) hX.size
  have HNS : Hid _ := ns
  have HL : Hid (l.length ≤ 1048576 ∧ seen.length ≤ 1048576) := ⟨hl, hsl⟩
  obtain ⟨T, hT⟩ : ∃ T, T = trim b seen (merged l) := ⟨_, rfl⟩
  have hTl : T.length ≤ l.length := by
    rw [hT]; exact Nat.le_trans (trim_sub b seen (merged l)).length_le (merged_len l)
  have HTL : Hid (T.length ≤ l.length) := hTl
  have hTs : Sorted T := by rw [hT]; exact trim_sorted b seen (merged_sorted l)
  have HTM : Hid (merged T = T) := merged_self hTs
  have HTT : Hid (trim b seen T = T) := by rw [hT]; exact trim_trim b seen (merged_sorted l)
  have HTV : Hid (∀ n, (n ∈ seen ∨ topOf l ≤ n) → view n T = view n (merged l)) := fun n h => by
    rw [hT]
    exact view_trim b (merged_sorted l) (by
      rcases h with h | h
      · exact .inl h
      · exact .inr (top_all h))
  have HTq : Hid _ := hT
  clear ha na hs ns hT hTl hTs
  go_enter Try.func6, Try.ntmps6
  go_wp2_with fail
  refine (lives_any _).mono ?_
  rintro e w0 ⟨rfl, hb0⟩
  have H0 : Hid _ := hb0
  have hm1 := tm (sc := sc) b (HA.out w0 hb0) (by omega) (HS.out w0 hb0) (by omega)
  rw [← HTq.out] at hm1
  have HM1 : Hid _ := hm1
  clear hb0 hm1 hl hsl
  go_wp2_with fail
  refine (show Calls _ _ _ _ _ from HM1.out).mono ?_
  rintro e w1 ⟨ao1, c1, rfl, hy1, hb1⟩
  have HW1 : Hid (Below w.heap.size w w1) := H0.out.trans (hb1.mono H0.out.size)
  have HWX : Hid (∀ X, Below w1.heap.size w1 X → Below w.heap.size w X) := fun X hX => HW1.out.trans (hX.mono HW1.out.size)
  have HY1 : Hid (∀ X, Below w1.heap.size w1 X → Lies X ao1 c1 T) := fun X hX => hy1.later hX
  clear hy1 hb1 HM1 H0 HTq
  have hml : m ≤ 1048576 := by have := HL.out; omega
  rw [← hm]
  clear hm
  go_wp2
  go_loopw [8, 21] (fun vt vi wr => ∃ i : Nat, vi = .int .i64 i ∧ i ≤ m ∧ vt = .int .i64 (topOf (l.take i)) ∧ Hid (Below w1.heap.size w1 wr)) (fun _ vi _ => m - (intOf vi).toNat)
  case atStart => exact ⟨0, rfl, by omega, rfl, Below.refl _ _⟩
  case round =>
    obtain ⟨i, rfl, him, rfl, HB⟩ := hrel
    by_cases hlt : i < m
    · have hlt' : (i : Int) < (m : Int) := by omega
      have hil : i < l.length := by have := HMq.out; omega
      obtain ⟨pb, off, rfl, k0, k1, k2, k3⟩ := elem_cells (HA.out wr (HWX.out wr HB.out)).elems (k := i) hil
      have HN : Hid _ := top_next hil
      have HBn : Hid (Below w1.heap.size w1 (wr.alloc (entObj (l.getD i En.zero)))) := HB.out.alloc HB.out.size _
      unfold entObj at HBn
      generalize l.getD i En.zero = x at *
      generalize topOf (l.take i) = t at *
      clear hil
      go_wp2
      go_roundw
      case rel => exact ⟨i + 1, by go_num, by omega, by rw [HN.out], HBn⟩
      case measure => simp [intOf]; omega
    · have hlm : i = m := by omega
      subst hlm
      have hlt' : ¬ (i : Int) < (i : Int) := by omega
      have HTop : Hid (topOf (l.take i) = topOf l) := by rw [HMq.out, List.take_length]; exact hid_rfl
      rw [HTop.out]
      clear HTop hlt him
      generalize hq : topOf l = top at *
      clear hq
      obtain ⟨sl, hsl⟩ : ∃ sl, sl = seen.length := ⟨_, rfl⟩
      have HSL : Hid _ := hsl
      have hsl2 : sl ≤ 1048576 := by have := HL.out; omega
      have he0 := own_emptyT wr 3 1 wr.heap.size (Nat.le_refl _)
      have hbe : Below w1.heap.size w1 (wr.alloc (.cells #[] 3)) := HB.out.alloc HB.out.size _
      have hse := int_elems (HS.out _ (HWX.out _ hbe))
      have HBE : Hid _ := hbe
      have HNS2 : Hid _ := HNS.out
      have hns := HNS.out
      rw [← hsl]
      clear hbe hsl
      go_wp2_with (at_builtin; refine wpList_append_rows (F := intShape) _ rfl _ _ 32 rfl wr.heap.size 3 i0 _ 8 Try.underlying32 hi hz0 hz1 hz2 rfl _ 0 [] rfl he0 so sl sc seen rfl hns HSL.out.symm hse ?c1 ?c2 ?c3 ?_)
      case c1 => unfold maxLen; omega
      case c2 => omega
      intro v5 w5 hown5 hgrow5 hat5
      have HB5 : Hid (Below w1.heap.size w1 w5) := HBE.out.grown hgrow5 HBE.out.size (fun k hk => by simp [Value.ownBlock] at hk; have := HB.out.size; omega)
      have HO5 : Hid (w5.ownsRow wr.heap.size 3 intShape.sz v5 sl (intShape.vals seen)) := hown5
      have HT2 : Hid _ := int_two w5 top 4611686018427387904
      have hbs5 : wr.heap.size ≤ w5.heap.size := by have := hgrow5.size; simp at this; omega
      clear hown5 hgrow5 hat5 he0 hse hns HBE
      go_wp2_with (at_builtin; refine wpList_append_rows (F := intShape) _ rfl _ _ 32 rfl wr.heap.size 3 i0 _ 8 Try.underlying32 hi hz0 hz1 hz2 rfl v5 sl seen rfl (World.ownsRow.alloc HO5.out _) (some ⟨w5.heap.size, 0, none⟩) 2 2 [top, 4611686018427387904] rfl (by simp) rfl HT2.out ?d1 ?d2 ?d3 ?_)
      case d1 => unfold maxLen; omega
      case d2 => omega
      case d3 => simp; omega
      intro v6 w6 hown6 hgrow6 hat6
      have HB6 : Hid (Below w1.heap.size w1 w6) := (HB5.out.alloc HB5.out.size _).grown hgrow6 (by have := HB5.out.size; simp; omega) (fun k hk => by have := (World.ownsRow.lt HO5.out k hk).1; have := HB.out.size; omega)
      obtain ⟨g, cap, rfl, _, hglt, hgle⟩ := own_formK (k := 1) hown6 (by omega)
      have hnl : (seen ++ [top, 4611686018427387904]).length = sl + 2 := by have := HSL.out; simp; omega
      have hcells : ∀ k, k < sl + 2 → w6.cell? ⟨g, k, none⟩ = some (.int .i64 ((seen ++ [top, 4611686018427387904]).getD k 0)) := fun k hk => by
        have := hown6.cells (g := g) rfl k (.int .i64 ((seen ++ [top, 4611686018427387904]).getD k 0)) (by rw [int_vals, List.getElem?_map, List.getD_eq_getElem?_getD, List.getElem?_eq_getElem (by omega)]; rfl)
        rw [Go.WideShapes.add_plain, Nat.zero_add] at this
        exact this
      have HC6 : Hid (∀ X, Below w6.heap.size w6 X → ∀ k, k < sl + 2 → X.cell? ⟨g, k, none⟩ = some (.int .i64 ((seen ++ [top, 4611686018427387904]).getD k 0))) := fun X hX k hk => (World.cell?_of_block (hX.block g hglt)).trans (hcells k hk)
      have HMEM : Hid (∀ k, k < sl + 2 → (seen ++ [top, 4611686018427387904]).getD k 0 ∈ seen ∨ (seen ++ [top, 4611686018427387904]).getD k 0 = top ∨ (seen ++ [top, 4611686018427387904]).getD k 0 = 4611686018427387904) := fun k hk => by
        have : (seen ++ [top, 4611686018427387904]).getD k 0 ∈ seen ++ [top, 4611686018427387904] := by
          rw [List.getD_eq_getElem?_getD, List.getElem?_eq_getElem (by omega)]; exact List.getElem_mem _
        simpa using this
      have H61 : Hid (∀ X, Below w6.heap.size w6 X → Below w1.heap.size w1 X) := fun X hX => HB6.out.trans (hX.mono HB6.out.size)
      generalize seen ++ [top, 4611686018427387904] = nums at *
      clear hown6 hgrow6 hat6 HO5 HB5 HT2 hcells hnl hglt HB6 hbs5 HB
      generalize wr = X0 at *
      go_wp2
      go_loopw [37] (fun vi wr => ∃ k : Nat, vi = .int .i64 k ∧ k ≤ sl + 2 ∧ Hid (Below w6.heap.size w6 wr)) (fun vi _ => sl + 2 - (intOf vi).toNat)
      case atStart => exact ⟨0, rfl, by omega, Below.refl _ _⟩
      case round =>
        obtain ⟨k, rfl, hk, HB⟩ := hrel
        by_cases hlt : k < sl + 2
        · have hlt' : (k : Int) < (sl : Int) + 2 := by omega
          have hcn := HC6.out wr HB.out k hlt
          have hmem := HMEM.out k hlt
          generalize nums.getD k 0 = n at *
          have HME : Hid _ := hmem
          clear hmem
          by_cases hc : n = 4611686018427387904 ∧ n < top
          · have hb1 : (n == 4611686018427387904) = true := by simp [hc.1]
            have hb2 : decide (n < top) = true := decide_eq_true hc.2
            clear hc HME
            go_wp2
            go_roundw
            case rel => exact ⟨k + 1, by go_num, by omega, HB⟩
            case measure => simp [intOf]; omega
          · have HV : Hid (view n T = view n (merged l)) := HTV.out n (by
              rcases HME.out with h | h | h
              · exact .inl h
              · exact .inr (by omega)
              · exact .inr (by
                  by_cases h2 : n < top
                  · exact absurd ⟨h, h2⟩ hc
                  · omega))
            by_cases he : n = 4611686018427387904
            · have hb1 : (n == 4611686018427387904) = true := by simp [he]
              have hnt : ¬ n < top := fun h => hc ⟨he, h⟩
              have hb2 : decide (n < top) = false := decide_eq_false hnt
              clear hc he HME
              have hw3 := HWX.out _ (H61.out _ HB.out)
              have hm2 := vm n (HY1.out _ (H61.out _ HB.out)) (by have := HTL.out; have := HL.out; omega)
              rw [HTM.out, HV.out] at hm2
              have HM2 : Hid _ := hm2
              clear hm2 hw3
              go_wp2_with fail
              refine (show Calls _ _ _ _ _ from HM2.out).mono ?_
              rintro e w7 ⟨ao7, c7, rfl, hy7, hb7⟩
              have HB7 : Hid (Below w6.heap.size w6 w7) := HB.out.trans (hb7.mono HB.out.size)
              have HY7 : Hid (∀ X, Below w7.heap.size w7 X → Lies X ao7 c7 _) := fun X hX => hy7.later hX
              have HM3 : Hid _ := vm n (HA.out _ (HWX.out _ (H61.out _ HB7.out))) (by have := HL.out; omega)
              rw [← HMq.out] at HM3
              clear hy7 hb7 HM2 HB
              go_wp2_with fail
              refine (show Calls _ _ _ _ _ from HM3.out).mono ?_
              rintro e w8 ⟨ao8, c8, rfl, hy8, hb8⟩
              have HB8 : Hid (Below w6.heap.size w6 w8) := HB7.out.trans (hb8.mono HB7.out.size)
              have HS8 : Hid _ := sm (HY7.out w8 hb8) hy8 (by have h1 := view_len n (merged l); have h2 := merged_len l; have := HL.out; omega)
              clear hy8 hb8 HM3 HB7 HY7
              go_wp2_with fail
              refine (show Calls _ _ _ _ _ from HS8.out).mono ?_
              rintro e w9 ⟨rfl, hb9⟩
              have HB9 : Hid (Below w6.heap.size w6 w9) := HB8.out.trans (hb9.mono HB8.out.size)
              clear hb9 HS8 HB8
              go_wp2
              go_roundw
              case rel => exact ⟨k + 1, by go_num, by omega, HB9⟩
              case measure => simp [intOf]; omega
            · have hb1 : (n == 4611686018427387904) = false := by simp [he]
              clear hc he HME
              have hw3 := HWX.out _ (H61.out _ HB.out)
              have hm2 := vm n (HY1.out _ (H61.out _ HB.out)) (by have := HTL.out; have := HL.out; omega)
              rw [HTM.out, HV.out] at hm2
              have HM2 : Hid _ := hm2
              clear hm2 hw3
              go_wp2_with fail
              refine (show Calls _ _ _ _ _ from HM2.out).mono ?_
              rintro e w7 ⟨ao7, c7, rfl, hy7, hb7⟩
              have HB7 : Hid (Below w6.heap.size w6 w7) := HB.out.trans (hb7.mono HB.out.size)
              have HY7 : Hid (∀ X, Below w7.heap.size w7 X → Lies X ao7 c7 _) := fun X hX => hy7.later hX
              have HM3 : Hid _ := vm n (HA.out _ (HWX.out _ (H61.out _ HB7.out))) (by have := HL.out; omega)
              rw [← HMq.out] at HM3
              clear hy7 hb7 HM2 HB
              go_wp2_with fail
              refine (show Calls _ _ _ _ _ from HM3.out).mono ?_
              rintro e w8 ⟨ao8, c8, rfl, hy8, hb8⟩
              have HB8 : Hid (Below w6.heap.size w6 w8) := HB7.out.trans (hb8.mono HB7.out.size)
              have HS8 : Hid _ := sm (HY7.out w8 hb8) hy8 (by have h1 := view_len n (merged l); have h2 := merged_len l; have := HL.out; omega)
              clear hy8 hb8 HM3 HB7 HY7
              go_wp2_with fail
              refine (show Calls _ _ _ _ _ from HS8.out).mono ?_
              rintro e w9 ⟨rfl, hb9⟩
              have HB9 : Hid (Below w6.heap.size w6 w9) := HB8.out.trans (hb9.mono HB8.out.size)
              clear hb9 HS8 HB8
              go_wp2
              go_roundw
              case rel => exact ⟨k + 1, by go_num, by omega, HB9⟩
              case measure => simp [intOf]; omega
        · have hkn : k = sl + 2 := by omega
          have hlt' : ¬ (k : Int) < (sl : Int) + 2 := by omega
          have hw := H61.out _ HB.out
          have hm2 := tm (sc := sc) b (HY1.out _ hw) (by have := HTL.out; have := HL.out; omega) (HS.out _ (HWX.out _ hw)) (by have := HL.out; omega)
          rw [HTM.out, HTT.out, ← HSL.out] at hm2
          have HM2 : Hid _ := hm2
          have HWW : Hid _ := hw
          have hti : (T.length : Int) ≤ (i : Int) := by have := HTL.out; have := HMq.out; omega
          clear hm2 hw hlt hkn HB
          go_wp2_with fail
          refine (show Calls _ _ _ _ _ from HM2.out).mono ?_
          rintro e w7 ⟨ao7, c7, rfl, hy7, hb7⟩
          have HB7 : Hid (Below w1.heap.size w1 w7) := HWW.out.trans (hb7.mono HWW.out.size)
          have HS8 : Hid _ := sm hy7 (HY1.out w7 HB7.out) (by have := HTL.out; have := HL.out; omega)
          clear hy7 hb7 HM2 HWW
          go_wp2_with fail
          refine (show Calls _ _ _ _ _ from HS8.out).mono ?_
          rintro e w8 ⟨rfl, hb8⟩
          have HB8 : Hid (Below w.heap.size w w8) := HWX.out _ (HB7.out.trans (hb8.mono HB7.out.size))
          clear hb8 HS8 HB7
          go_wp2
          go_ret
          exact ⟨rfl, HB8.out⟩
end Go.Proofs.Ytdaibmafnamfgaa.Mg
