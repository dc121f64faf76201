/-
  The walk of the statement BlockBytes.
-/
import Derived.Test.YtjiajnmpdlaidaaBlockBackWalk
import Derived.Test.YtjiajnmpdlaidaaBlockRefDecWalk
namespace Go.Proofs.Ytjiajnmpdlaidaa.Bk
open Go.RowKit Cm Mm
set_option linter.unusedVariables false

def spare : En := ⟨⟨#[115, 112, 97, 114, 101]⟩, 0, false, ⟨#[]⟩⟩
/-- Both readers answer alike. -/
theorem drew_below {w X : World} {n : Nat} (h : Below w.heap.size w X) : Below w.heap.size w (X.drewN n) := ⟨h.os, h.tape, h.output, h.size, h.block⟩
set_option maxRecDepth 100000 in
set_option maxHeartbeats 1000000 in
theorem blockBytes_walk (ao : Option Addr) (ca : Nat) (es : List En) (T O : ByteArray) (w : World) (hx : ElemsAt enShape w ao es) (hnil : ao = none → ca = 0) (hok : AllOk es) (hsz : es.length + bytesE es ≤ 1048576) (hT : T.size ≤ 1048576) (hO : O.size ≤ 1048576) :
    Calls Try.prog 3 #[.slice ao es.length ca, .string T, .string O] w fun e w' => e = .returned (.bool true) ∧ Below w.heap.size w w' := by
  obtain ⟨hS, hbl⟩ := small_sized hsz
  obtain ⟨i0, hi, hz0, hz1, hz2⟩ := info_parts infoEn
  have HXe : Hid (∀ X, Below w.heap.size w X → ElemsAt enShape X ao es) := fun X hX => hx.later hX
  have HER : Hid (∀ X, Below w.heap.size w X → Calls Try.prog 8 #[.slice ao es.length ca] X fun e w' => e = .returned (encV es) ∧ Below X.heap.size X w') := fun X hX => encodeR_any ao ca es X (hx.later hX) hok hS
  have HOK : Hid (AllOk es ∧ Sized es) := ⟨hok, hS⟩
  have hlen : es.length ≤ 1048576 := by omega
  clear hx hok hS hsz hbl
  go_enter Try.func3, Try.ntmps3
  go_wp2_with fail
  refine (lives_any _).mono ?_
  rintro e w1 ⟨rfl, hb1⟩
  have hs1 := hb1.size
  have he0 := own_emptyT w1 25 4 w1.heap.size (Nat.le_refl _)
  have hx1 := HXe.out (w1.alloc (.cells #[] 25)) (hb1.alloc hs1 _)
  have HB1 : Hid _ := hb1
  clear hb1
  go_wp2_with (at_builtin; refine wpList_append_rows (F := enShape) _ rfl _ _ 22 rfl w1.heap.size 25 i0 _ 48 Try.underlying22 hi hz0 hz1 hz2 rfl _ 0 [] rfl he0 ao es.length ca es rfl hnil rfl hx1 ?c1 ?c2 ?c3 ?_)
  case c1 => unfold maxLen; omega
  case c2 => omega
  case c3 => simp
  intro v2 w2 hown2 hgrow2 hat2
  have hb2 : Below w.heap.size w w2 := (HB1.out.alloc hs1 _).grown hgrow2 (by simp; omega) (fun k hk => by simp [Value.ownBlock] at hk; omega)
  have hown2' : w2.ownsRow w1.heap.size 25 4 v2 es.length (enShape.vals es) := by
    show w2.ownsRow w1.heap.size 25 enShape.sz v2 es.length (enShape.vals es)
    simpa using hown2
  have hsz2 : w1.heap.size ≤ w2.heap.size := by have := hgrow2.size; simp at this; omega
  have helm : ElemsAt enShape (w2.alloc (entObj spare)) (some ⟨w2.heap.size, 0, none⟩) [spare] := elems1 spare
  unfold entObj at helm
  have HO2 : Hid _ := hown2'
  have HB2 : Hid _ := hb2
  clear hown2 hgrow2 hat2 he0 hx1 hown2' hb2
  go_wp2_with (at_builtin; refine wpList_append_rows (F := enShape) _ rfl _ _ 22 rfl w1.heap.size 25 i0 _ 48 Try.underlying22 hi hz0 hz1 hz2 rfl v2 es.length es rfl (World.ownsRow.alloc HO2.out _) (some ⟨w2.heap.size, 0, none⟩) 1 1 [spare] rfl (by simp) rfl helm ?d1 ?d2 ?d3 ?_)
  case d1 => unfold maxLen; omega
  case d2 => omega
  case d3 => simp; omega
  intro v3 w3 hown3 hgrow3 hat3
  have hb3 : Below w.heap.size w w3 := (HB2.out.alloc HB2.out.size _).grown hgrow3 (by have := HB2.out.size; simp; omega) (fun k hk => by have := (World.ownsRow.lt HO2.out k hk).1; omega)
  have hel3 : ∃ ao3 c3, v3 = .slice ao3 (es.length + 1) c3 ∧ es.length + 1 ≤ c3 ∧ ElemsAt enShape w3 ao3 (es ++ [spare]) := by
    have h3' : w3.ownsRow w1.heap.size 25 enShape.sz v3 (es ++ [spare]).length (enShape.vals (es ++ [spare])) := by rw [List.length_append]; exact hown3
    obtain ⟨ao3, c3, rfl, _, _, q3, q4⟩ := own_rows (F := enShape) h3'
    rw [List.length_append] at q3 ⊢
    exact ⟨ao3, c3, rfl, q3, q4⟩
  obtain ⟨g, cap, rfl, _, _, hle⟩ := own_formK hown3 (by omega)
  obtain ⟨_, _, e3, _, hel⟩ := hel3
  cases e3
  have HG : Hid (∀ X, Below w3.heap.size w3 X → ElemsAt enShape X (some ⟨g, 0, none⟩) (es ++ [spare])) := fun X hX => hel.later hX
  have HE4 : Hid _ := encode_any (some ⟨g, 0, none⟩) cap es w3 (by have := elems_take hel es.length; rwa [List.take_left] at this) HOK.out.1 HOK.out.2
  have HB3 : Hid _ := hb3
  have hk0 : (0 : Int) ≤ (es.length : Int) := by omega
  have hk1 : (es.length : Int) ≤ (cap : Int) := by omega
  have hk2 : (es.length : Int) < (es.length : Int) + 1 := by omega
  clear hown3 hgrow3 hat3 hel helm HO2 HB2 HB1 hb3 hi hz0 hz1 hz2
  go_wp2_with fail
  refine (show Calls _ _ _ _ _ from HE4.out).mono ?_
  rintro e w4 ⟨rfl, hb4⟩
  have HB4 : Hid (Below w.heap.size w w4) := HB3.out.trans (hb4.mono HB3.out.size)
  have HE5 := HER.out w4 HB4.out
  have HG4 : Hid (∀ X, Below w4.heap.size w4 X → ElemsAt enShape X (some ⟨g, 0, none⟩) (es ++ [spare])) := fun X hX => HG.out X (hb4.trans (hX.mono hb4.size))
  clear hb4 HE4 HG HER HB3 HOK
  unfold encV at HE5 ⊢
  by_cases hr : right es = true
  · rw [if_pos hr] at HE5 ⊢
    clear hr
    have hSS : ((⟨(block es).toArray⟩ : ByteArray).toList == (⟨(block es).toArray⟩ : ByteArray).toList) = true := by simp
    generalize (⟨(block es).toArray⟩ : ByteArray) = S at *
    go_wp2_with fail
    refine HE5.mono ?_
    rintro e w5 ⟨rfl, hb5⟩
    have HB5 : Hid (Below w.heap.size w w5) := HB4.out.trans (hb5.mono HB4.out.size)
    have HW5 : Hid (Below w4.heap.size w4 w5) := hb5
    clear hb5 HE5 HB4
    have hel5 := HG4.out w5 HW5.out
    obtain ⟨pb, off, epb, k0, _⟩ := elem_cells hel5 (k := es.length) (by simp)
    cases epb
    have hsp : (es ++ [spare]).getD es.length En.zero = spare := by simp
    rw [hsp] at k0
    unfold spare at k0
    rw [Nat.zero_add] at k0
    have hsm := same_any (some ⟨g, 0, none⟩) ao cap ca es w5 (by have := elems_take hel5 es.length; rwa [List.take_left] at this) (HXe.out w5 HB5.out) (by omega)
    clear hel5 hsp
    go_wp2_with fail
    refine hsm.mono ?_
    rintro e w6 ⟨rfl, n6, rfl⟩
    have HB6 : Hid (Below w.heap.size w (w5.drewN n6)) := drew_below HB5.out
    have k1 : (w5.drewN n6).cell? ⟨g, es.length * 4, none⟩ = some (.string ⟨#[115, 112, 97, 114, 101]⟩) := k0
    generalize w5.drewN n6 = X at *
    clear hsm HB5 HW5 k0
    go_wp2_with fail
    refine (decode_any T _ (by omega)).mono ?_
    intro e X1 hA
    have hB7 : Below w.heap.size w X1 := by
      rcases hA with ⟨_, _, _, _, _, hB⟩ | ⟨_, _, hB⟩ <;> exact HB6.out.trans (hB.mono HB6.out.size)
    have HR := decodeR_any T X1 hT
    rcases hA with ⟨e1, v1, hI1, rfl, ho1, _⟩ | ⟨hno1, rfl, _⟩
    · obtain ⟨a1, c1, rfl, _, _, _, _⟩ := own_rows (F := enShape) ho1
      have HO1 : Hid _ := ho1
      have HI1 : Hid _ := hI1
      have HB7 : Hid _ := hB7
      clear ho1 hI1 hB7 HB6
      go_wp2_with fail
      refine HR.mono ?_
      rintro e X2 (⟨e2, v2', hI2, rfl, ho2, hB8⟩ | ⟨hno2, _⟩)
      · obtain rfl := hI2.unique HI1.out
        obtain ⟨a2, c2, rfl, _, _, _, hel2⟩ := own_rows (F := enShape) ho2
        have HB8 : Hid (Below w.heap.size w X2) := HB7.out.trans (hB8.mono HB7.out.size)
        have hel1 : ElemsAt enShape X2 a1 e2 := by
          obtain ⟨_, _, e4, _, _, _, q⟩ := own_rows (F := enShape) (show World.ownsRow _ _ _ _ _ _ _ from HO1.out)
          cases e4
          exact q.later hB8
        have hle2 := (hI2.great).1
        rw [bs_len] at hle2
        have hsm2 := same_any a1 a2 c1 c2 e2 X2 hel1 hel2 (by omega)
        clear hI2 ho2 hB8 hel1 hel2 HO1 HI1 HB7 HR
        go_wp2_with fail
        refine hsm2.mono ?_
        rintro e w9 ⟨rfl, n9, rfl⟩
        have HB9 : Hid (Below w.heap.size w (X2.drewN n9)) := drew_below HB8.out
        generalize X2.drewN n9 = X3 at *
        clear hsm2 HB8
        go_wp2_with (first | (go_at_call 12; refine (shared_any T O _ (by omega) (by omega)).mono ?_; rintro e wS ⟨rfl, nS, rfl⟩) | (go_at_call 13; refine (sharedR_any T O _ (by omega) (by omega)).mono ?_; rintro e wR ⟨rfl, nR, rfl⟩))
        go_ret
        exact ⟨rfl, drew_below HB9.out⟩
      · exact absurd HI1.out (hno2 e1)
    · have HB7 : Hid _ := hB7
      have HN1 : Hid _ := hno1
      clear hno1 hB7 HB6
      go_wp2_with fail
      refine HR.mono ?_
      rintro e X2 (⟨e2, v2', hI2, _⟩ | ⟨_, rfl, hB8⟩)
      · exact absurd hI2 (HN1.out e2)
      · have HB8 : Hid (Below w.heap.size w X2) := HB7.out.trans (hB8.mono HB7.out.size)
        have hsm2 := same_any none none 0 0 [] X2 (.inl rfl) (.inl rfl) (by simp)
        clear hB8 HN1 HB7 HR
        go_wp2_with fail
        refine hsm2.mono ?_
        rintro e w9 ⟨rfl, n9, rfl⟩
        have HB9 : Hid (Below w.heap.size w (X2.drewN n9)) := drew_below HB8.out
        generalize X2.drewN n9 = X3 at *
        clear hsm2 HB8
        go_wp2_with (first | (go_at_call 12; refine (shared_any T O _ (by omega) (by omega)).mono ?_; rintro e wS ⟨rfl, nS, rfl⟩) | (go_at_call 13; refine (sharedR_any T O _ (by omega) (by omega)).mono ?_; rintro e wR ⟨rfl, nR, rfl⟩))
        go_ret
        exact ⟨rfl, drew_below HB9.out⟩
  · rw [if_neg hr] at HE5 ⊢
    clear hr
    go_wp2_with fail
    refine HE5.mono ?_
    rintro e w5 ⟨rfl, hb5⟩
    have HB5 : Hid (Below w.heap.size w w5) := HB4.out.trans (hb5.mono HB4.out.size)
    have HW5 : Hid (Below w4.heap.size w4 w5) := hb5
    clear hb5 HE5 HB4
    have hel5 := HG4.out w5 HW5.out
    obtain ⟨pb, off, epb, k0, _⟩ := elem_cells hel5 (k := es.length) (by simp)
    cases epb
    have hsp : (es ++ [spare]).getD es.length En.zero = spare := by simp
    rw [hsp] at k0
    unfold spare at k0
    rw [Nat.zero_add] at k0
    have hsm := same_any (some ⟨g, 0, none⟩) ao cap ca es w5 (by have := elems_take hel5 es.length; rwa [List.take_left] at this) (HXe.out w5 HB5.out) (by omega)
    clear hel5 hsp
    go_wp2_with fail
    refine hsm.mono ?_
    rintro e w6 ⟨rfl, n6, rfl⟩
    have HB6 : Hid (Below w.heap.size w (w5.drewN n6)) := drew_below HB5.out
    have k1 : (w5.drewN n6).cell? ⟨g, es.length * 4, none⟩ = some (.string ⟨#[115, 112, 97, 114, 101]⟩) := k0
    generalize w5.drewN n6 = X at *
    clear hsm HB5 HW5 k0
    go_wp2_with fail
    refine (decode_any T _ (by omega)).mono ?_
    intro e X1 hA
    have hB7 : Below w.heap.size w X1 := by
      rcases hA with ⟨_, _, _, _, _, hB⟩ | ⟨_, _, hB⟩ <;> exact HB6.out.trans (hB.mono HB6.out.size)
    have HR := decodeR_any T X1 hT
    rcases hA with ⟨e1, v1, hI1, rfl, ho1, _⟩ | ⟨hno1, rfl, _⟩
    · obtain ⟨a1, c1, rfl, _, _, _, _⟩ := own_rows (F := enShape) ho1
      have HO1 : Hid _ := ho1
      have HI1 : Hid _ := hI1
      have HB7 : Hid _ := hB7
      clear ho1 hI1 hB7 HB6
      go_wp2_with fail
      refine HR.mono ?_
      rintro e X2 (⟨e2, v2', hI2, rfl, ho2, hB8⟩ | ⟨hno2, _⟩)
      · obtain rfl := hI2.unique HI1.out
        obtain ⟨a2, c2, rfl, _, _, _, hel2⟩ := own_rows (F := enShape) ho2
        have HB8 : Hid (Below w.heap.size w X2) := HB7.out.trans (hB8.mono HB7.out.size)
        have hel1 : ElemsAt enShape X2 a1 e2 := by
          obtain ⟨_, _, e4, _, _, _, q⟩ := own_rows (F := enShape) (show World.ownsRow _ _ _ _ _ _ _ from HO1.out)
          cases e4
          exact q.later hB8
        have hle2 := (hI2.great).1
        rw [bs_len] at hle2
        have hsm2 := same_any a1 a2 c1 c2 e2 X2 hel1 hel2 (by omega)
        clear hI2 ho2 hB8 hel1 hel2 HO1 HI1 HB7 HR
        go_wp2_with fail
        refine hsm2.mono ?_
        rintro e w9 ⟨rfl, n9, rfl⟩
        have HB9 : Hid (Below w.heap.size w (X2.drewN n9)) := drew_below HB8.out
        generalize X2.drewN n9 = X3 at *
        clear hsm2 HB8
        go_wp2_with (first | (go_at_call 12; refine (shared_any T O _ (by omega) (by omega)).mono ?_; rintro e wS ⟨rfl, nS, rfl⟩) | (go_at_call 13; refine (sharedR_any T O _ (by omega) (by omega)).mono ?_; rintro e wR ⟨rfl, nR, rfl⟩))
        go_ret
        exact ⟨rfl, drew_below HB9.out⟩
      · exact absurd HI1.out (hno2 e1)
    · have HB7 : Hid _ := hB7
      have HN1 : Hid _ := hno1
      clear hno1 hB7 HB6
      go_wp2_with fail
      refine HR.mono ?_
      rintro e X2 (⟨e2, v2', hI2, _⟩ | ⟨_, rfl, hB8⟩)
      · exact absurd hI2 (HN1.out e2)
      · have HB8 : Hid (Below w.heap.size w X2) := HB7.out.trans (hB8.mono HB7.out.size)
        have hsm2 := same_any none none 0 0 [] X2 (.inl rfl) (.inl rfl) (by simp)
        clear hB8 HN1 HB7 HR
        go_wp2_with fail
        refine hsm2.mono ?_
        rintro e w9 ⟨rfl, n9, rfl⟩
        have HB9 : Hid (Below w.heap.size w (X2.drewN n9)) := drew_below HB8.out
        generalize X2.drewN n9 = X3 at *
        clear hsm2 HB8
        go_wp2_with (first | (go_at_call 12; refine (shared_any T O _ (by omega) (by omega)).mono ?_; rintro e wS ⟨rfl, nS, rfl⟩) | (go_at_call 13; refine (sharedR_any T O _ (by omega) (by omega)).mono ?_; rintro e wR ⟨rfl, nR, rfl⟩))
        go_ret
        exact ⟨rfl, drew_below HB9.out⟩
end Go.Proofs.Ytjiajnmpdlaidaa.Bk
