/-
  The walk of the statement BlockBack.
-/
import Derived.Test.YtjiajnmpdlaidaaBlockWholeWalk
namespace Go.Proofs.Ytjiajnmpdlaidaa.Bk
open Go.RowKit Cm Mm
open Pk (WrAt RdAt Step enc enc_len fold text)
set_option linter.unusedVariables false

theorem IsBlock.sized {l : List UInt8} {es : List En} (h : IsBlock l es) (hl : l.length ≤ 100000000) : Sized es := by
  have h1 := h.great
  refine ⟨by omega, by rw [← h.eq]; omega, fun k => ?_⟩
  have := h1.2 k
  omega
/-- A text that is read is written again so. -/
theorem enc_again {l : List UInt8} {es : List En} (h : IsBlock l es) : encV es = .tuple #[.string ⟨l.toArray⟩, .int .i64 0] := by
  unfold encV
  rw [if_pos h.right, ← h.eq]

/-- Two lists that were read from the block, each in memory of its own. -/
structure Pair (w : World) (B : Nat) (es : List En) (a b : Value) (ys : List Value) (X : World) : Prop where
  own : X.ownsRow B 25 4 a es.length ys
  oth : X.ownsRow B 25 4 b es.length (enShape.vals es)
  far : ∀ k, a.ownBlock = some k → b.ownBlock ≠ some k
  bel : Below w.heap.size w X
  lo : B ≤ X.heap.size
theorem Pair.same {w X : World} {B : Nat} {es : List En} {a b : Value} {ys : List Value} (h : Pair w B es a b ys X) : ∃ ao c, b = .slice ao es.length c ∧ ElemsAt enShape X ao es := by
  obtain ⟨ao, c, rfl, _, _, _, q⟩ := own_rows (F := enShape) h.oth
  exact ⟨ao, c, rfl, q⟩
theorem row_drewN {w : World} {B n k m : Nat} {e : TypeId} {v : Value} {ys : List Value} (h : w.ownsRow B e k v n ys) : (w.drewN m).ownsRow B e k v n ys := rows_keep h (fun _ _ => rfl)
theorem Pair.drewN {w X : World} {B : Nat} {es : List En} {a b : Value} {ys : List Value} (h : Pair w B es a b ys X) (m : Nat) : Pair w B es a b ys (X.drewN m) :=
  ⟨row_drewN h.own, row_drewN h.oth, h.far, ⟨h.bel.os, h.bel.tape, h.bel.output, h.bel.size, h.bel.block⟩, h.lo⟩
set_option maxRecDepth 100000 in
set_option maxHeartbeats 2000000 in
theorem blockBack_walk (ao : Option Addr) (ca : Nat) (es : List En) (T : ByteArray) (w : World) (hx : ElemsAt enShape w ao es) (hok : AllOk es) (hsz : es.length + bytesE es ≤ 1048576) (hT : T.size ≤ 1048576) :
    Calls Try.prog 4 #[.slice ao es.length ca, .string T] w fun e w' => e = .returned (.bool true) ∧ Below w.heap.size w w' := by
  obtain ⟨hS, hbl⟩ := small_sized hsz
  obtain ⟨i0, hi, hz0, hz1, hz2⟩ := info_parts infoEn
  have hT' : T.size ≤ 1000000000 := by omega
  have hTT : (T.toList == T.toList) = true := by simp
  have HX : Hid (∀ X, Below w.heap.size w X → Calls Try.prog 7 #[.slice ao es.length ca] X fun e w' => e = .returned (encV es) ∧ Below w.heap.size w w') := fun X hX =>
    (encode_any ao ca es X (hx.later hX) hok hS).mono fun e w' ⟨h1, h2⟩ => ⟨h1, hX.trans (h2.mono hX.size)⟩
  have HRt : Hid (∀ X, Below w.heap.size w X → Calls Try.prog 14 #[.slice ao es.length ca] X fun e w' => e = .returned (.bool (right es)) ∧ Below w.heap.size w w') := fun X hX =>
    (rightR_any ao ca es X (hx.later hX) (by omega)).mono fun e w' ⟨h1, h2⟩ => ⟨h1, hX.trans (h2.mono hX.size)⟩
  have HI : Hid (right es = true → IsBlock (block es) es) := fun hr => small_block hok hsz hr
  have HEl : Hid (∀ X, Below w.heap.size w X → ElemsAt enShape X ao es) := fun X hX => hx.later hX
  have hlen : es.length ≤ 1048576 := by omega
  clear hx hok hS hsz
  go_enter Try.func4, Try.ntmps4
  go_wp2_with fail
  refine (lives_any _).mono ?_
  rintro e w1 ⟨rfl, hb1⟩
  go_wp2_with fail
  refine (HX.out w1 hb1).mono ?_
  rintro e w2 ⟨rfl, hb2⟩
  have HB2 : Hid _ := hb2
  have HRt2 : Hid _ := HRt.out w2 hb2
  clear hb1 hb2 HX HRt
  unfold encV
  by_cases hr : right es = true
  · rw [if_pos hr]
    rw [hr] at HRt2
    obtain ⟨S, hS⟩ : ∃ S : ByteArray, S = ⟨(block es).toArray⟩ := ⟨_, rfl⟩
    have hSb : bs S = block es := by rw [hS, bs_mk]
    have hIb : IsBlock (bs S) es := by rw [hSb]; exact HI.out hr
    have hSs : S.size ≤ 1000000000 := by rw [← bs_len, hSb]; omega
    have HD : Hid (∀ X, Calls Try.prog 10 #[.string S] X fun e w' => ∃ a c, e = .returned (.tuple #[.slice a es.length c, .int .i64 0]) ∧ w'.ownsRow X.heap.size 25 4 (.slice a es.length c) es.length (enShape.vals es) ∧ Below X.heap.size X w') := fun X => by
      refine (decode_any S X hSs).mono ?_
      rintro e w' (⟨es', v, hb, rfl, ho, hB⟩ | ⟨hno, _⟩)
      · obtain rfl := hb.unique hIb
        obtain ⟨ao', c', rfl, _⟩ := own_rows (F := enShape) ho
        exact ⟨ao', c', rfl, ho, hB⟩
      · exact absurd hIb (hno es)
    rw [← hS]
    clear hS hSb hbl hr HI hIb hSs
    go_wp2_with fail
    refine (show Calls _ _ _ _ _ from HRt2.out).mono ?_
    rintro e w3 ⟨rfl, hb3⟩
    have HB3 : Hid _ := hb3
    clear hb3 HRt2 HB2
    go_wp2_with fail
    refine (HD.out w3).mono ?_
    rintro e w4 ⟨aA, cA, rfl, hoA, hb4⟩
    have HOA : Hid _ := hoA
    have HB4 : Hid _ := hb4
    clear hoA hb4
    go_wp2_with fail
    refine (HD.out w4).mono ?_
    rintro e w5 ⟨aB, cB, rfl, hoB, hb5⟩
    have hP : Pair w w3.heap.size es (.slice aA es.length cA) (.slice aB es.length cB) (enShape.vals es) w5 := by
      refine ⟨rows_keep HOA.out (fun k hk => hb5.block k (World.ownsRow.lt HOA.out k hk).2), ⟨hoB.1, ?_⟩, fun k h1 h2 => ?_, HB3.out.trans ((HB4.out.trans (hb5.mono HB4.out.size)).mono HB3.out.size), Nat.le_trans HB4.out.size hb5.size⟩
      · rcases hoB.2 with h | ⟨g, cap, cur, e, hB, h⟩
        · exact .inl h
        · exact .inr ⟨g, cap, cur, e, Nat.le_trans HB4.out.size hB, h⟩
      · have q1 := (World.ownsRow.lt HOA.out k h1).2
        have q2 := (hoB.lt k h2).1
        omega
    have hw3 : w.heap.size ≤ w3.heap.size := HB3.out.size
    have hsA := same_any aA ao cA ca es w5 (own_rows (F := enShape) hP.own |> fun ⟨_, _, e, _, _, _, q⟩ => by cases e; exact q) (HEl.out w5 hP.bel) (by omega)
    have HP : Hid _ := hP
    clear hP hoB hb5 HOA HB4 HB3 HD
    go_wp2_with fail
    refine hsA.mono ?_
    rintro e w6 ⟨rfl, n6, rfl⟩
    have HP6 : Hid _ := HP.out.drewN n6
    clear HP hsA
    go_wp2
    go_loopw [51] (fun i wr => ∃ (k : Nat) (ys : List Value), i = .int .i64 k ∧ k ≤ es.length ∧ Hid (Pair w w3.heap.size es (.slice aA es.length cA) (.slice aB es.length cB) ys wr)) (fun i _ => es.length - (intOf i).toNat)
    case atStart => exact ⟨0, _, rfl, by omega, HP6⟩
    case round =>
      obtain ⟨k, ys, rfl, hk, HP⟩ := hrel
      by_cases hlt : k < es.length
      · obtain ⟨g, cap, e, hB, hgl, hle⟩ := own_formK HP.out.own (by omega)
        cases e
        obtain ⟨⟨ys', hown'⟩, hcell, hfz⟩ := stored4 HP.out.own hlt (.string ⟨#[109, 97, 114, 107]⟩) (.int .i64 0) (.bool false) (.string ⟨#[]⟩)
        obtain ⟨u0, g0⟩ := hcell 0 (by decide)
        obtain ⟨u1, g1⟩ := hcell 1 (by decide)
        obtain ⟨u2, g2⟩ := hcell 2 (by decide)
        obtain ⟨u3, g3⟩ := hcell 3 (by decide)
        rw [Nat.add_zero] at g0
        have f0 := hfz (k * 4)
        have f1 := hfz (k * 4 + 1)
        have f2 := hfz (k * 4 + 2)
        have f3 := hfz (k * 4 + 3)
        have HP' : Hid (Pair w w3.heap.size es (.slice (some ⟨g, 0, none⟩) es.length cA) (.slice aB es.length cB) ys' ((((wr.setCell ⟨g, k * 4, none⟩ (.string ⟨#[109, 97, 114, 107]⟩)).setCell ⟨g, k * 4 + 1, none⟩ (.int .i64 0)).setCell ⟨g, k * 4 + 2, none⟩ (.bool false)).setCell ⟨g, k * 4 + 3, none⟩ (.string ⟨#[]⟩))) := by
          refine ⟨hown', rows_keep HP.out.oth (fun j hj => set4_block (fun e => HP.out.far g rfl (by rw [← e]; exact hj))), HP.out.far, HP.out.bel.grown set4_grown HP.out.bel.size (fun j hj => by cases hj; omega), ?_⟩
          have := HP.out.lo
          simpa [World.setCell] using this
        have hk0 : (0 : Int) ≤ (k : Int) := by omega
        have hk1 : (k : Int) < (es.length : Int) := by omega
        clear hown' hcell hfz HP HP6
        go_wp2
        go_roundw
        case rel => exact ⟨k + 1, ys', by go_num, by omega, HP'⟩
        case measure => simp [intOf]; omega
      · obtain rfl : k = es.length := by omega
        have hb0 : w3.heap.size ≤ wr.heap.size + 1 := by have := HP.out.lo; omega
        clear HP6
        go_wp2_with (at_builtin; refine wpList_append_lies _ rfl _ _ 22 rfl w3.heap.size 25 i0 _ 4 48 Try.underlying22 hi hz0 hz1 hz2 rfl (by decide) _ es.length ys rfl (World.ownsRow.alloc HP.out.own _) ⟨wr.heap.size, 0, none⟩ 1 1 [.string ⟨#[]⟩, .int .i64 0, .bool false, .string ⟨#[]⟩] rfl rfl ?c1 ?c2 (by decide) ?c3 ?c4 ?c5 (wr.heap.size + 1) (by simp) ?_)
        case c1 => exact World.news_of_block (heap_alloc_new wr _)
        case c2 => intro u hu; simp at hu; rcases hu with rfl | rfl | rfl | rfl <;> rfl
        case c3 => unfold maxLen; omega
        case c4 => omega
        case c5 => simpa using hb0
        intro g cap w7 hown7 hgrow7 hat7 hlt7
        have hBw : Below w.heap.size w w7 := (HP.out.bel.alloc HP.out.bel.size _).grown hgrow7 (by have := HP.out.bel.size; simp; omega) (fun j hj => by have := (World.ownsRow.lt HP.out.own j hj).1; omega)
        have hoB : w7.ownsRow w3.heap.size 25 4 (.slice aB es.length cB) es.length (enShape.vals es) := rows_keep HP.out.oth (fun j hj => by
          have q1 := (HP.out.oth.lt j hj).2
          rw [hgrow7.block j (by simp; omega) (fun e => HP.out.far j e.symm hj)]
          exact Below.heap_alloc _ _ _ q1)
        have hsB := same_any aB ao cB ca es w7 (own_rows (F := enShape) hoB |> fun ⟨_, _, e, _, _, _, q⟩ => by cases e; exact q) (HEl.out w7 hBw) (by omega)
        have HBw : Hid _ := hBw
        clear hBw hoB hown7 hgrow7 hat7 hlt7 HP
        go_wp2_with fail
        refine hsB.mono ?_
        rintro e w8 ⟨rfl, n8, rfl⟩
        have HB : Hid (Below w.heap.size w (w7.drewN n8)) := ⟨HBw.out.os, HBw.out.tape, HBw.out.output, HBw.out.size, HBw.out.block⟩
        generalize w7.drewN n8 = X at *
        clear hsB HBw HEl hi hz0 hz1 hz2
        go_wp2_with fail
        refine (decode_any T _ hT').mono ?_
        rintro e X1 (⟨es', v, hb, rfl, ho, hB⟩ | ⟨hno, rfl, hB⟩)
        · have hq : Below w.heap.size w X1 := HB.out.trans (hB.mono HB.out.size)
          obtain ⟨ao', c', rfl, _, _, _, hel⟩ := own_rows (F := enShape) ho
          have hE := encode_any ao' c' es' X1 hel (fun e he => (hb.fit e he).ok) (hb.sized (by rw [bs_len]; omega))
          rw [enc_again hb, show (⟨(bs T).toArray⟩ : ByteArray) = T from str_back T] at hE
          have HE : Hid _ := hE
          have HQ : Hid _ := hq
          clear hb ho hB hel hE hq
          go_wp2_with fail
          refine (show Calls _ _ _ _ _ from HE.out).mono ?_
          rintro e X2 ⟨rfl, hB2⟩
          have HQ2 : Hid (Below w.heap.size w X2) := HQ.out.trans (hB2.mono HQ.out.size)
          clear hB2 HE HQ
          go_wp2
          go_ret
          exact ⟨rfl, HQ2.out⟩
        · have HQ : Hid (Below w.heap.size w X1) := HB.out.trans (hB.mono HB.out.size)
          clear hno hB
          go_wp2
          go_ret
          exact ⟨rfl, HQ.out⟩
  · have hr' : right es = false := by simpa using hr
    rw [if_neg hr]
    rw [hr'] at HRt2
    clear hr hr' HI HEl hi hz0 hz1 hz2
    go_wp2_with fail
    refine (show Calls _ _ _ _ _ from HRt2.out).mono ?_
    rintro e w3 ⟨rfl, hb3⟩
    have HB : Hid _ := hb3
    clear hb3 HRt2 HB2
    go_wp2_with fail
    refine (decode_any T _ hT').mono ?_
    rintro e X1 (⟨es', v, hb, rfl, ho, hB⟩ | ⟨hno, rfl, hB⟩)
    · have hq : Below w.heap.size w X1 := HB.out.trans (hB.mono HB.out.size)
      obtain ⟨ao', c', rfl, _, _, _, hel⟩ := own_rows (F := enShape) ho
      have hE := encode_any ao' c' es' X1 hel (fun e he => (hb.fit e he).ok) (hb.sized (by rw [bs_len]; omega))
      rw [enc_again hb, show (⟨(bs T).toArray⟩ : ByteArray) = T from str_back T] at hE
      have HE : Hid _ := hE
      have HQ : Hid _ := hq
      clear hb ho hB hel hE hq
      go_wp2_with fail
      refine (show Calls _ _ _ _ _ from HE.out).mono ?_
      rintro e X2 ⟨rfl, hB2⟩
      have HQ2 : Hid (Below w.heap.size w X2) := HQ.out.trans (hB2.mono HQ.out.size)
      clear hB2 HE HQ
      go_wp2
      go_ret
      exact ⟨rfl, HQ2.out⟩
    · have HQ : Hid (Below w.heap.size w X1) := HB.out.trans (hB.mono HB.out.size)
      clear hno hB
      go_wp2
      go_ret
      exact ⟨rfl, HQ.out⟩
end Go.Proofs.Ytjiajnmpdlaidaa.Bk
