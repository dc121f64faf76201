/-
  The walk of the statement BlockWhole.
-/
import Derived.Test.YtjiajnmpdlaidaaBlockLives
import Derived.Test.YtjiajnmpdlaidaaBlockDecodeWalk
namespace Go.Proofs.Ytjiajnmpdlaidaa.Bk
open Go.RowKit Cm Mm
open Pk (WrAt RdAt Step enc enc_len fold text)
set_option linter.unusedVariables false

theorem getD_bytes (es : List En) (k : Nat) : (es.getD k En.zero).key.size ≤ bytesE es ∧ (es.getD k En.zero).val.size ≤ bytesE es := by
  by_cases hk : k < es.length
  · have := bytes_at hk
    unfold sizeE at this
    omega
  · have : es.getD k En.zero = En.zero := by simp [List.getElem?_eq_none (by omega : es.length ≤ k)]
    rw [this]
    exact ⟨Nat.zero_le _, Nat.zero_le _⟩
/-- The lists of a statement's arguments. -/
theorem small_sized {es : List En} (h : es.length + bytesE es ≤ 1048576) : Sized es ∧ (block es).length ≤ 100000000 := by
  have h1 := block_len es
  refine ⟨⟨by omega, by omega, fun k => ?_⟩, by omega⟩
  have := getD_bytes es k
  omega
theorem small_block {es : List En} (hok : AllOk es) (h : es.length + bytesE es ≤ 1048576) (hr : right es = true) : IsBlock (block es) es := by
  refine ⟨hr, fun e he => ?_, by omega, rfl⟩
  obtain ⟨k, hk, rfl⟩ := List.mem_iff_getElem.1 he
  have h2 := getD_bytes es k
  rw [getD_lt _ _ _ hk] at h2
  have h3 := ((right_iff es).1 hr k hk).1
  rw [getD_lt _ _ _ hk] at h3
  exact ⟨hok _ he, by omega, by omega, h3⟩
theorem no_begin {l : List UInt8} {es : List En} (h : IsBlock l es) {k : Nat} (hk : k < l.length) (es' : List En) : ¬ IsBlock (l.take k) es' := fun hb => by
  have := (block_free (t := l.drop k) (u := []) hb h (by rw [List.take_append_drop, List.append_nil])).2
  have h2 := congrArg List.length this
  simp at h2; omega
theorem no_more {l : List UInt8} {es : List En} (h : IsBlock l es) (c : UInt8) (es' : List En) : ¬ IsBlock (l ++ [c]) es' := fun hb => by
  have := (block_free (t := []) (u := [c]) hb h (by rw [List.append_nil])).2
  cases this
theorem one_string (c : UInt8) (W : World) : (convert 37 9 (.slice (some ⟨W.heap.size, 0, none⟩) 1 1)).run Try.prog (W.alloc (.cells #[.int .u8 c.toNat] 5)) = .ok (.string ⟨#[c]⟩) (W.alloc (.cells #[.int .u8 c.toNat] 5)) := by
  refine run_convert_bytes_back _ 37 9 5 ⟨W.heap.size, 0, none⟩ 1 [c] Try.underlying37 Try.underlying5 Try.underlying9 fun j hj => ?_
  obtain rfl : j = 0 := by simpa using hj
  rw [Go.WideShapes.add_plain, Joins.cell_of_block (heap_alloc_new W _)]
  rfl
theorem bs_front (s : ByteArray) (k : Nat) : bs (s.extract 0 k) = (bs s).take k := by
  unfold bs
  rw [Lib.extract_data]
  simp

set_option maxRecDepth 100000 in
set_option maxHeartbeats 400000 in
theorem blockWhole_walk (ao : Option Addr) (ca : Nat) (es : List En) (c : UInt8) (w : World) (hx : ElemsAt enShape w ao es) (hok : AllOk es) (hsz : es.length + bytesE es ≤ 1048576) :
    Calls Try.prog 5 #[.slice ao es.length ca, .int .u8 c.toNat] w fun e w' => e = .returned (.bool true) ∧ Below w.heap.size w w' := by
  obtain ⟨hS, hbl⟩ := small_sized hsz
  have HX : Hid (∀ X, Below w.heap.size w X → Calls Try.prog 7 #[.slice ao es.length ca] X fun e w' => e = .returned (encV es) ∧ Below w.heap.size w w') := fun X hX =>
    (encode_any ao ca es X (hx.later hX) hok hS).mono fun e w' ⟨h1, h2⟩ => ⟨h1, hX.trans (h2.mono hX.size)⟩
  have HI : Hid (right es = true → IsBlock (block es) es) := fun hr => small_block hok hsz hr
  clear hx hok hS
  go_enter Try.func5, Try.ntmps5
  go_wp2_with fail
  refine (lives_any _).mono ?_
  rintro e w1 ⟨rfl, hb1⟩
  go_wp2_with fail
  refine (HX.out w1 hb1).mono ?_
  rintro e w2 ⟨rfl, hb2⟩
  have HB2 : Hid _ := hb2
  clear hb1 hb2 HX
  unfold encV
  by_cases hr : right es = true
  · rw [if_pos hr]
    obtain ⟨S, hS⟩ : ∃ S : ByteArray, S = ⟨(block es).toArray⟩ := ⟨_, rfl⟩
    have hSb : bs S = block es := by rw [hS, bs_mk]
    have HIb : Hid (IsBlock (bs S) es) := by rw [hSb]; exact HI.out hr
    have hSs : S.size ≤ 100000000 := by rw [← bs_len, hSb]; exact hbl
    rw [← hS]
    clear hS hSb hbl hr HI
    go_wp2
    go_loopw [7] (fun i wr => ∃ k : Nat, i = .int .i64 k ∧ k ≤ S.size ∧ k ≤ 300 ∧ Hid (Below w.heap.size w wr)) (fun i _ => 300 - (intOf i).toNat)
    case atStart => exact ⟨0, rfl, by omega, by omega, HB2⟩
    case round =>
      obtain ⟨k, rfl, hk1, hk2, HB⟩ := hrel
      by_cases hlt : k < S.size ∧ k < 300
      · obtain ⟨h1, h2⟩ := hlt
        have HD : Hid (∀ X, Below w.heap.size w X → Calls Try.prog 10 #[.string (S.extract 0 k)] X fun e w' => e = .returned (.tuple #[.slice none 0 0, .int .i64 1]) ∧ Below w.heap.size w w') := fun X hX => by
          refine (decode_any (S.extract 0 k) X (by rw [ByteArray.size_extract]; omega)).mono ?_
          rintro e w' (⟨es', v, hb, _⟩ | ⟨_, rfl, hB⟩)
          · rw [bs_front] at hb
            exact absurd hb (no_begin HIb.out (by rw [bs_len]; exact h1) es')
          · exact ⟨rfl, hX.trans (hB.mono hX.size)⟩
        have HDr : Hid _ := HD.out wr HB.out
        have hk0 : (0 : Int) ≤ (k : Int) := by omega
        have hk3 : (k : Int) ≤ (S.size : Int) := by omega
        clear HD HB HIb
        go_wp2_with fail
        refine (show Calls _ _ _ _ _ from HDr.out).mono ?_
        rintro e w3 ⟨rfl, hb3⟩
        have HB3 : Hid _ := hb3
        clear hb3 HDr
        go_wp2
        go_roundw
        case rel => exact ⟨k + 1, by go_num, by omega, by omega, HB3⟩
        case measure => simp [intOf]; omega
      · obtain ⟨C, hC⟩ : ∃ C : ByteArray, C = ⟨#[c]⟩ := ⟨_, rfl⟩
        have hcv := one_string c wr
        rw [← hC] at hcv
        have hadd : bs (S ++ C) = bs S ++ [c] := by rw [hC]; unfold bs; rw [Go.Joins.data_append]
        have hc1 : C.size = 1 := by rw [hC]; rfl
        have hsz2 : (S ++ C).size ≤ 1000000000 := by rw [← bs_len, hadd, List.length_append, bs_len]; simp; omega
        have HD : Hid (∀ X, Below w.heap.size w X → Calls Try.prog 10 #[.string (S ++ C)] X fun e w' => e = .returned (.tuple #[.slice none 0 0, .int .i64 1]) ∧ Below w.heap.size w w') := fun X hX => by
          refine (decode_any (S ++ C) X hsz2).mono ?_
          rintro e w' (⟨es', v, hb, _⟩ | ⟨_, rfl, hB⟩)
          · rw [hadd] at hb
            exact absurd hb (no_more HIb.out c es')
          · exact ⟨rfl, hX.trans (hB.mono hX.size)⟩
        have HDr : Hid _ := HD.out (wr.alloc (.cells #[.int .u8 c.toNat] 5)) (HB.out.alloc HB.out.size _)
        clear HB HIb hadd hC hsz2 HD
        by_cases hz : k < S.size
        · have h3 : decide ((k : Int) < 300) = false := by simp; omega
          have h4 : decide (k < 300) = false := by simp; omega
          go_wp2_with fail
          refine (show Calls _ _ _ _ _ from HDr.out).mono ?_
          rintro e w3 ⟨rfl, hb3⟩
          have HB3 : Hid _ := hb3
          clear hb3 HDr
          go_wp2
          go_ret
          exact ⟨rfl, HB3.out⟩
        · have h3 : decide ((k : Int) < (S.size : Int)) = false := by simp; omega
          have h4 : decide (k < S.size) = false := by simp; omega
          go_wp2_with fail
          refine (show Calls _ _ _ _ _ from HDr.out).mono ?_
          rintro e w3 ⟨rfl, hb3⟩
          have HB3 : Hid _ := hb3
          clear hb3 HDr
          go_wp2
          go_ret
          exact ⟨rfl, HB3.out⟩
  · have hr' : right es = false := by simpa using hr
    rw [if_neg hr]
    clear hr hr' HI
    go_wp2
    go_ret
    exact ⟨rfl, HB2.out⟩
end Go.Proofs.Ytjiajnmpdlaidaa.Bk
