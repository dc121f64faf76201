/-
  The texts TableWholeWalk.
-/
import Derived.Test.YtedjohkdfchocaaQTableLives

/-
  The walk of the statement TableWhole.
-/
namespace Go.Proofs.Ytedjohkdfchocaa.Tb
open Go.RowKit Cm Mm Bk
open Fr (framesB str sealed)
set_option linter.unusedVariables false

theorem bs_front (s : ByteArray) (k : Nat) : bs (s.extract 0 k) = (bs s).take k := by
  unfold bs
  rw [Lib.extract_data]
  simp
theorem one_string (c : UInt8) (W : World) : (convert 67 9 (.slice (some ⟨W.heap.size, 0, none⟩) 1 1)).run Try.prog (W.alloc (.cells #[.int .u8 c.toNat] 5)) = .ok (.string ⟨#[c]⟩) (W.alloc (.cells #[.int .u8 c.toNat] 5)) := by
  refine run_convert_bytes_back _ 67 9 5 ⟨W.heap.size, 0, none⟩ 1 [c] Try.underlying67 Try.underlying5 Try.underlying9 fun j hj => ?_
  obtain rfl : j = 0 := by simpa using hj
  rw [Go.WideShapes.add_plain, Joins.cell_of_block (heap_alloc_new W _)]
  rfl
set_option maxRecDepth 100000 in
set_option maxHeartbeats 1000000 in
theorem tableWhole_walk (ao : Option Addr) (ca : Nat) (es : List En) (c : UInt8) (w : World) (hx : ElemsAt enShape w ao es) (hca : es.length ≤ ca) (hok : AllOk es) (hsz : es.length + bytesE es ≤ 1048576) :
    Calls Try.prog 5 #[.slice ao es.length ca, .int .u8 c.toNat] w fun e w' => e = .returned (.bool true) ∧ Below w.heap.size w w' := by
  have HX : Hid (∀ X, Below w.heap.size w X → Calls Try.prog 9 #[.slice ao es.length ca] X fun e w' => e = .returned (tableV es) ∧ Below w.heap.size w w') := fun X hX =>
    (build_any ao ca es X (hx.later hX) hok hca (small_of hsz)).mono fun e w' ⟨h1, h2⟩ => ⟨h1, hX.trans (h2.mono hX.size)⟩
  have HI : Hid (∀ T, tableV es = .tuple #[.string T, .int .i64 0] → IsTable (bs T) es ∧ T.size ≤ 59000000) := fun T h => built hok hsz h
  have HSM : Hid (Small es) := small_of hsz
  clear hx hok
  go_enter Try.func5, Try.ntmps5
  go_wp2_with fail
  refine (lives_any _).mono ?_
  rintro e w1 ⟨rfl, hb1⟩
  go_wp2_with fail
  refine (HX.out w1 hb1).mono ?_
  rintro e w2 ⟨rfl, hb2⟩
  have HB2 : Hid _ := hb2
  clear hb1 hb2 HX
  rcases tableV_form es with ⟨S, hS⟩ | hS | hS
  · obtain ⟨hit, hSs⟩ := HI.out S hS
    have HIT : Hid _ := hit
    rw [hS]
    clear hS HI hit
    go_wp2
    go_loopw [7] (fun i wr => ∃ k : Nat, i = .int .i64 k ∧ k ≤ S.size ∧ k ≤ 150 ∧ Hid (Below w.heap.size w wr)) (fun i _ => 150 - (intOf i).toNat)
    case atStart => exact ⟨0, rfl, by omega, by omega, HB2⟩
    case round =>
      obtain ⟨k, rfl, hk1, hk2, HB⟩ := hrel
      by_cases hlt : k < S.size ∧ k < 150
      · obtain ⟨h1, h2⟩ := hlt
        have HD : Hid (∀ j X, j < S.size → Below w.heap.size w X → Calls Try.prog 11 #[.string (S.extract 0 j)] X fun e w' => e = .returned (.tuple #[.pointer none, .int .i64 10]) ∧ Below w.heap.size w w') := fun j X hj hX => by
          refine (open_any (S.extract 0 j) X (by rw [ByteArray.size_extract]; omega)).mono ?_
          intro e w' hA
          rw [bs_front] at hA
          obtain ⟨he, hB⟩ := open_none (no_begin HIT.out HSM.out (by rw [bs_len]; exact hj)) hA
          exact ⟨he, hX.trans (hB.mono hX.size)⟩
        obtain ⟨m, hm⟩ : ∃ m, m + 1 + k = S.size := ⟨S.size - 1 - k, by omega⟩
        have HDr : Hid _ := HD.out k wr h1 HB.out
        have HDs : Hid (∀ X, Below w.heap.size w X → Calls Try.prog 11 #[.string (S.extract 0 m)] X fun e w' => e = .returned (.tuple #[.pointer none, .int .i64 10]) ∧ Below w.heap.size w w') := fun X hX => HD.out m X (by omega) hX
        have hk0 : (0 : Int) ≤ (k : Int) := by omega
        have hk3 : (k : Int) ≤ (S.size : Int) := by omega
        have hm0 : (0 : Int) ≤ (m : Int) := by omega
        have hm3 : (m : Int) ≤ (S.size : Int) := by omega
        have HMM : Hid ((S.size : Int) - 1 - (k : Int) = (m : Int)) := by show _ = _; omega
        have hmw : IntKind.i64.wrap ((S.size : Int) - 1 - (k : Int)) = (m : Int) := wrap_nat (by omega) (by omega)
        clear HD HB HIT
        go_wp2_with fail
        refine (show Calls _ _ _ _ _ from HDr.out).mono ?_
        rintro e w3 ⟨rfl, hb3⟩
        have HB3 : Hid _ := hb3
        clear hb3 HDr
        go_wp2_with fail
        refine (show Calls _ _ _ _ _ from HDs.out _ HB3.out).mono ?_
        rintro e w4 ⟨rfl, hb4⟩
        have HB4 : Hid _ := hb4
        clear hb4 HDs HB3
        go_wp2
        go_roundw
        case rel => exact ⟨k + 1, by go_num, by omega, by omega, HB4⟩
        case measure => simp [intOf]; omega
      · obtain ⟨C, hC⟩ : ∃ C : ByteArray, C = ⟨#[c]⟩ := ⟨_, rfl⟩
        have hcv := one_string c wr
        rw [← hC] at hcv
        have hadd : bs (S ++ C) = bs S ++ [c] := by rw [hC]; unfold bs; rw [Go.Joins.data_append]
        have hc1 : C.size = 1 := by rw [hC]; rfl
        have hsz2 : (S ++ C).size ≤ 60000000 := by rw [← bs_len, hadd, List.length_append, bs_len]; simp; omega
        have HD : Hid (∀ X, Below w.heap.size w X → Calls Try.prog 11 #[.string (S ++ C)] X fun e w' => e = .returned (.tuple #[.pointer none, .int .i64 10]) ∧ Below w.heap.size w w') := fun X hX => by
          refine (open_any (S ++ C) X hsz2).mono ?_
          intro e w' hA
          rw [hadd] at hA
          obtain ⟨he, hB⟩ := open_none (no_more HIT.out c) hA
          exact ⟨he, hX.trans (hB.mono hX.size)⟩
        have HDr : Hid _ := HD.out (wr.alloc (.cells #[.int .u8 c.toNat] 5)) (HB.out.alloc HB.out.size _)
        clear HB HIT hadd hC hsz2 HD
        by_cases hz : k < S.size
        · have h3 : decide ((k : Int) < 150) = false := by simp; omega
          have h4 : decide (k < 150) = false := by simp; omega
          go_wp2_with fail
          refine (show Calls _ _ _ _ _ from HDr.out).mono ?_
          rintro e w3 ⟨rfl, hb3⟩
          have HB3 : Hid _ := hb3
          clear hb3 HDr
          go_wp2
          go_ret
          exact ⟨rfl, HB3.out⟩
        · have h3 : decide ((k : Int) < (S.size : Int)) = false := by simp; omega
          have h4 : decide (k < S.size) = false := by simp; omega
          go_wp2_with fail
          refine (show Calls _ _ _ _ _ from HDr.out).mono ?_
          rintro e w3 ⟨rfl, hb3⟩
          have HB3 : Hid _ := hb3
          clear hb3 HDr
          go_wp2
          go_ret
          exact ⟨rfl, HB3.out⟩
  all_goals
    rw [hS]
    clear hS HI
    go_wp2
    go_ret
    exact ⟨rfl, HB2.out⟩
end Go.Proofs.Ytedjohkdfchocaa.Tb
