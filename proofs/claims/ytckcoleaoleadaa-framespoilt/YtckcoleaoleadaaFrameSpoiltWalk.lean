/-
  The walk of the statement FrameSpoilt.
-/
import Derived.Test.YtckcoleaoleadaaFrameBackWalk
import Derived.Test.YtckcoleaoleadaaFrameSpoiltMath
import Derived.Laws.OwnMore
import Derived.Lib.ConvBytes
namespace Go.Proofs.Ytckcoleaoleadaa.Fr
open Go.RowKit Cm
set_option linter.unusedVariables false

/-- Block g holds the bytes bs, and room behind them. -/
def BytesAt (w : World) (g : Nat) (bs : List UInt8) : Prop :=
  ∃ cur : Array Value, w.heap[g]? = some (.cells cur 5 (cur.size, cur.size + 1)) ∧ bs.length ≤ cur.size ∧ cur.toList.take bs.length = bs.map B8
theorem BytesAt.lt {w : World} {g : Nat} {bs : List UInt8} (h : BytesAt w g bs) : g < w.heap.size := by
  obtain ⟨cur, hg, _⟩ := h
  exact lt_of_block hg
theorem BytesAt.cell {w : World} {g : Nat} {bs : List UInt8} (h : BytesAt w g bs) (j : Nat) (hj : j < bs.length) : w.cell? ⟨g, j, none⟩ = some (B8 bs[j]) := by
  obtain ⟨cur, hg, hle, ht⟩ := h
  rw [cell_of_row w g j cur 5 _ hg]
  have : (cur.toList.take bs.length)[j]? = some (B8 bs[j]) := by rw [ht]; simp [hj]
  rw [List.getElem?_take, if_pos hj] at this
  simpa using this
theorem BytesAt.frozen {w : World} {g : Nat} {bs : List UInt8} (h : BytesAt w g bs) (j : Nat) (hj : j < bs.length) : w.frozen? ⟨g, j, none⟩ = false := by
  obtain ⟨cur, hg, hle, ht⟩ := h
  unfold World.frozen?
  simp only [hg]
  have h1 : decide (cur.size ≤ j) = false := by simp; omega
  rw [h1]
  rfl
theorem BytesAt.store {w : World} {g : Nat} {bs : List UInt8} (h : BytesAt w g bs) (j : Nat) (c : UInt8) : BytesAt (w.setCell ⟨g, j, none⟩ (B8 c)) g (bs.set j c) ∧ w.grownBy (w.setCell ⟨g, j, none⟩ (B8 c)) (some g) := by
  obtain ⟨cur, hg, hle, ht⟩ := h
  refine ⟨⟨cur.setIfInBounds j (B8 c), ?_, by simpa using hle, ?_⟩, ⟨rfl, rfl, rfl, by simp, fun k _ hk => heap_setCell_other w ⟨g, j, none⟩ k _ (fun e => hk (by simp [e]))⟩⟩
  · simp only [World.setCell]
    rw [Array.getElem?_modify, if_pos rfl, hg]
    simp
  · rw [Array.toList_setIfInBounds, List.length_set, List.take_set, ht, List.map_set]
theorem BytesAt.string {w : World} {g cap : Nat} {bs : List UInt8} (h : BytesAt w g bs) : (convert 24 9 (.slice (some ⟨g, 0, none⟩) bs.length cap)).run Try.prog w = .ok (.string (str bs)) w := by
  refine run_convert_bytes_back w 24 9 5 ⟨g, 0, none⟩ cap bs Try.underlying24 Try.underlying5 Try.underlying9 fun j hj => ?_
  rw [Go.WideShapes.add_plain, Nat.zero_add]
  exact h.cell j hj
theorem BytesAt.keep {w w' : World} {g : Nat} {bs : List UInt8} (h : BytesAt w g bs) (hk : w'.heap[g]? = w.heap[g]?) : BytesAt w' g bs := by
  obtain ⟨cur, hg, r⟩ := h
  exact ⟨cur, hk.trans hg, r⟩
theorem bytes_new (w : World) (s : ByteArray) : BytesAt (Lib.bytesWorld w 5 s) w.heap.size s.data.toList := by
  refine ⟨_, Lib.bytesWorld_at_new w 5 s, ?_, ?_⟩
  · simp [Lib.bytesCells]
  · simp only [Lib.bytesCells]
    rw [Array.toList_append, List.take_append_of_le_length (by simp), List.take_of_length_le (by simp), Array.toList_map]
    rfl
theorem bytes_below (w : World) (s : ByteArray) : Below w.heap.size w (Lib.bytesWorld w 5 s) := by
  refine ⟨?_, ?_, ?_, by rw [Lib.bytesWorld_size]; omega, fun k hk => Lib.bytesWorld_at_old w 5 s k hk⟩ <;> rfl

theorem text_ne' {F E : ByteArray} (h : F ≠ E) : (F.toList == E.toList) = false := by
  rw [beq_eq_false_iff_ne, Lib.toList_data, Lib.toList_data]
  exact fun k => h (ByteArray.ext (Array.ext' k))
theorem str_self (s : ByteArray) : str s.data.toList = s := str_back s

set_option maxRecDepth 100000 in
set_option maxHeartbeats 2000000 in
theorem spoilt_walk (P : ByteArray) (at_ : Int) (b0 b1 b2 b3 : UInt8) (w : World) (hP : P.size ≤ 9223372036854775807) (hk1 : -9223372036854775808 ≤ at_) (hk2 : at_ ≤ 9223372036854775807) :
    Calls Try.prog 7 #[.string P, .int .i64 at_, .agg #[B8 b0, B8 b1, B8 b2, B8 b3]] w fun e w' => e = .returned (.bool true) ∧ Below w.heap.size w w' := by
  go_enter Try.func7, Try.ntmps7
  go_wp2_with fail
  refine (lives_any _).mono ?_
  rintro e w1 ⟨rfl, hb1⟩
  have hs1 := hb1.size
  have hB1 : Below w.heap.size w w1 := ((Below.refl _ _).alloc (Nat.le_refl _) _).trans (hb1.mono (by simp))
  have hw1 : w1.heap[w.heap.size]? = some (.cells #[B8 b0, B8 b1, B8 b2, B8 b3] 41) := (hb1.block _ (by simp)).trans (heap_alloc_new w _)
  clear hb1
  simp at hs1
  go_wp2_with fail
  refine (seal_one P w1 hP).mono ?_
  rintro e w2 ⟨rfl, hb2⟩
  have hs2 := hb2.size
  have hB2 : Below w.heap.size w w2 := hB1.trans (hb2.mono (by omega))
  have hw2 : w2.heap[w.heap.size]? = some (.cells #[B8 b0, B8 b1, B8 b2, B8 b3] 41) := (hb2.block _ (by omega)).trans hw1
  clear hb2 hB1 hw1
  by_cases hms : P.size ≤ 65536
  · have hso : sealed [P] = .tuple #[.string (str (frame P.data.toList)), .int .i64 0] := by
      rw [sealed_ok (by intro x hx; simp at hx; subst hx; exact hms)]
      simp only [framesB, List.flatMap_cons, List.flatMap_nil, List.append_nil]
    rw [hso]
    clear hso
    obtain ⟨F, hF⟩ : ∃ F, F = str (frame P.data.toList) := ⟨_, rfl⟩
    rw [← hF]
    have HF : Hid (F.data.toList = frame P.data.toList) := by rw [hF]; exact hid_rfl
    have hFs : F.size = 8 + P.size := by rw [hF, str_size, frame_len, ← Lib.size_eq]
    clear hF
    have hcv := Lib.run_convert_string_bytes (P := Try.prog) w2 9 24 5 F Try.underlying9 Try.underlying24 Try.underlying5
    have hbn := bytes_new w2 F
    have hbb := bytes_below w2 F
    generalize Lib.bytesWorld w2 5 F = w3 at *
    generalize grownCap w2 F.size 0 5 = cap at *
    rw [hFs] at hcv
    have hs3 := hbb.size
    have HB3 : Hid (Below w.heap.size w w3) := hB2.trans (hbb.mono (by omega))
    have hw3 : w3.heap[w.heap.size]? = some (.cells #[B8 b0, B8 b1, B8 b2, B8 b3] 41) := (hbb.block _ (by omega)).trans hw2
    have hg3 := hbn.lt
    obtain ⟨l, hl⟩ : ∃ l, l = F.data.toList := ⟨_, rfl⟩
    have HLe : Hid (l = frame P.data.toList) := hl.trans HF.out
    have HLl : Hid (l.length = 8 + P.size) := by rw [hl, ← Lib.size_eq]; exact hFs
    rw [← hl] at hbn
    have HBn : Hid (BytesAt w3 w2.heap.size l) := hbn
    obtain ⟨ws, hws⟩ : ∃ ws : List UInt8, ws = [b0, b1, b2, b3] := ⟨_, rfl⟩
    have HWs : Hid (ws = [b0, b1, b2, b3]) := hws
    have hwsl : ws.length = 4 := by rw [hws]; rfl
    have HWl : Hid (ws.length = 4) := hwsl
    clear hbn hbb hl hB2 hw2 hws
    by_cases hp0 : P.size = 0
    · have hgd : decide ((0 : Int) < (P.size : Int)) = false := decide_eq_false (by omega)
      have hgd' : decide (0 < P.size) = false := decide_eq_false (by omega)
      clear hp0
      go_wp2_with fail
      go_loopw [11] (fun i wr => ∃ m : Nat, m ≤ 4 ∧ 4 + m ≤ 8 + P.size ∧ i = .int .i64 m ∧ Hid (BytesAt wr w2.heap.size (mix l (4) ws m)) ∧ Hid (w3.grownBy wr (some w2.heap.size))) (fun i _ => 4 - (intOf i).toNat)
      case atStart => exact ⟨0, by omega, by omega, rfl, by rw [mix_zero]; exact HBn, ⟨rfl, rfl, rfl, Nat.le_refl _, fun _ _ _ => rfl⟩⟩
      case round =>
        obtain ⟨m, hm4, hfm, rfl, HBy, HG⟩ := hrel
        have HBr : Hid (Below w.heap.size w wr) := HB3.out.grown HG.out (by omega) (fun k hk => by simp at hk; omega)
        have hml : (mix l (4) ws m).length = 8 + P.size := by rw [mix_len (by rw [HLl.out]; omega) (by omega), HLl.out]
        by_cases hgo : m < 4 ∧ 4 + m < 8 + P.size
        · have hgo1 := hgo.1
          have hgo2 := hgo.2
          have hwc : wr.cell? ⟨w.heap.size, m, none⟩ = some (.int .u8 ((ws.getD m 0).toNat : Int)) := by
            rw [cell_of_row wr w.heap.size m _ _ _ ((HG.out.block _ (by omega) (by simp; omega)).trans hw3)]
            rw [HWs.out]
            match m, hgo1 with
            | 0, _ => rfl
            | 1, _ => rfl
            | 2, _ => rfl
            | 3, _ => rfl
          have hset : (mix l (4) ws m).set (4 + m) (ws.getD m 0) = mix l (4) ws (m + 1) := by
            have hm' : m < ws.length := by rw [hwsl]; exact hgo1
            rw [getD_lt _ _ _ hm']; exact mix_set (by rw [HLl.out]; omega) hm'
          have hst := HBy.out.store (4 + m) (ws.getD m 0)
          have hfz := HBy.out.frozen (4 + m) (by omega)
          obtain ⟨c1, hcl⟩ : ∃ c1 : UInt8, wr.cell? ⟨w2.heap.size, 4 + m, none⟩ = some (.int .u8 (c1.toNat : Int)) := ⟨_, HBy.out.cell (4 + m) (by omega)⟩
          rw [hset] at hst
          have HBy1 : Hid (BytesAt (wr.setCell ⟨w2.heap.size, 4 + m, none⟩ (.int .u8 ((ws.getD m 0).toNat : Int))) w2.heap.size (mix l (4) ws (m + 1))) := hst.1
          have HG1 : Hid (w3.grownBy (wr.setCell ⟨w2.heap.size, 4 + m, none⟩ (.int .u8 ((ws.getD m 0).toNat : Int))) (some w2.heap.size)) := HG.out.trans hst.2
          clear hst hset hgo
          generalize ws.getD m 0 = c0 at *
          have hi0 : (0 : Int) ≤ 4 + (m : Int) := by omega
          have hi1 : 4 + (m : Int) < 8 + (P.size : Int) := by omega
          have hg2 : decide ((m : Int) < 8 + (P.size : Int) - (4)) = true := decide_eq_true (by omega)
          clear hml
          go_wp2
          go_roundw
          case rel => exact ⟨m + 1, by omega, by omega, by go_num, HBy1, HG1⟩
          case measure => simp [intOf]; omega
        · have hstr := HBy.out.string (cap := cap)
          rw [hml] at hstr
          obtain ⟨B, hB⟩ : ∃ B, B = str (mix l (4) ws m) := ⟨_, rfl⟩
          rw [← hB] at hstr
          have HBd : Hid (B.data.toList = mix l (4) ws m) := by rw [hB]; exact hid_rfl
          have HBf : Hid (B = F ↔ mix l (4) ws m = frame P.data.toList) := by
            constructor
            · intro h; rw [← HF.out, ← h, HBd.out]
            · intro h; rw [hB, h, ← HF.out]; exact str_self F
          have HPl : Hid (P.data.toList.length = P.size) := by rw [← Lib.size_eq]; exact hid_rfl
          have hBs : B.size ≤ 140737488355328 := by rw [hB, str_size, hml]; omega
          clear hB
          by_cases hexit : 4 ≤ m
          · have HE : Hid (B ≠ F → first B.data.toList = none) := fun h => by
              rw [HBd.out, HLe.out]
              exact spoilt_none (by rw [HPl.out]; omega) (by omega) HWl.out (.inl ⟨rfl, by omega⟩) (by rw [HPl.out]; omega) (fun k => h (HBf.out.2 (by rw [HLe.out]; exact k)))
            have hg2 : decide ((m : Int) < 4) = false := decide_eq_false (by omega)
            clear hml HBf hgo
            by_cases hBF : B = F
            · have heq : (B.toList == F.toList) = true := by rw [hBF]; simp
              have HBF : Hid _ := hBF
              clear hBF HE
              go_wp2_with fail
              refine (first_at B 0 _ hBs P.data.toList [] (by rw [HPl.out]; omega) (by rw [List.drop_zero, HBF.out, HF.out, List.append_nil])).mono ?_
              rintro e w5 ⟨rfl, hb5⟩
              rw [str_self, HPl.out]
              have hb5' : Below w.heap.size w w5 := HBr.out.trans (hb5.mono HBr.out.size)
              have hstr5 := (HBy.out.keep (hb5.block _ HBy.out.lt)).string (cap := cap)
              rw [mix_len (by rw [HLl.out]; omega) (by omega), HLl.out, ← HBd.out, show str B.data.toList = B from str_self B] at hstr5
              clear hb5
              go_wp2
              go_ret
              exact ⟨rfl, hb5'⟩
            · have hne : (B.toList == F.toList) = false := text_ne' hBF
              have HN : Hid (first B.data.toList = none) := HE.out hBF
              clear hBF HE
              go_wp2_with fail
              refine (first_none B 0 _ hBs (by omega) (by omega) (fun _ _ => HN.out)).mono ?_
              rintro e w5 ⟨rfl, hb5⟩
              have hb5' : Below w.heap.size w w5 := HBr.out.trans (hb5.mono HBr.out.size)
              have hstr5 := (HBy.out.keep (hb5.block _ HBy.out.lt)).string (cap := cap)
              rw [mix_len (by rw [HLl.out]; omega) (by omega), HLl.out, ← HBd.out, show str B.data.toList = B from str_self B] at hstr5
              clear hb5
              go_wp2
              go_ret
              exact ⟨rfl, hb5'⟩
          · exfalso
            omega
    · have hgd : decide ((0 : Int) < (P.size : Int)) = true := decide_eq_true (by omega)
      have hpos : 0 < P.size := by omega
      clear hp0
      by_cases hat : at_.tmod 3 = 0
      · have hge : (at_.tmod 3 != 0) = false := by simp [hat]
        go_wp2_with fail
        go_loopw [11] (fun i wr => ∃ m : Nat, m ≤ 4 ∧ 4 + m ≤ 8 + P.size ∧ i = .int .i64 m ∧ Hid (BytesAt wr w2.heap.size (mix l (4) ws m)) ∧ Hid (w3.grownBy wr (some w2.heap.size))) (fun i _ => 4 - (intOf i).toNat)
        case atStart => exact ⟨0, by omega, by omega, rfl, by rw [mix_zero]; exact HBn, ⟨rfl, rfl, rfl, Nat.le_refl _, fun _ _ _ => rfl⟩⟩
        case round =>
          obtain ⟨m, hm4, hfm, rfl, HBy, HG⟩ := hrel
          have HBr : Hid (Below w.heap.size w wr) := HB3.out.grown HG.out (by omega) (fun k hk => by simp at hk; omega)
          have hml : (mix l (4) ws m).length = 8 + P.size := by rw [mix_len (by rw [HLl.out]; omega) (by omega), HLl.out]
          by_cases hgo : m < 4 ∧ 4 + m < 8 + P.size
          · have hgo1 := hgo.1
            have hgo2 := hgo.2
            have hwc : wr.cell? ⟨w.heap.size, m, none⟩ = some (.int .u8 ((ws.getD m 0).toNat : Int)) := by
              rw [cell_of_row wr w.heap.size m _ _ _ ((HG.out.block _ (by omega) (by simp; omega)).trans hw3)]
              rw [HWs.out]
              match m, hgo1 with
              | 0, _ => rfl
              | 1, _ => rfl
              | 2, _ => rfl
              | 3, _ => rfl
            have hset : (mix l (4) ws m).set (4 + m) (ws.getD m 0) = mix l (4) ws (m + 1) := by
              have hm' : m < ws.length := by rw [hwsl]; exact hgo1
              rw [getD_lt _ _ _ hm']; exact mix_set (by rw [HLl.out]; omega) hm'
            have hst := HBy.out.store (4 + m) (ws.getD m 0)
            have hfz := HBy.out.frozen (4 + m) (by omega)
            obtain ⟨c1, hcl⟩ : ∃ c1 : UInt8, wr.cell? ⟨w2.heap.size, 4 + m, none⟩ = some (.int .u8 (c1.toNat : Int)) := ⟨_, HBy.out.cell (4 + m) (by omega)⟩
            rw [hset] at hst
            have HBy1 : Hid (BytesAt (wr.setCell ⟨w2.heap.size, 4 + m, none⟩ (.int .u8 ((ws.getD m 0).toNat : Int))) w2.heap.size (mix l (4) ws (m + 1))) := hst.1
            have HG1 : Hid (w3.grownBy (wr.setCell ⟨w2.heap.size, 4 + m, none⟩ (.int .u8 ((ws.getD m 0).toNat : Int))) (some w2.heap.size)) := HG.out.trans hst.2
            clear hst hset hgo
            generalize ws.getD m 0 = c0 at *
            have hi0 : (0 : Int) ≤ 4 + (m : Int) := by omega
            have hi1 : 4 + (m : Int) < 8 + (P.size : Int) := by omega
            have hg2 : decide ((m : Int) < 8 + (P.size : Int) - (4)) = true := decide_eq_true (by omega)
            clear hml
            go_wp2
            go_roundw
            case rel => exact ⟨m + 1, by omega, by omega, by go_num, HBy1, HG1⟩
            case measure => simp [intOf]; omega
          · have hstr := HBy.out.string (cap := cap)
            rw [hml] at hstr
            obtain ⟨B, hB⟩ : ∃ B, B = str (mix l (4) ws m) := ⟨_, rfl⟩
            rw [← hB] at hstr
            have HBd : Hid (B.data.toList = mix l (4) ws m) := by rw [hB]; exact hid_rfl
            have HBf : Hid (B = F ↔ mix l (4) ws m = frame P.data.toList) := by
              constructor
              · intro h; rw [← HF.out, ← h, HBd.out]
              · intro h; rw [hB, h, ← HF.out]; exact str_self F
            have HPl : Hid (P.data.toList.length = P.size) := by rw [← Lib.size_eq]; exact hid_rfl
            have hBs : B.size ≤ 140737488355328 := by rw [hB, str_size, hml]; omega
            clear hB
            by_cases hexit : 4 ≤ m
            · have HE : Hid (B ≠ F → first B.data.toList = none) := fun h => by
                rw [HBd.out, HLe.out]
                exact spoilt_none (by rw [HPl.out]; omega) (by omega) HWl.out (.inl ⟨rfl, by omega⟩) (by rw [HPl.out]; omega) (fun k => h (HBf.out.2 (by rw [HLe.out]; exact k)))
              have hg2 : decide ((m : Int) < 4) = false := decide_eq_false (by omega)
              clear hml HBf hgo
              by_cases hBF : B = F
              · have heq : (B.toList == F.toList) = true := by rw [hBF]; simp
                have HBF : Hid _ := hBF
                clear hBF HE
                go_wp2_with fail
                refine (first_at B 0 _ hBs P.data.toList [] (by rw [HPl.out]; omega) (by rw [List.drop_zero, HBF.out, HF.out, List.append_nil])).mono ?_
                rintro e w5 ⟨rfl, hb5⟩
                rw [str_self, HPl.out]
                have hb5' : Below w.heap.size w w5 := HBr.out.trans (hb5.mono HBr.out.size)
                have hstr5 := (HBy.out.keep (hb5.block _ HBy.out.lt)).string (cap := cap)
                rw [mix_len (by rw [HLl.out]; omega) (by omega), HLl.out, ← HBd.out, show str B.data.toList = B from str_self B] at hstr5
                clear hb5
                go_wp2
                go_ret
                exact ⟨rfl, hb5'⟩
              · have hne : (B.toList == F.toList) = false := text_ne' hBF
                have HN : Hid (first B.data.toList = none) := HE.out hBF
                clear hBF HE
                go_wp2_with fail
                refine (first_none B 0 _ hBs (by omega) (by omega) (fun _ _ => HN.out)).mono ?_
                rintro e w5 ⟨rfl, hb5⟩
                have hb5' : Below w.heap.size w w5 := HBr.out.trans (hb5.mono HBr.out.size)
                have hstr5 := (HBy.out.keep (hb5.block _ HBy.out.lt)).string (cap := cap)
                rw [mix_len (by rw [HLl.out]; omega) (by omega), HLl.out, ← HBd.out, show str B.data.toList = B from str_self B] at hstr5
                clear hb5
                go_wp2
                go_ret
                exact ⟨rfl, hb5'⟩
            · exfalso
              omega
      · have hge : (at_.tmod 3 != 0) = true := by simp [hat]
        obtain ⟨c, hc, hcut⟩ := cut_nat at_ (P.size : Int) (by omega) (by omega)
        have hcn : c < P.size := by omega
        go_wp2_with fail
        rw [hcut]
        clear hcut
        go_loopw [11] (fun i wr => ∃ m : Nat, m ≤ 4 ∧ (8 + c) + m ≤ 8 + P.size ∧ i = .int .i64 m ∧ Hid (BytesAt wr w2.heap.size (mix l ((8 + c)) ws m)) ∧ Hid (w3.grownBy wr (some w2.heap.size))) (fun i _ => 4 - (intOf i).toNat)
        case atStart => exact ⟨0, by omega, by omega, rfl, by rw [mix_zero]; exact HBn, ⟨rfl, rfl, rfl, Nat.le_refl _, fun _ _ _ => rfl⟩⟩
        case round =>
          obtain ⟨m, hm4, hfm, rfl, HBy, HG⟩ := hrel
          have HBr : Hid (Below w.heap.size w wr) := HB3.out.grown HG.out (by omega) (fun k hk => by simp at hk; omega)
          have hml : (mix l ((8 + c)) ws m).length = 8 + P.size := by rw [mix_len (by rw [HLl.out]; omega) (by omega), HLl.out]
          by_cases hgo : m < 4 ∧ (8 + c) + m < 8 + P.size
          · have hgo1 := hgo.1
            have hgo2 := hgo.2
            have hwc : wr.cell? ⟨w.heap.size, m, none⟩ = some (.int .u8 ((ws.getD m 0).toNat : Int)) := by
              rw [cell_of_row wr w.heap.size m _ _ _ ((HG.out.block _ (by omega) (by simp; omega)).trans hw3)]
              rw [HWs.out]
              match m, hgo1 with
              | 0, _ => rfl
              | 1, _ => rfl
              | 2, _ => rfl
              | 3, _ => rfl
            have hset : (mix l ((8 + c)) ws m).set ((8 + c) + m) (ws.getD m 0) = mix l ((8 + c)) ws (m + 1) := by
              have hm' : m < ws.length := by rw [hwsl]; exact hgo1
              rw [getD_lt _ _ _ hm']; exact mix_set (by rw [HLl.out]; omega) hm'
            have hst := HBy.out.store ((8 + c) + m) (ws.getD m 0)
            have hfz := HBy.out.frozen ((8 + c) + m) (by omega)
            obtain ⟨c1, hcl⟩ : ∃ c1 : UInt8, wr.cell? ⟨w2.heap.size, (8 + c) + m, none⟩ = some (.int .u8 (c1.toNat : Int)) := ⟨_, HBy.out.cell ((8 + c) + m) (by omega)⟩
            rw [hset] at hst
            have HBy1 : Hid (BytesAt (wr.setCell ⟨w2.heap.size, (8 + c) + m, none⟩ (.int .u8 ((ws.getD m 0).toNat : Int))) w2.heap.size (mix l ((8 + c)) ws (m + 1))) := hst.1
            have HG1 : Hid (w3.grownBy (wr.setCell ⟨w2.heap.size, (8 + c) + m, none⟩ (.int .u8 ((ws.getD m 0).toNat : Int))) (some w2.heap.size)) := HG.out.trans hst.2
            clear hst hset hgo
            generalize ws.getD m 0 = c0 at *
            have hi0 : (0 : Int) ≤ 8 + (c : Int) + (m : Int) := by omega
            have hi1 : 8 + (c : Int) + (m : Int) < 8 + (P.size : Int) := by omega
            have hg2 : decide ((m : Int) < 8 + (P.size : Int) - (8 + (c : Int))) = true := decide_eq_true (by omega)
            clear hml
            go_wp2
            go_roundw
            case rel => exact ⟨m + 1, by omega, by omega, by go_num, HBy1, HG1⟩
            case measure => simp [intOf]; omega
          · have hstr := HBy.out.string (cap := cap)
            rw [hml] at hstr
            obtain ⟨B, hB⟩ : ∃ B, B = str (mix l ((8 + c)) ws m) := ⟨_, rfl⟩
            rw [← hB] at hstr
            have HBd : Hid (B.data.toList = mix l ((8 + c)) ws m) := by rw [hB]; exact hid_rfl
            have HBf : Hid (B = F ↔ mix l ((8 + c)) ws m = frame P.data.toList) := by
              constructor
              · intro h; rw [← HF.out, ← h, HBd.out]
              · intro h; rw [hB, h, ← HF.out]; exact str_self F
            have HPl : Hid (P.data.toList.length = P.size) := by rw [← Lib.size_eq]; exact hid_rfl
            have hBs : B.size ≤ 140737488355328 := by rw [hB, str_size, hml]; omega
            clear hB
            by_cases hexit : 4 ≤ m
            · have HE : Hid (B ≠ F → first B.data.toList = none) := fun h => by
                rw [HBd.out, HLe.out]
                exact spoilt_none (by rw [HPl.out]; omega) (by omega) HWl.out (.inr (by omega)) (by rw [HPl.out]; omega) (fun k => h (HBf.out.2 (by rw [HLe.out]; exact k)))
              have hg2 : decide ((m : Int) < 4) = false := decide_eq_false (by omega)
              clear hml HBf hgo
              by_cases hBF : B = F
              · have heq : (B.toList == F.toList) = true := by rw [hBF]; simp
                have HBF : Hid _ := hBF
                clear hBF HE
                go_wp2_with fail
                refine (first_at B 0 _ hBs P.data.toList [] (by rw [HPl.out]; omega) (by rw [List.drop_zero, HBF.out, HF.out, List.append_nil])).mono ?_
                rintro e w5 ⟨rfl, hb5⟩
                rw [str_self, HPl.out]
                have hb5' : Below w.heap.size w w5 := HBr.out.trans (hb5.mono HBr.out.size)
                have hstr5 := (HBy.out.keep (hb5.block _ HBy.out.lt)).string (cap := cap)
                rw [mix_len (by rw [HLl.out]; omega) (by omega), HLl.out, ← HBd.out, show str B.data.toList = B from str_self B] at hstr5
                clear hb5
                go_wp2
                go_ret
                exact ⟨rfl, hb5'⟩
              · have hne : (B.toList == F.toList) = false := text_ne' hBF
                have HN : Hid (first B.data.toList = none) := HE.out hBF
                clear hBF HE
                go_wp2_with fail
                refine (first_none B 0 _ hBs (by omega) (by omega) (fun _ _ => HN.out)).mono ?_
                rintro e w5 ⟨rfl, hb5⟩
                have hb5' : Below w.heap.size w w5 := HBr.out.trans (hb5.mono HBr.out.size)
                have hstr5 := (HBy.out.keep (hb5.block _ HBy.out.lt)).string (cap := cap)
                rw [mix_len (by rw [HLl.out]; omega) (by omega), HLl.out, ← HBd.out, show str B.data.toList = B from str_self B] at hstr5
                clear hb5
                go_wp2
                go_ret
                exact ⟨rfl, hb5'⟩
            · have hend : ¬ (8 + c) + m < 8 + P.size := fun h => hgo ⟨by omega, h⟩
              have HE : Hid (B ≠ F → first B.data.toList = none) := fun h => by
                rw [HBd.out, HLe.out]
                exact spoilt_none (by rw [HPl.out]; omega) (by omega) HWl.out (.inr (by omega)) (by rw [HPl.out]; omega) (fun k => h (HBf.out.2 (by rw [HLe.out]; exact k)))
              have hg1 : decide ((m : Int) < 4) = true := decide_eq_true (by omega)
              have hg2 : decide ((m : Int) < 8 + (P.size : Int) - (8 + (c : Int))) = false := decide_eq_false (by omega)
              clear hml HBf hgo
              by_cases hBF : B = F
              · have heq : (B.toList == F.toList) = true := by rw [hBF]; simp
                have HBF : Hid _ := hBF
                clear hBF HE
                go_wp2_with fail
                refine (first_at B 0 _ hBs P.data.toList [] (by rw [HPl.out]; omega) (by rw [List.drop_zero, HBF.out, HF.out, List.append_nil])).mono ?_
                rintro e w5 ⟨rfl, hb5⟩
                rw [str_self, HPl.out]
                have hb5' : Below w.heap.size w w5 := HBr.out.trans (hb5.mono HBr.out.size)
                have hstr5 := (HBy.out.keep (hb5.block _ HBy.out.lt)).string (cap := cap)
                rw [mix_len (by rw [HLl.out]; omega) (by omega), HLl.out, ← HBd.out, show str B.data.toList = B from str_self B] at hstr5
                clear hb5
                go_wp2
                go_ret
                exact ⟨rfl, hb5'⟩
              · have hne : (B.toList == F.toList) = false := text_ne' hBF
                have HN : Hid (first B.data.toList = none) := HE.out hBF
                clear hBF HE
                go_wp2_with fail
                refine (first_none B 0 _ hBs (by omega) (by omega) (fun _ _ => HN.out)).mono ?_
                rintro e w5 ⟨rfl, hb5⟩
                have hb5' : Below w.heap.size w w5 := HBr.out.trans (hb5.mono HBr.out.size)
                have hstr5 := (HBy.out.keep (hb5.block _ HBy.out.lt)).string (cap := cap)
                rw [mix_len (by rw [HLl.out]; omega) (by omega), HLl.out, ← HBd.out, show str B.data.toList = B from str_self B] at hstr5
                clear hb5
                go_wp2
                go_ret
                exact ⟨rfl, hb5'⟩
  · have hsl := sealed_long (xs := [P]) (fun h => hms (h P (by simp)))
    rw [hsl]
    clear hsl hms
    go_wp2
    go_ret
    exact ⟨rfl, hB2⟩

end Go.Proofs.Ytckcoleaoleadaa.Fr
