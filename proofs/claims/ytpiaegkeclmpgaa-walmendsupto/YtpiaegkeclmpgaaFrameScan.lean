/-
  Package frame: what Scan answers of any text.
-/
import Derived.Test.YtpiaegkeclmpgaaFrameSeal
namespace Go.Proofs.Ytpiaegkeclmpgaa.Fr
open Go.RowKit Cm
set_option linter.unusedVariables false

theorem cells1' {w : World} (X : ByteArray) : CellsAt (w.alloc (.cells #[.string X] 9)) (some ⟨w.heap.size, 0, none⟩) (strVals [X]) := by
  refine .inr ⟨w.heap.size, 0, rfl, by simp, fun j hj => ?_⟩
  have := cell_of_row _ _ (0 + j) _ _ _ (heap_alloc_new w (.cells #[.string X] 9))
  refine this.trans ?_
  simp [strVals]
theorem frames_snoc (ps : List (List UInt8)) (p : List UInt8) : frames (ps ++ [p]) = frames ps ++ frame p := by simp only [frames, List.flatMap_append, List.flatMap_cons, List.flatMap_nil, List.append_nil]
theorem frames_len (ps : List (List UInt8)) : 8 * ps.length ≤ (frames ps).length := by
  induction ps with
  | nil => simp [frames]
  | cons p ps ih => simp only [frames, List.flatMap_cons, List.length_append, frame_len, List.length_cons] at ih ⊢; omega

/-- How far a scan has come. -/
structure Upto (l : List UInt8) (ps : List (List UInt8)) (n : Nat) : Prop where
  whole : l = frames ps ++ l.drop n
  at_ : n = (frames ps).length
  small : ∀ p ∈ ps, p.length ≤ 65536
theorem Upto.step {l : List UInt8} {ps : List (List UInt8)} {n : Nat} {p r : List UInt8} (h : Upto l ps n) (hp : p.length ≤ 65536) (hr : l.drop n = frame p ++ r) : Upto l (ps ++ [p]) (n + 8 + p.length) := by
  have h1 : l.drop (n + 8 + p.length) = r := by
    rw [show n + 8 + p.length = n + (frame p).length by rw [frame_len]; omega, ← List.drop_drop, hr, List.drop_left]
  refine ⟨?_, ?_, ?_⟩
  · rw [h1, frames_snoc, List.append_assoc, ← hr]; exact h.whole
  · rw [frames_snoc, List.length_append, frame_len, ← h.at_]; omega
  · intro q hq
    rcases List.mem_append.1 hq with k | k
    · exact h.small q k
    · simp at k; rw [k]; exact hp
theorem Upto.le {l : List UInt8} {ps : List (List UInt8)} {n : Nat} (h : Upto l ps n) : n ≤ l.length := by
  have := congrArg List.length h.whole
  rw [List.length_append, List.length_drop, ← h.at_] at this
  omega
theorem Upto.many {l : List UInt8} {ps : List (List UInt8)} {n : Nat} (h : Upto l ps n) : 8 * ps.length ≤ n := by rw [h.at_]; exact frames_len ps
theorem Upto.stop {l : List UInt8} {ps : List (List UInt8)} {n : Nat} (h : Upto l ps n) (hf : first (l.drop n) = none) : Scanned l ps (l.drop n) := ⟨h.whole, h.small, hf⟩

def strs (ps : List (List UInt8)) : List ByteArray := ps.map str
/-- What Scan answers of a text: a new row with the payloads, and where they end. -/
def ScanAns (B : Nat) (l : List UInt8) (e : Ending) (w : World) : Prop :=
  ∃ v n ps, e = .returned (.tuple #[v, .int .i64 ((n : Nat) : Int)]) ∧ Upto l ps n ∧ first (l.drop n) = none ∧ w.ownsRow B 9 1 v ps.length (strVals (strs ps))

set_option maxRecDepth 100000 in
set_option maxHeartbeats 2000000 in
theorem scan_any (T : ByteArray) (w : World) (hT : T.size ≤ 70368744177600) :
    Calls Try.prog 21 #[.string T] w fun e w' => ScanAns w.heap.size T.data.toList e w' ∧ Below w.heap.size w w' := by
  obtain ⟨i0, hi0, hz0, hz1, hz2⟩ := info_parts infoStr
  have HLen : Hid (T.data.toList.length = T.size) := by rw [← Lib.size_eq]; exact hid_rfl
  go_enter Try.func21, Try.ntmps21
  go_wp2
  go_loopw [4, 5] (fun v i wr => ∃ (n : Nat) (ps : List (List UInt8)), n ≤ T.size ∧ i = .int .i64 n ∧ Hid (Upto T.data.toList ps n) ∧ Hid (wr.ownsRow w.heap.size 9 1 v ps.length (strVals (strs ps))) ∧ Hid (Below w.heap.size w wr)) (fun _ i _ => T.size - (intOf i).toNat)
  case atStart => exact ⟨0, [], by omega, rfl, ⟨by simp [frames], by simp [frames], by simp⟩, World.ownsRow_nil _ _ _ _, Below.refl _ _⟩
  case round =>
    obtain ⟨n, ps, hn, rfl, HU, HO, HB⟩ := hrel
    have hsr := HB.out.size
    cases hf : Fr.first (T.data.toList.drop n) with
    | none =>
      have HF : Hid _ := hf
      clear hf
      go_wp2_with fail
      refine (first_none T n _ (by omega) (by omega) (by omega) (fun _ _ => by rw [Int.toNat_natCast]; exact HF.out)).mono ?_
      rintro e w1 ⟨rfl, hb1⟩
      have hown1 := own_keep HO.out (fun k hk => hb1.block k (HO.out.lt k hk).2)
      have HO1 : Hid (w1.ownsRow w.heap.size 9 1 u4 ps.length (strVals (strs ps))) := hown1
      have HB1 : Hid (Below w.heap.size w w1) := HB.out.trans (hb1.mono hsr)
      clear hown1 hb1
      go_wp2
      go_ret2
      exact ⟨⟨_, n, ps, rfl, HU.out, HF.out, HO1.out⟩, HB1.out⟩
    | some m =>
      obtain ⟨p, r, rfl, hp, hr⟩ := first_some hf
      have hln : n + 8 + p.length ≤ T.size := by
        have h1 := congrArg List.length hr
        rw [List.length_drop, List.length_append, frame_len, HLen.out] at h1
        omega
      have HU1 : Hid (Upto T.data.toList (ps ++ [p]) (n + 8 + p.length)) := HU.out.step hp hr
      have hmany := HU.out.many
      have HR : Hid _ := hr
      clear hf hr
      go_wp2_with fail
      refine (first_at T n _ (by omega) p r hp HR.out).mono ?_
      rintro e w1 ⟨rfl, hb1⟩
      have hown1 := own_keep HO.out (fun k hk => hb1.block k (HO.out.lt k hk).2)
      have HB1 : Hid (Below w.heap.size w w1) := HB.out.trans (hb1.mono hsr)
      have hs1 := HB1.out.size
      clear hb1
      obtain ⟨X, hX⟩ : ∃ X, X = str p := ⟨_, rfl⟩
      rw [← hX]
      have HX : Hid (X = str p) := hX
      clear hX
      go_wp2_with (at_builtin; refine wpList_append_any _ rfl _ _ 22 rfl w.heap.size 9 i0 (.string ⟨#[]⟩) 16 Try.underlying22 hi0 hz0 hz1 hz2 rfl u4 ps.length (strVals (strs ps)) rfl (hown1.alloc _) (some ⟨w1.heap.size, 0, none⟩) 1 1 (strVals [X]) rfl (by simp) rfl (cells1' X) ?c0 ?c1 ?c2 ?c3 ?_)
      case c0 => intro u hu; simp [strVals] at hu; subst hu; rfl
      case c1 => unfold maxLen; omega
      case c2 => omega
      case c3 => simp; omega
      intro v2 w2 hown2 hgrow2 hat2
      have HB2 : Hid (Below w.heap.size w w2) := by
        have h1 : Below w.heap.size w (w1.alloc (.cells #[.string X] 9)) := HB1.out.alloc hs1 _
        exact h1.grown hgrow2 (by simp; omega) (fun k hk => (hown1.lt k hk).1)
      have HO2 : Hid (w2.ownsRow w.heap.size 9 1 v2 (ps ++ [p]).length (strVals (strs (ps ++ [p])))) := by
        show World.ownsRow _ _ _ _ _ _ _
        rw [List.length_append, strs, List.map_append, strVals, List.map_append]
        rw [HX.out] at hown2
        exact hown2
      clear hown1 hown2 hgrow2 hat2
      go_wp2
      go_roundw
      case rel => exact ⟨n + 8 + p.length, ps ++ [p], by omega, by go_num, HU1, HO2, HB2⟩
      case measure => simp [intOf]; omega

end Go.Proofs.Ytpiaegkeclmpgaa.Fr
