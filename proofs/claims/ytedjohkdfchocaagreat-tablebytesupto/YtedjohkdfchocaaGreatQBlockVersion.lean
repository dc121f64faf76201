/-
  The texts BlockVersion.
-/
import Derived.Test.YtedjohkdfchocaaGreatQBlockRead

/-
  Package block's reader: the next version as it stands there.
-/
namespace Go.Proofs.YtedjohkdfchocaaGreat.Bk
open Go.RowKit Cm Mm
open Pk (WrAt RdAt Step enc enc_len fold text)
set_option linter.unusedVariables false

/-- The next piece, of one that shares no more than n bytes. -/
def VAns (w : World) (b : Nat) (s : ByteArray) (n : Nat) (e : Ending) (w' : World) : Prop := Ans RdAt w b (bs s) Pc.bytes (fun p : Pc => p.Ok ∧ p.share ≤ n) (fun p => .tuple #[pcv p, .int .i64 0]) (.tuple #[pcv Pc.zero, .int .i64 1]) e w'
theorem zero_not {n : Nat} {l : List UInt8} (h : ∀ m t, m ≤ n → l ≠ enc m ++ t) (p : Pc) (t : List UInt8) (hp : p.Ok ∧ p.share ≤ n) : l ≠ p.bytes ++ t := by
  unfold Pc.bytes
  rw [List.append_assoc]
  exact h _ _ hp.2
set_option maxRecDepth 100000 in
set_option maxHeartbeats 2000000 in
theorem rversion_ans (q b : Nat) (v1 : Value) (ao : Option Addr) (n c : Nat) (s : ByteArray) (w : World) (hq : w.heap[q]? = some (brObj b v1 (.slice ao n c))) (hr : RdAt w b s) (hs : s.size ≤ 1000000000000) (hn : n ≤ 1000000000000) :
    Calls Tryz.prog 82 #[.pointer (some ⟨q, 0, none⟩)] w fun e w' => VAns w b s n e w' := by
  have hl := lt_of_block hq
  have hrl := hr.lt
  obtain ⟨w0, hw0⟩ : ∃ w0, w0 = w.alloc (.cells #[.string ⟨#[]⟩, .int .i64 0, .bool false, .string ⟨#[]⟩, .int .i64 0] 144) := ⟨_, rfl⟩
  have hq0 : w0.heap[q]? = some (brObj b v1 (.slice ao n c)) := by rw [hw0]; exact (Below.heap_alloc _ _ _ hl).trans hq
  have hr0 : RdAt w0 b s := by rw [hw0]; exact hr.alloc _
  have hg0 : w0.heap[w.heap.size]? = some (pcObj Pc.zero) := by rw [hw0]; exact heap_alloc_new w _
  have hs0 : Step b w none w0 none := by rw [hw0]; exact Step.alloc _ _ _ _
  have hbg : b ≠ w.heap.size := by omega
  have HBox : Hid (∀ X, Step b w0 none X none → X.heap[w.heap.size]? = some (pcObj Pc.zero)) := fun X h => (h.kept.block _ (lt_of_block hg0) (Ne.symm hbg) (by simp)).trans hg0
  have HQ : Hid (∀ X, Step b w0 none X none → X.heap[q]? = some (brObj b v1 (.slice ao n c))) := fun X h => br_step hq0 hr0 h
  have HBad : Hid (∀ X, Step b w0 none X none → ∀ s', RdAt X b s' → s'.size ≤ s.size → (∀ (p : Pc) t, p.Ok ∧ p.share ≤ n → bs s ≠ p.bytes ++ t) → VAns w b s n (.returned (.tuple #[pcv Pc.zero, .int .i64 1])) (((((X.setCell ⟨w.heap.size, 0, none⟩ (.string ⟨#[]⟩)).setCell ⟨w.heap.size, 1, none⟩ (.int .i64 0)).setCell ⟨w.heap.size, 2, none⟩ (.bool false)).setCell ⟨w.heap.size, 3, none⟩ (.string ⟨#[]⟩)).setCell ⟨w.heap.size, 4, none⟩ (.int .i64 0))) := fun X hX s' h1 h2 h3 =>
    Ans.miss h3 s' (pc_keep h1 hbg _ _ _ _ _) (by rw [bs_len]; exact h2) (pc_store (hs0.trans hX) (Nat.le_refl _) _ _ _ _ _)
  have HS0 : Hid _ := hs0
  clear hl hrl hg0 hq hr hs0
  go_enter Tryz.func82, Tryz.ntmps82
  go_wp2_with fail
  rw [← hw0]
  refine (share_ans q b v1 ao n c s _ hq0 hr0 hs hn).mono ?_
  rintro e w1 (⟨m, s1, hm, hl1, rfl, hr1, hs1⟩ | ⟨hno, rfl, ⟨s1, hr1, hz1⟩, hs1⟩)
  · obtain ⟨c0, _, _, _⟩ := br_cells (HQ.out w1 hs1)
    have hz1 : s1.size ≤ s.size := by have := rest_len hl1; rwa [bs_len] at this
    have HL1 : Hid _ := hl1
    have HS1 : Hid _ := hs1
    clear hl1 hs1
    go_wp2_with fail
    refine (text_ans b s1 _ hr1 (by omega)).mono ?_
    rintro e w2 (⟨r, s2, hok2, hl2, rfl, hr2, hs2⟩ | ⟨hno, rfl, ⟨s2, hr2, hz2⟩, hs2⟩)
    · have HS2 : Hid _ := HS1.out.trans hs2
      obtain ⟨c0, _, _, _⟩ := br_cells (HQ.out w2 HS2.out)
      have hz2 : s2.size ≤ s1.size := by have := rest_len hl2; rwa [bs_len] at this
      have HL2 : Hid _ := hl2
      clear hl2 hs2 HS1 hr1
      go_wp2_with fail
      refine (int_ans b s2 _ hr2 (by omega)).mono ?_
      rintro e w3 (⟨i, s3, hok3, hl3, rfl, hr3, hs3⟩ | ⟨hno, rfl, ⟨s3, hr3, hz3⟩, hs3⟩)
      · have HS3 : Hid _ := HS2.out.trans hs3
        obtain ⟨c0, _, _, _⟩ := br_cells (HQ.out w3 HS3.out)
        have hz3 : s3.size ≤ s2.size := by have := rest_len hl3; rwa [bs_len] at this
        have HL3 : Hid _ := hl3
        clear hl3 hs3 HS2 hr2
        have hv := value_ans q b v1 (.slice ao n c) s3 w3 (HQ.out w3 HS3.out) hr3 (by omega)
        go_wp2_with fail
        refine hv.mono ?_
        rintro e w4 (⟨x, s4, hok4, hl4, rfl, hr4, hs4⟩ | ⟨hno, rfl, ⟨s4, hr4, hz4⟩, hs4⟩)
        · obtain ⟨d, v⟩ := x
          have HS4 : Hid _ := HS3.out.trans hs4
          obtain ⟨b0, b1, b2, b3, b4, bf⟩ := pc_cells (HBox.out w4 HS4.out)
          have f0 := bf 0
          have f1 := bf 1
          have f2 := bf 2
          have f3 := bf 3
          have f4 := bf 4
          obtain ⟨g0, g1, g2, g3, g4⟩ := pc_set (HBox.out w4 HS4.out) (.string r) (.int .i64 i) (.bool d) (.string v) (.int .i64 m)
          unfold Pc.zero at b0 b1 b2 b3 b4
          have HA : Hid (VAns w b s n (.returned (.tuple #[pcv ⟨m, r, i, d, v⟩, .int .i64 0])) (((((w4.setCell ⟨w.heap.size, 0, none⟩ (.string r)).setCell ⟨w.heap.size, 1, none⟩ (.int .i64 i)).setCell ⟨w.heap.size, 2, none⟩ (.bool d)).setCell ⟨w.heap.size, 3, none⟩ (.string v)).setCell ⟨w.heap.size, 4, none⟩ (.int .i64 m))) := by
            refine Ans.good (ret := fun p : Pc => .tuple #[pcv p, .int .i64 0]) ⟨m, r, i, d, v⟩ s4 ⟨⟨hok3.1, hok3.2, by show m < _; omega, hok2, hok4.1, hok4.2⟩, hm⟩ ?_ (pc_keep hr4 hbg _ _ _ _ _) (pc_store (HS0.out.trans HS4.out) (Nat.le_refl _) _ _ _ _ _)
            rw [HL1.out, HL2.out, HL3.out, hl4]
            unfold Pc.bytes
            simp only [List.append_assoc]
          clear hl4 hs4 hr4 hr3 HS3 HS4 hv HQ HBox HBad HL1 HL2 HL3 bf hok4 hok3 hok2
          unfold pcv at HA
          go_wp2
          refine bodyPost_ret (by simp [results, Tryz.results82, go_sem, g0, g1, g2, g3, g4]; try rfl) rfl ?_
          exact HA.out
        · have HA : Hid _ := HBad.out w4 (HS3.out.trans hs4) s4 hr4 (by rw [bs_len] at hz4; omega) (fun p t hp e => by
            rw [HL1.out, HL2.out, HL3.out] at e
            unfold Pc.bytes at e
            simp only [List.append_assoc] at e
            obtain ⟨e1, e⟩ := enc_free (by omega) (by have := hp.1.share; omega) e
            obtain ⟨e2, e⟩ := text_free (by rw [bs_len]; unfold OkText at hok2; omega) (by rw [bs_len]; have := hp.1.rest; omega) e
            obtain ⟨e3, e⟩ := enc_free (Pk.fold_lt hok3.1 hok3.2) (Pk.fold_lt hp.1.lo hp.1.hi) e
            exact hno (p.dead, p.val) t ⟨hp.1.val, hp.1.dead⟩ e)
          obtain ⟨b0, b1, b2, b3, b4, bf⟩ := pc_cells (HBox.out w4 (HS3.out.trans hs4))
          have f0 := bf 0
          have f1 := bf 1
          have f2 := bf 2
          have f3 := bf 3
          have f4 := bf 4
          obtain ⟨g0, g1, g2, g3, g4⟩ := pc_set (HBox.out w4 (HS3.out.trans hs4)) (.string ⟨#[]⟩) (.int .i64 0) (.bool false) (.string ⟨#[]⟩) (.int .i64 0)
          unfold Pc.zero at b0 b1 b2 b3 b4
          clear hs4 hr4 hr3 HS3 hv HQ HBox HBad HL1 HL2 HL3 bf hok3 hok2 hno
          unfold pcv Pc.zero at HA
          go_wp2
          refine bodyPost_ret (by simp [results, Tryz.results82, go_sem, g0, g1, g2, g3, g4]; try rfl) rfl ?_
          exact HA.out
      · have HA : Hid _ := HBad.out w3 (HS2.out.trans hs3) s3 hr3 (by rw [bs_len] at hz3; omega) (fun p t hp e => by
          rw [HL1.out, HL2.out] at e
          unfold Pc.bytes at e
          simp only [List.append_assoc] at e
          obtain ⟨e1, e⟩ := enc_free (by omega) (by have := hp.1.share; omega) e
          obtain ⟨e2, e⟩ := text_free (by rw [bs_len]; unfold OkText at hok2; omega) (by rw [bs_len]; have := hp.1.rest; omega) e
          exact hno p.seq _ ⟨hp.1.lo, hp.1.hi⟩ e)
        obtain ⟨b0, b1, b2, b3, b4, bf⟩ := pc_cells (HBox.out w3 (HS2.out.trans hs3))
        have f0 := bf 0
        have f1 := bf 1
        have f2 := bf 2
        have f3 := bf 3
        have f4 := bf 4
        obtain ⟨g0, g1, g2, g3, g4⟩ := pc_set (HBox.out w3 (HS2.out.trans hs3)) (.string ⟨#[]⟩) (.int .i64 0) (.bool false) (.string ⟨#[]⟩) (.int .i64 0)
        unfold Pc.zero at b0 b1 b2 b3 b4
        clear hs3 hr3 hr2 HS2 HQ HBox HBad HL1 HL2 bf hok2 hno
        unfold pcv Pc.zero at HA
        go_wp2
        refine bodyPost_ret (by simp [results, Tryz.results82, go_sem, g0, g1, g2, g3, g4]; try rfl) rfl ?_
        exact HA.out
    · have HA : Hid _ := HBad.out w2 (HS1.out.trans hs2) s2 hr2 (by rw [bs_len] at hz2; omega) (fun p t hp e => by
        rw [HL1.out] at e
        unfold Pc.bytes at e
        simp only [List.append_assoc] at e
        obtain ⟨e1, e⟩ := enc_free (by omega) (by have := hp.1.share; omega) e
        exact hno p.rest _ hp.1.rest e)
      obtain ⟨b0, b1, b2, b3, b4, bf⟩ := pc_cells (HBox.out w2 (HS1.out.trans hs2))
      have f0 := bf 0
      have f1 := bf 1
      have f2 := bf 2
      have f3 := bf 3
      have f4 := bf 4
      obtain ⟨g0, g1, g2, g3, g4⟩ := pc_set (HBox.out w2 (HS1.out.trans hs2)) (.string ⟨#[]⟩) (.int .i64 0) (.bool false) (.string ⟨#[]⟩) (.int .i64 0)
      unfold Pc.zero at b0 b1 b2 b3 b4
      clear hs2 hr2 hr1 HS1 HQ HBox HBad HL1 bf hno
      unfold pcv Pc.zero at HA
      go_wp2
      refine bodyPost_ret (by simp [results, Tryz.results82, go_sem, g0, g1, g2, g3, g4]; try rfl) rfl ?_
      exact HA.out
  · have HA : Hid _ := HBad.out w1 hs1 s1 hr1 (by rw [bs_len] at hz1; omega) (fun p t hp e => by
      exact zero_not hno p t hp e)
    obtain ⟨b0, b1, b2, b3, b4, bf⟩ := pc_cells (HBox.out w1 hs1)
    have f0 := bf 0
    have f1 := bf 1
    have f2 := bf 2
    have f3 := bf 3
    have f4 := bf 4
    obtain ⟨g0, g1, g2, g3, g4⟩ := pc_set (HBox.out w1 hs1) (.string ⟨#[]⟩) (.int .i64 0) (.bool false) (.string ⟨#[]⟩) (.int .i64 0)
    unfold Pc.zero at b0 b1 b2 b3 b4
    clear hs1 hr1 HQ HBox HBad bf hno
    unfold pcv Pc.zero at HA
    go_wp2
    refine bodyPost_ret (by simp [results, Tryz.results82, go_sem, g0, g1, g2, g3, g4]; try rfl) rfl ?_
    exact HA.out
end Go.Proofs.YtedjohkdfchocaaGreat.Bk
