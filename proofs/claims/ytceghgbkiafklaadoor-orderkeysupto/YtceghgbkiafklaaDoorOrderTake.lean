/-
  Package order's reader: 'takePart' answers the part that stands next, if a whole one does.
-/
import Derived.Test.YtceghgbkiafklaaDoorOrderRead
namespace Go.Proofs.YtceghgbkiafklaaDoor.Od
open Go.RowKit
open Go.Proofs.YtceghgbkiafklaaDoor.Cm
attribute [local go_sem ↓] Go.wp_at_zero Go.wp_at_succ
set_option linter.unusedVariables false

/-- What takePart answers, where the bytes l are left. -/
def PartAns (w : World) (base b : Nat) (r : Option Nat) (l : List UInt8) (e : Ending) (w' : World) : Prop :=
  (¬ hasPart l ∧ (∃ q, e = .returned (.tuple #[pv q, .bool false])) ∧ ∃ r' bs' s', RAt w' base b r' bs' s' ∧ Step b w r w' r') ∨
  (∃ p rs, right p ∧ p.ok ∧ l = partB p ++ rs ∧ e = .returned (.tuple #[pv p, .bool true]) ∧ ∃ r' bs', RAt w' base b r' bs' ⟨rs.toArray⟩ ∧ Step b w r w' r')
section
variable {w w4 : World} {base b c i : Nat} {r r' : Option Nat} {bs : List UInt8} {s : ByteArray} {v : Value}
theorem RAt.other (h : RAt w base b r bs s) (hc : c ≠ b) (hr : r ≠ some c) : RAt (w.setCell ⟨c, i, none⟩ v) base b r bs s :=
  GAt.keep h (Below.heap_setCell _ _ _ _ (fun e => hc e.symm)) fun k hk => Below.heap_setCell _ _ _ _ (fun e => hr (by rw [hk]; exact congrArg some e))
theorem Step.other (h : Step b w r w4 r') (hc : w.heap.size ≤ c) : Step b w r (w4.setCell ⟨c, i, none⟩ v) r' :=
  ⟨⟨h.kept.os, h.kept.tape, h.kept.output, by simpa [World.setCell] using h.kept.size, fun k hk hb hr => (Below.heap_setCell _ _ _ _ (by simp; omega)).trans (h.kept.block k hk hb hr)⟩, h.row⟩
end
theorem in0 : inI 0 := ⟨by decide, by decide⟩
theorem in1 : inI 1 := ⟨by decide, by decide⟩
theorem in2 : inI 2 := ⟨by decide, by decide⟩
/-- A part stored into a box. -/
theorem box3 {w : World} {c : Nat} {x y z : Value} {t : TypeId} (h : w.heap[c]? = some (.cells #[x, y, z] t (0, 0))) (a b d : Value) :
    (w.setCell ⟨c, 0, none⟩ a).cell? ⟨c, 0, none⟩ = some a ∧ ((w.setCell ⟨c, 0, none⟩ a).setCell ⟨c, 1, none⟩ b).cell? ⟨c, 1, none⟩ = some b ∧ (((w.setCell ⟨c, 0, none⟩ a).setCell ⟨c, 1, none⟩ b).setCell ⟨c, 2, none⟩ d).cell? ⟨c, 2, none⟩ = some d := by
  have h1 := Joins.block_setCell h (i := 0) a
  have h2 := Joins.block_setCell h1 (i := 1) b
  have h3 := Joins.block_setCell h2 (i := 2) d
  rw [Joins.cell_of_block h1, Joins.cell_of_block h2, Joins.cell_of_block h3]
  simp
set_option maxRecDepth 100000 in
set_option maxHeartbeats 500000 in
theorem takePart_any (base b : Nat) (r : Option Nat) (bs : List UInt8) (s : ByteArray) (w : World) (hw : RAt w base b r bs s) (hm : MaxOk w) (h0 : 0 < base) (hb0 : 0 ≠ b) (hs : s.size < 4294967281) (hs1 : 0 < s.size) (hbase : base ≤ w.heap.size) :
    Calls Tryd.prog 25 #[.pointer (some ⟨b, 0, none⟩)] w fun e w' => PartAns w base b r s.data.toList e w' := by
  obtain ⟨hc, hf⟩ := hw.left
  have hlt := hw.lt
  have hrow := fun k hk => (hw.row_ge k hk)
  have hne : s.data.toList ≠ [] := fun e => by rw [Lib.size_eq, e] at hs1; simp at hs1
  obtain ⟨mk, l, hl⟩ := List.exists_cons_of_ne_nil hne
  have hix : ∀ W : World, (Instr.index 9 (.string s) (.int .i64 0)).run Tryd.prog W = .ok (.int .u8 (mk.toNat : Nat)) W := fun W => by
    have := idx_str s 0 hs1 W
    have e : s.data.toList[0]'(by rw [← Lib.size_eq]; exact hs1) = mk := by simp [hl]
    rw [e] at this
    exact this
  have hb1 : (1 : Int) ≤ (s.size : Int) := by omega
  obtain ⟨R, hR⟩ : ∃ R : ByteArray, R = ⟨l.toArray⟩ := ⟨_, rfl⟩
  have hext : s.extract 1 s.size = R := by rw [ext_drop, hl, hR]; rfl
  have HRd : Hid (R.data.toList = l) := by show _ = _; rw [hR]
  have HRs : Hid (R.size < 4294967281) := by
    show _ < _
    rw [hR, size_mk]
    have : s.size = l.length + 1 := by rw [Lib.size_eq, hl]; rfl
    omega
  have HL : Hid (s.data.toList = mk :: l) := hl
  have HW2 : Hid (∀ o, RAt ((w.setCell ⟨b, 1, none⟩ (.string R)).alloc o) base b r bs R) := fun o => GAt.alloc (hw.set R).1 o
  have HS2 : Hid (∀ o, Step b w r ((w.setCell ⟨b, 1, none⟩ (.string R)).alloc o) r) := fun o => (hw.set R).2.trans (Step.alloc b r _ o)
  have HN2 : Hid (∀ o, ((w.setCell ⟨b, 1, none⟩ (.string R)).alloc o).heap[w.heap.size]? = some o) := fun o => by
    have := heap_alloc_new (w.setCell ⟨b, 1, none⟩ (.string R)) o
    simpa [World.setCell] using this
  have HM2 : Hid (∀ o, MaxOk ((w.setCell ⟨b, 1, none⟩ (.string R)).alloc o)) := fun o => hm.step (HS2.out o) hb0 (fun k hk => (hrow k hk).1) h0
  have HZ2 : Hid (∀ o, ((w.setCell ⟨b, 1, none⟩ (.string R)).alloc o).heap.size = w.heap.size + 1) := fun o => by simp [World.setCell]
  clear hR hl hne hw
  have HBox : Hid (∀ (w3 : World) (r3 : Option Nat) (o : Obj), Step b ((w.setCell ⟨b, 1, none⟩ (.string R)).alloc o) r w3 r3 → w3.heap[w.heap.size]? = some o ∧ r3 ≠ some w.heap.size) := fun w3 r3 o st => by
    have hz := HZ2.out o
    refine ⟨(st.kept.block w.heap.size (by omega) (by omega) (fun e => by have := (hrow _ e.symm).2.1; omega)).trans (HN2.out o), fun e => ?_⟩
    rcases st.row with h | ⟨g, h, hg⟩
    · have := (hrow w.heap.size (by rw [← h, e])).2.1; omega
    · rw [h] at e; simp at e; omega
  have hcb : w.heap.size ≠ b := by omega
  by_cases h1 : mk = 1
  · subst h1
    go_enter Tryd.func25, Tryd.ntmps25
    go_wp2_with fail
    refine (takeInt_any base b r bs R _ (HW2.out _) (by have := HRs.out; omega)).mono ?_
    rintro e w3 (⟨hsh, rfl, rfl⟩ | ⟨hlg, rfl, hw3, st3⟩)
    · rw [HRd.out] at hsh
      have HNO : Hid (¬ hasPart s.data.toList) := by show ¬ _; rw [HL.out]; exact noPart_int hsh
      have HR3 : Hid _ := HW2.out (.cells #[.int .i64 0, .int .i64 0, .string ⟨#[]⟩] 25)
      have HS3 : Hid _ := HS2.out (.cells #[.int .i64 0, .int .i64 0, .string ⟨#[]⟩] 25)
      have HX3 : Hid _ := HBox.out _ r (.cells #[.int .i64 0, .int .i64 0, .string ⟨#[]⟩] 25) (Step.refl _ _ _)
      generalize hw3 : ((w.setCell ⟨b, 1, none⟩ (.string R)).alloc (.cells #[.int .i64 0, .int .i64 0, .string ⟨#[]⟩] 25)) = w3 at *
      clear hw3
      go_wp2_with fail
      refine (intPart_any 0 _).mono ?_
      rintro e w4 ⟨rfl, hb4⟩
      have hblk : w4.heap[w.heap.size]? = some (.cells #[.int .i64 0, .int .i64 0, .string ⟨#[]⟩] 25 (0, 0)) := (hb4.block _ (lt_of_block HX3.out.1)).trans HX3.out.1
      have q0 : w4.cell? ⟨w.heap.size, 0, none⟩ = some (.int .i64 0) := by rw [Joins.cell_of_block hblk]; rfl
      have q1 : w4.cell? ⟨w.heap.size, 1, none⟩ = some (.int .i64 0) := by rw [Joins.cell_of_block hblk]; rfl
      have q2 : w4.cell? ⟨w.heap.size, 2, none⟩ = some (.string ⟨#[]⟩) := by rw [Joins.cell_of_block hblk]; rfl
      have qf : ∀ i, w4.frozen? ⟨w.heap.size, i, none⟩ = false := fun i => by simp [World.frozen?, hblk]
      have f0 := qf 0
      have f1 := qf 1
      have f2 := qf 2
      have HR4 : Hid _ := GAt.below HR3.out hb4
      have HS4 : Hid _ := HS3.out.trans (Step.of_below hb4)
      obtain ⟨g0, g1, g2⟩ := box3 hblk (.int .i64 1) (.int .i64 0) (.string ⟨#[]⟩)
      clear qf hb4 hblk
      unfold pv intP
      go_wp2
      refine bodyPost_ret (by simp [results, Tryd.results25, go_sem, g0, g1, g2]; try rfl) rfl ?_
      exact .inl ⟨HNO.out, ⟨⟨1, 0, ⟨#[]⟩⟩, rfl⟩, r, bs, R, RAt.other (RAt.other (RAt.other HR4.out hcb HX3.out.2) hcb HX3.out.2) hcb HX3.out.2, Step.other (Step.other (Step.other HS4.out (Nat.le_refl _)) (Nat.le_refl _)) (Nat.le_refl _)⟩
    · rw [HRd.out] at hlg hw3
      have hl8 : (l.take 8).length = 8 := by rw [List.length_take]; omega
      have HP : Hid (s.data.toList = partB ⟨1, numOf (l.take 8), ⟨#[]⟩⟩ ++ l.drop 8) := by
        show _ = _
        rw [HL.out]
        simp only [partB, if_true, numB_numOf hl8, List.cons_append, List.take_append_drop]
      have HO : Hid (inI (numOf (l.take 8))) := numOf_in hl8
      rw [HRd.out]
      generalize numOf (l.take 8) = n at *
      have HX3 : Hid _ := HBox.out _ r (.cells #[.int .i64 0, .int .i64 0, .string ⟨#[]⟩] 25) st3
      have HR3 : Hid (RAt w3 base b r bs ⟨(l.drop 8).toArray⟩) := hw3
      have HS3 : Hid (Step b w r w3 r) := (HS2.out _).trans st3
      clear hw3 st3 hl8 hlg
      go_wp2_with fail
      refine (intPart_any n _).mono ?_
      rintro e w4 ⟨rfl, hb4⟩
      have hblk : w4.heap[w.heap.size]? = some (.cells #[.int .i64 0, .int .i64 0, .string ⟨#[]⟩] 25 (0, 0)) := (hb4.block _ (lt_of_block HX3.out.1)).trans HX3.out.1
      have q0 : w4.cell? ⟨w.heap.size, 0, none⟩ = some (.int .i64 0) := by rw [Joins.cell_of_block hblk]; rfl
      have q1 : w4.cell? ⟨w.heap.size, 1, none⟩ = some (.int .i64 0) := by rw [Joins.cell_of_block hblk]; rfl
      have q2 : w4.cell? ⟨w.heap.size, 2, none⟩ = some (.string ⟨#[]⟩) := by rw [Joins.cell_of_block hblk]; rfl
      have qf : ∀ i, w4.frozen? ⟨w.heap.size, i, none⟩ = false := fun i => by simp [World.frozen?, hblk]
      have f0 := qf 0
      have f1 := qf 1
      have f2 := qf 2
      have HR4 : Hid _ := GAt.below HR3.out hb4
      have HS4 : Hid _ := HS3.out.trans (Step.of_below hb4)
      obtain ⟨g0, g1, g2⟩ := box3 hblk (.int .i64 1) (.int .i64 n) (.string ⟨#[]⟩)
      clear qf hb4 hblk
      unfold pv intP
      go_wp2
      refine bodyPost_ret (by simp [results, Tryd.results25, go_sem, g0, g1, g2]; try rfl) rfl ?_
      have hX := HX3.out.2
      have hRR := RAt.other (i := 2) (v := .string ⟨#[]⟩) (RAt.other (i := 1) (v := .int .i64 n) (RAt.other (i := 0) (v := .int .i64 1) HR4.out hcb hX) hcb hX) hcb hX
      have hSS := Step.other (i := 2) (v := .string ⟨#[]⟩) (Step.other (i := 1) (v := .int .i64 n) (Step.other (i := 0) (v := .int .i64 1) HS4.out (Nat.le_refl _)) (Nat.le_refl _)) (Nat.le_refl _)
      exact .inr ⟨⟨1, n, ⟨#[]⟩⟩, l.drop 8, .inl ⟨rfl, rfl⟩, ⟨in1, HO.out⟩, HP.out, rfl, r, bs, hRR, hSS⟩
  · have n1 : ((mk.toNat : Int) == 1) = false := by
      simp only [beq_eq_false_iff_ne, ne_eq]
      intro h
      exact h1 (UInt8.toNat.inj (by show mk.toNat = 1; omega))
    by_cases h2 : mk = 2
    · subst h2
      clear h1 n1
      go_enter Tryd.func25, Tryd.ntmps25
      go_wp2_with fail
      refine (takeText_any base b r bs R _ (HW2.out _) (HM2.out _) h0 hb0 HRs.out (by rw [HZ2.out]; omega)).mono ?_
      rintro e w3 (⟨hno, rfl, r3, bs3, s3, hw3, st3⟩ | ⟨t, rs, hl3, rfl, r3, hw3, st3⟩)
      · rw [HRd.out] at hno
        have HNO : Hid (¬ hasPart s.data.toList) := by show ¬ _; rw [HL.out]; exact noPart_text hno
        have HX3 : Hid _ := HBox.out _ r3 (.cells #[.int .i64 0, .int .i64 0, .string ⟨#[]⟩] 25) st3
        have HR3 : Hid (RAt w3 base b r3 bs3 s3) := hw3
        have HS3 : Hid (Step b w r w3 r3) := (HS2.out _).trans st3
        clear hw3 st3 hno
        go_wp2_with fail
        refine (textPart_any ⟨#[]⟩ _).mono ?_
        rintro e w4 ⟨rfl, hb4⟩
        have hblk : w4.heap[w.heap.size]? = some (.cells #[.int .i64 0, .int .i64 0, .string ⟨#[]⟩] 25 (0, 0)) := (hb4.block _ (lt_of_block HX3.out.1)).trans HX3.out.1
        have q0 : w4.cell? ⟨w.heap.size, 0, none⟩ = some (.int .i64 0) := by rw [Joins.cell_of_block hblk]; rfl
        have q1 : w4.cell? ⟨w.heap.size, 1, none⟩ = some (.int .i64 0) := by rw [Joins.cell_of_block hblk]; rfl
        have q2 : w4.cell? ⟨w.heap.size, 2, none⟩ = some (.string ⟨#[]⟩) := by rw [Joins.cell_of_block hblk]; rfl
        have qf : ∀ i, w4.frozen? ⟨w.heap.size, i, none⟩ = false := fun i => by simp [World.frozen?, hblk]
        have f0 := qf 0
        have f1 := qf 1
        have f2 := qf 2
        have HR4 : Hid _ := GAt.below HR3.out hb4
        have HS4 : Hid _ := HS3.out.trans (Step.of_below hb4)
        obtain ⟨g0, g1, g2⟩ := box3 hblk (.int .i64 2) (.int .i64 0) (.string ⟨#[]⟩)
        clear qf hb4 hblk
        unfold pv textP
        go_wp2
        refine bodyPost_ret (by simp [results, Tryd.results25, go_sem, g0, g1, g2]; try rfl) rfl ?_
        have hX := HX3.out.2
        have hRR := RAt.other (i := 2) (v := .string ⟨#[]⟩) (RAt.other (i := 1) (v := .int .i64 0) (RAt.other (i := 0) (v := .int .i64 2) HR4.out hcb hX) hcb hX) hcb hX
        have hSS := Step.other (i := 2) (v := .string ⟨#[]⟩) (Step.other (i := 1) (v := .int .i64 0) (Step.other (i := 0) (v := .int .i64 2) HS4.out (Nat.le_refl _)) (Nat.le_refl _)) (Nat.le_refl _)
        exact .inl ⟨HNO.out, ⟨⟨2, 0, ⟨#[]⟩⟩, rfl⟩, r3, bs3, s3, hRR, hSS⟩
      · rw [HRd.out] at hl3
        have HP : Hid (s.data.toList = partB ⟨2, 0, ⟨t.toArray⟩⟩ ++ rs) := by
          show _ = _
          rw [HL.out, hl3]
          simp [partB, Pt.t]
        have HX3 : Hid _ := HBox.out _ r3 (.cells #[.int .i64 0, .int .i64 0, .string ⟨#[]⟩] 25) st3
        have HR3 : Hid (RAt w3 base b r3 t ⟨rs.toArray⟩) := hw3
        have HS3 : Hid (Step b w r w3 r3) := (HS2.out _).trans st3
        clear hw3 st3 hl3
        go_wp2_with fail
        refine (textPart_any ⟨t.toArray⟩ _).mono ?_
        rintro e w4 ⟨rfl, hb4⟩
        have hblk : w4.heap[w.heap.size]? = some (.cells #[.int .i64 0, .int .i64 0, .string ⟨#[]⟩] 25 (0, 0)) := (hb4.block _ (lt_of_block HX3.out.1)).trans HX3.out.1
        have q0 : w4.cell? ⟨w.heap.size, 0, none⟩ = some (.int .i64 0) := by rw [Joins.cell_of_block hblk]; rfl
        have q1 : w4.cell? ⟨w.heap.size, 1, none⟩ = some (.int .i64 0) := by rw [Joins.cell_of_block hblk]; rfl
        have q2 : w4.cell? ⟨w.heap.size, 2, none⟩ = some (.string ⟨#[]⟩) := by rw [Joins.cell_of_block hblk]; rfl
        have qf : ∀ i, w4.frozen? ⟨w.heap.size, i, none⟩ = false := fun i => by simp [World.frozen?, hblk]
        have f0 := qf 0
        have f1 := qf 1
        have f2 := qf 2
        have HR4 : Hid _ := GAt.below HR3.out hb4
        have HS4 : Hid _ := HS3.out.trans (Step.of_below hb4)
        obtain ⟨g0, g1, g2⟩ := box3 hblk (.int .i64 2) (.int .i64 0) (.string ⟨t.toArray⟩)
        clear qf hb4 hblk
        unfold pv textP
        go_wp2
        refine bodyPost_ret (by simp [results, Tryd.results25, go_sem, g0, g1, g2]; try rfl) rfl ?_
        have hX := HX3.out.2
        have hRR := RAt.other (i := 2) (v := .string ⟨t.toArray⟩) (RAt.other (i := 1) (v := .int .i64 0) (RAt.other (i := 0) (v := .int .i64 2) HR4.out hcb hX) hcb hX) hcb hX
        have hSS := Step.other (i := 2) (v := .string ⟨t.toArray⟩) (Step.other (i := 1) (v := .int .i64 0) (Step.other (i := 0) (v := .int .i64 2) HS4.out (Nat.le_refl _)) (Nat.le_refl _)) (Nat.le_refl _)
        exact .inr ⟨⟨2, 0, ⟨t.toArray⟩⟩, rs, .inr ⟨rfl, rfl⟩, ⟨in2, in0⟩, HP.out, rfl, r3, t, hRR, hSS⟩
    · have n2 : ((mk.toNat : Int) == 2) = false := by
        simp only [beq_eq_false_iff_ne, ne_eq]
        intro h
        exact h2 (UInt8.toNat.inj (by show mk.toNat = 2; omega))
      have HNO : Hid (¬ hasPart s.data.toList) := by show ¬ _; rw [HL.out]; exact noPart_mark h1 h2
      go_enter Tryd.func25, Tryd.ntmps25
      go_wp2
      go_returns
      exact .inl ⟨HNO.out, ⟨⟨0, 0, ⟨#[]⟩⟩, rfl⟩, r, bs, R, HW2.out _, HS2.out _⟩
end Go.Proofs.YtceghgbkiafklaaDoor.Od
