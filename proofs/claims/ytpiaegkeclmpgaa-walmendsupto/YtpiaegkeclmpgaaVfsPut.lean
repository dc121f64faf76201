/-
  Package vfs: a file with bytes more is put.
-/
import Derived.Test.YtpiaegkeclmpgaaVfsLeft
namespace Go.Proofs.Ytpiaegkeclmpgaa.Vf
open Go.RowKit Cm
attribute [local go_sem ↓] Go.wp_at_zero Go.wp_at_succ
set_option linter.unusedVariables false

def cat (xs : List ByteArray) : List UInt8 := xs.flatMap fun s => s.data.toList
theorem cat_snoc (xs : List ByteArray) (k : Nat) (h : k < xs.length) : cat (xs.take (k + 1)) = cat (xs.take k) ++ (xs.getD k ByteArray.empty).data.toList := by
  unfold cat; rw [List.take_succ_eq_append_getElem h, getD_lt _ _ _ h, List.flatMap_append]; simp
theorem cat_len (xs : List ByteArray) : (cat xs).length = total xs := by
  induction xs with
  | nil => rfl
  | cons x xs ih => simp only [cat, total, List.flatMap_cons, List.length_append, List.map_cons, List.sum_cons] at ih ⊢; rw [ih, Lib.size_eq]
theorem total_take (xs : List ByteArray) (k : Nat) : total (xs.take k) ≤ total xs := by
  conv => rhs; rw [← List.take_append_drop k xs]
  simp only [total, List.map_append, List.sum_append]
  omega
theorem total_at (xs : List ByteArray) (k : Nat) (h : k < xs.length) : total (xs.take k) + (xs.getD k ByteArray.empty).size ≤ total xs := by
  have h1 := total_take xs (k + 1)
  rw [List.take_succ_eq_append_getElem h] at h1
  simp only [total, List.map_append, List.sum_append, List.map_cons, List.map_nil, List.sum_cons, List.sum_nil] at h1 ⊢
  rw [getD_lt _ _ _ h]
  omega

/-- All but the file x. -/
structure Pieces (w : World) (S : Nat → Prop) (b bm : Nat) (fo : Option Nat) (V : Lit → Option Value) (s : St) (x : Name) : Prop where
  head : w.heap[b]? = some (head s fo bm)
  sb : S b
  sm : S bm
  fates : FatesO w S bm fo s.fates
  map : MapAt w Try.prog 9 bm s.cnt V
  files : Files w S V s.files (fun y => y = x)
/-- The row u is none of another file. -/
def Apart (V : Lit → Option Value) (x : Name) (u : Value) : Prop := ∀ y v m, y ≠ x → V (.string y) = some (fv v m) → u.ownBlock = none ∨ u.ownBlock ≠ v.ownBlock
theorem Pieces.mono {w : World} {S T : Nat → Prop} {b bm : Nat} {fo : Option Nat} {V : Lit → Option Value} {s : St} {x : Name} (h : Pieces w S b bm fo V s x) (hs : ∀ k, S k → T k) : Pieces w T b bm fo V s x :=
  ⟨h.head, hs _ h.sb, hs _ h.sm, h.fates.mono hs, h.map, h.files.mono hs⟩
/-- What changes other blocks, or the row of u, leaves the pieces. -/
theorem Pieces.keep {w w' : World} {S : Nat → Prop} {b bm : Nat} {fo : Option Nat} {V : Lit → Option Value} {s : St} {x : Name} {u : Value} {bs : List UInt8} (h : Pieces w S b bm fo V s x) (hR : RowAt w S u bs) (hA : Apart V x u)
    (hk : ∀ k, S k → k < w.heap.size → (∀ cs fr, w.heap[k]? ≠ some (.cells cs 64 fr)) → some k ≠ u.ownBlock → w'.heap[k]? = w.heap[k]?) : Pieces w' S b bm fo V s x := by
  have hmap : ∀ {t : TypeId} {k n : Nat} {G : Lit → Option Value}, MapAt w Try.prog t k n G → some k ≠ u.ownBlock := fun {t k n G} hG e => by
    rcases hR.1.2 with ⟨rfl, _⟩ | ⟨g, cap, cur, rfl, _, hg, _⟩
    · simp [Value.ownBlock] at e
    · simp [Value.ownBlock] at e
      subst e
      exact hG.no_cells hg
  refine ⟨?_, h.sb, h.sm, ?_, h.map.keep (hk bm h.sm h.map.lt (fun cs fr => h.map.no_cells) (hmap h.map)), ⟨h.files.dom, h.files.short, fun y f hy hf => ?_, h.files.apart⟩⟩
  · exact (hk b h.sb (lt_of_block h.head) (fun cs fr e => by rw [h.head] at e; simp [Vf.head] at e) fun e => own_far hR.1 (show w.heap[b]? = some (.cells _ _ _) from h.head) (by decide) e.symm).trans h.head
  · rcases h.fates with q | ⟨bf, n, e, hn, q1, G, q2, q3⟩
    · exact .inl q
    · exact .inr ⟨bf, n, e, hn, q1, G, q2.keep (hk bf q1 q2.lt (fun cs fr => q2.no_cells) (hmap q2)), q3⟩
  · obtain ⟨v, q1, q2, q3⟩ := h.files.some_ y f hy hf
    refine ⟨v, q1, ⟨own_keep q2.1 fun k e => hk k (q2.2 k e) (q2.1.lt k e).2 (fun cs fr e2 => own_far q2.1 e2 (by decide) e) fun e2 => ?_, q2.2⟩, q3⟩
    rcases hA y v f.synced hy q1 with q | q
    · rw [q] at e2; cases e2
    · exact q (by rw [← e2, e])
theorem FSV.opened {w : World} {S : Nat → Prop} {b : Nat} {s : St} {V : Lit → Option Value} (h : FSV w S b s V) (x : Name) : ∃ fo bm ao l c, Pieces w S b bm fo V s x ∧ (V (.string x)).getD zeroF = fv (.slice ao l c) (s.old x).synced ∧ (V (.string x)).isSome = (s.files x).isSome ∧
    RowAt w S (.slice ao l c) (s.old x).bytes ∧ (s.old x).synced ≤ (s.old x).bytes.length ∧ Apart V x (.slice ao l c) ∧ (∀ v, V (.string x) = some v → v = fv (.slice ao l c) (s.old x).synced) ∧ l = (s.old x).bytes.length := by
  obtain ⟨fo, bm, h1, h2, h3, h4, h5, h6⟩ := h
  have hP : Pieces w S b bm fo V s x := ⟨h1, h2, h3, h4, h5, ⟨h6.dom, h6.short, fun y f _ => h6.some_ y f (by simp), fun y z u n v m hyz _ _ => h6.apart y z u n v m hyz (by simp) (by simp)⟩⟩
  cases hx : s.files x with
  | none =>
    have hv : V (.string x) = none := by have := h6.dom x; rw [hx] at this; simpa using this
    have ho : s.old x = ⟨[], 0⟩ := by unfold St.old; rw [hx]; rfl
    rw [ho]
    exact ⟨fo, bm, none, 0, 0, hP, by rw [hv]; rfl, by rw [hv]; rfl, ⟨World.ownsRow_nil _ _ _ _, fun k e => by simp [Value.ownBlock] at e⟩, Nat.le_refl _, fun y v m _ _ => .inl rfl, fun v e => (by cases hv.symm.trans e), rfl⟩
  | some f =>
    obtain ⟨u, q1, q2, q3⟩ := h6.some_ x f (by simp) hx
    have ho : s.old x = f := by unfold St.old; rw [hx]; rfl
    rw [ho]
    obtain ⟨ao, l, c, rfl⟩ : ∃ ao l c, u = .slice ao l c := by
      rcases own_form' q2.1 with rfl | ⟨g, c, rfl⟩
      · exact ⟨_, _, _, rfl⟩
      · exact ⟨_, _, _, rfl⟩
    exact ⟨fo, bm, ao, l, c, hP, by rw [q1]; rfl, by rw [q1]; rfl, q2, q3, fun y v m hy hv => h6.apart x y _ _ v m hy.symm (by simp) (by simp) q1 hv, fun v e => Option.some.inj (e.symm.trans q1), by rcases q2.1.2 with ⟨e, h0⟩ | ⟨g, cap, cur, e, _⟩ <;> simp at e <;> omega⟩

theorem FSAt.opened {w : World} {S : Nat → Prop} {b : Nat} {s : St} (h : FSAt w S b s) (x : Name) : ∃ fo bm V ao l c, Pieces w S b bm fo V s x ∧ (V (.string x)).getD zeroF = fv (.slice ao l c) (s.old x).synced ∧ (V (.string x)).isSome = (s.files x).isSome ∧
    RowAt w S (.slice ao l c) (s.old x).bytes ∧ (s.old x).synced ≤ (s.old x).bytes.length ∧ Apart V x (.slice ao l c) ∧ (∀ v, V (.string x) = some v → v = fv (.slice ao l c) (s.old x).synced) := by
  obtain ⟨V, hV⟩ := h.vals
  obtain ⟨fo, bm, ao, l, c, h1, h2, h3, h4, h5, h6, h7, _⟩ := hV.opened x
  exact ⟨fo, bm, V, ao, l, c, h1, h2, h3, h4, h5, h6, h7⟩

/-- The file that is being written: its box, its row. -/
structure Longer (w wr : World) (S : Nat → Prop) (b bm : Nat) (fo : Option Nat) (V : Lit → Option Value) (s : St) (x : Name) (g : Nat) (u : Value) (n : Nat) (bs : List UInt8) : Prop where
  pieces : Pieces wr (New S w) b bm fo V s x
  row : RowAt wr (New S w) u bs
  apart : Apart V x u
  box : wr.heap[g]? = some (.cells #[u, .int .i64 n] 64 (0, 0))
  chg : Chg S w wr
/-- One append to it. -/
theorem Longer.step {w wr w1 : World} {S : Nat → Prop} {b bm : Nat} {fo : Option Nat} {V : Lit → Option Value} {s : St} {x : Name} {g : Nat} {u v' : Value} {n : Nat} {bs new : List UInt8} (h : Longer w wr S b bm fo V s x g u n bs) (hgw : w.heap.size ≤ g)
    (hown : w1.ownsRow 0 5 1 v' (bs ++ new).length ((bs ++ new).map B8)) (hgrow : wr.grownBy w1 u.ownBlock) (hat : v'.ownBlock = u.ownBlock ∨ v'.ownBlock = some wr.heap.size) :
    Longer w (w1.setCell ⟨g, 0, none⟩ v') S b bm fo V s x g v' n (bs ++ new) := by
  have hs := h.chg.size
  have hgu : u.ownBlock ≠ some g := own_far h.row.1 h.box (by decide)
  have hg1 : w1.heap[g]? = some (.cells #[u, .int .i64 n] 64 (0, 0)) := (hgrow.block g (lt_of_block h.box) hgu.symm).trans h.box
  have hfar : v'.ownBlock ≠ some g := own_far hown hg1 (by decide)
  refine ⟨h.pieces.keep h.row h.apart fun k _ hk hty hku => ?_, ⟨ownsRow_setCell_other hown hfar _, fun k e => ?_⟩, fun y v m hy hv => ?_, ?_, ?_⟩
  · rw [Below.heap_setCell _ _ _ _ (by rintro rfl; exact hty _ _ h.box)]
    exact hgrow.block k hk hku
  · rcases hat with q | q
    · exact h.row.2 k (by rw [← q]; exact e)
    · rw [q] at e; cases e; exact .inr hs
  · rcases hat with q | q
    · rw [q]; exact h.apart y v m hy hv
    · have hM : (s.files y).isSome = true := by rw [← h.pieces.files.dom y, hv]; rfl
      obtain ⟨f, hf⟩ := Option.isSome_iff_exists.1 hM
      obtain ⟨v2, q1, q2, _⟩ := h.pieces.files.some_ y f hy hf
      obtain ⟨rfl, _⟩ := fv_inj (Option.some.inj (hv.symm.trans q1))
      refine .inr (by rw [q]; intro e; have := (q2.1.lt _ e.symm).2; omega)
  · rw [Joins.block_setCell hg1]; rfl
  · refine ((h.chg.trans (Chg.grown hgrow fun k e => h.row.2 k e)).trans (Chg.set _ _ _ _ (.inr hgw)))

set_option maxRecDepth 100000 in
set_option maxHeartbeats 1000000 in
theorem put_any (S : Nat → Prop) (b : Nat) (s : St) (x : ByteArray) (ao : Option Addr) (cap : Nat) (xs : List ByteArray) (w : World) (h : FSAt w S b s) (hc : CellsAt w ao (strVals xs)) (hap : ∀ ad, ao = some ad → ¬ S ad.block)
    (hx : x.size ≤ 281474976710656) (hn : s.cnt < 9223372036854775807) (hsz : (s.old x.data.toList).bytes.length + total xs ≤ 140737488355328) (hxl : xs.length ≤ 140737488355328) :
    Calls Try.prog 46 #[.pointer (some ⟨b, 0, none⟩), .string x, .slice ao xs.length cap] w fun e w' => e = .returned (.tuple #[]) ∧ FSAt w' (New S w) b (s.addTo x.data.toList (cat xs)) ∧ Chg S w w' := by
  obtain ⟨i0, hi, hz0, hz1, hz2⟩ := info_parts info8
  obtain ⟨fo, bm, V, ao1, l1, c1, hP, hv, _, hR, hs, hA, _⟩ := h.opened x.data.toList
  have c4 : w.cell? ⟨b, 4, none⟩ = some (.map (some bm)) := by rw [Joins.cell_of_block hP.head]; rfl
  have hkey := keyOfS (s := x) (by unfold maxLen; omega)
  have hrun := hP.map.run_look keyS Try.underlying41 (zeroFile _) hkey
  have e0 : (V (.string x.data.toList)).getD (.agg #[.slice none 0 0, .int .i64 0]) = .agg #[.slice ao1 l1 c1, .int .i64 (s.old x.data.toList).synced] := hv
  rw [e0] at hrun
  obtain ⟨F, hF⟩ : ∃ F, F = s.old x.data.toList := ⟨_, rfl⟩
  have HSt : Hid (s.addTo x.data.toList (cat xs) = s.put x.data.toList ⟨F.bytes ++ cat xs, F.synced⟩) := by rw [hF]; exact hid_rfl
  rw [← hF] at hs hrun hsz hR hv
  have HL : Hid (Longer w (w.alloc (.cells #[.slice ao1 l1 c1, .int .i64 F.synced] 64)) S b bm fo V s x.data.toList w.heap.size (.slice ao1 l1 c1) F.synced F.bytes) :=
    ⟨(hP.mono fun k e => .inl e).keep (hR.mono fun k e => .inl e) hA (fun k _ hk _ _ => Below.heap_alloc _ _ _ hk), (hR.mono fun k e => .inl e).keep (fun k _ hk => Below.heap_alloc _ _ _ hk), hA, heap_alloc_new w _, Chg.alloc _ _ _⟩
  have hCk : Hid (∀ wr, Chg S w wr → CellsAt wr ao (strVals xs)) := fun wr hcg => by
    rcases hc with hc | ⟨pb, off, rfl, hlt, hcell⟩
    · exact .inl hc
    · exact .inr ⟨pb, off, rfl, by have := hcg.size; omega, fun j hj => by rw [World.cell?_of_block (hcg.block pb hlt (hap _ rfl))]; exact hcell j hj⟩
  have HSy : Hid (F.synced ≤ F.bytes.length) := hs
  have hsz' : F.bytes.length + total xs ≤ maxLen := by unfold maxLen; omega
  clear hP hR hA hv e0 hF hs h hkey hc
  go_enter Try.func46, Try.ntmps46
  go_wp2
  go_loopw [17] (fun i wr => ∃ (k : Nat) (u : Value) (B : List UInt8), k ≤ xs.length ∧ i = .int .i64 k ∧ Hid (B = F.bytes ++ cat (xs.take k)) ∧ Hid (Longer w wr S b bm fo V s x.data.toList w.heap.size u F.synced B)) (fun i _ => xs.length - (intOf i).toNat)
  case atStart => exact ⟨0, _, F.bytes, by omega, rfl, by simp [Hid, cat], HL.out⟩
  case round =>
    obtain ⟨k, u, B, hk, rfl, HB, HW⟩ := hrel
    have hsr := HW.out.chg.size
    obtain ⟨q0, q1, q2, q3⟩ := box2 HW.out.box
    have hrow := HW.out.row.1
    by_cases hlt : k < xs.length
    · rcases hCk.out wr HW.out.chg with h0 | ⟨pb, off, rfl, hbl, hcells⟩
      · have : xs.length = 0 := by have := congrArg List.length h0; simpa [strVals] using this
        omega
      have hck := hcells k (by simpa [strVals] using hlt)
      have hxk : (strVals xs)[k]? = some (.string (xs.getD k ByteArray.empty)) := by simp [strVals, hlt]
      rw [hxk] at hck
      have HN : Hid _ := cat_snoc xs k hlt
      have hlen : B.length + (xs.getD k ByteArray.empty).size ≤ F.bytes.length + total xs := by
        rw [HB.out, List.length_append, cat_len]; have := total_at xs k hlt; omega
      generalize xs.getD k ByteArray.empty = p at *
      clear hcells hxk
      go_wp2_with (at_builtin; refine wpList_append_str_at _ rfl _ _ 62 9 rfl 0 5 i0 Try.underlying62 Try.underlying9 hi hz0 hz1 hz2 u _ _ rfl hrow p rfl ?c1 ?c2 ?c3 ?_)
      case c1 => omega
      case c2 => omega
      case c3 => omega
      intro v' w1 hown1 hgrow hat
      obtain ⟨C, hC⟩ : ∃ C, C = B ++ p.data.toList := ⟨_, rfl⟩
      have hown2 : w1.ownsRow 0 5 1 v' C.length (C.map B8) := by rw [hC]; exact own_bytes rfl hown1
      have HS : Hid (Longer w (w1.setCell ⟨w.heap.size, 0, none⟩ v') S b bm fo V s x.data.toList w.heap.size v' F.synced C) := by
        have hown3 := hown2
        rw [hC] at hown3 ⊢
        exact HW.out.step (Nat.le_refl _) hown3 hgrow hat
      have HC : Hid (C = F.bytes ++ cat (xs.take (k + 1))) := by
        show C = _; rw [hC, HB.out, HN.out, List.append_assoc]
      have hgu : u.ownBlock ≠ some w.heap.size := own_far hrow HW.out.box (by decide)
      obtain ⟨r0, r1, r2, r3⟩ := box2 ((hgrow.block w.heap.size (lt_of_block HW.out.box) hgu.symm).trans HW.out.box)
      have hform := own_form' hown2
      clear hown1 hown2 hgrow hat hrow hgu q0 q1 q2 q3 HN hC HB
      rcases hform with rfl | ⟨g, c, rfl⟩
      · go_wp2
        go_roundw
        case rel => exact ⟨k + 1, _, C, by omega, by go_num, HC.out, HS.out⟩
        case measure => simp [intOf]; omega
      · go_wp2
        go_roundw
        case rel => exact ⟨k + 1, _, C, by omega, by go_num, HC.out, HS.out⟩
        case measure => simp [intOf]; omega
    · obtain rfl : k = xs.length := by omega
      have HH : Hid (Calls Try.prog 28 #[.pointer (some ⟨b, 0, none⟩), .string x, .agg #[u, .int .i64 F.synced]] wr fun e w' => e = .returned (.tuple #[]) ∧ FSAt w' (New S w) b (s.put x.data.toList ⟨F.bytes ++ cat xs, F.synced⟩) ∧ Chg (New S w) wr w') := by
        have hP := HW.out.pieces
        have hR := HW.out.row
        have hB := HB.out
        rw [List.take_length] at hB
        rw [hB] at hR
        exact hold_any (New S w) b bm fo V s x u ⟨F.bytes ++ cat xs, F.synced⟩ wr hP.head hP.sb hP.sm hP.fates hP.map hP.files hR (by have := HSy.out; simp; omega) HW.out.apart hx hn
      have hform := own_form' hrow
      clear hrow HB
      rcases hform with rfl | ⟨g, c, rfl⟩
      · go_wp2_with fail
        refine HH.out.mono ?_
        rintro e w2 ⟨rfl, h1, h2⟩
        go_wp2
        go_end0
        rw [HSt.out]
        exact ⟨rfl, h1, HW.out.chg.trans h2⟩
      · go_wp2_with fail
        refine HH.out.mono ?_
        rintro e w2 ⟨rfl, h1, h2⟩
        go_wp2
        go_end0
        rw [HSt.out]
        exact ⟨rfl, h1, HW.out.chg.trans h2⟩
end Go.Proofs.Ytpiaegkeclmpgaa.Vf
