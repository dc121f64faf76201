/-
  Package vfs: what Sync, Rename and Delete do to the files.
-/
import Derived.Test.YtpiaegkeclmpgaaVfsActs
namespace Go.Proofs.Ytpiaegkeclmpgaa.Vf
open Go.RowKit Cm
attribute [local go_sem ↓] Go.wp_at_zero Go.wp_at_succ
set_option linter.unusedVariables false

set_option maxRecDepth 100000 in
set_option maxHeartbeats 500000 in
theorem syncC_any (S : Nat → Prop) (b g0 g1 g2 : Nat) (s : St) (V : Lit → Option Value) (x : ByteArray) (ao : Option Addr) (l c : Nat) (w : World) (h : FSV w S b s V) (hv : (V (.string x.data.toList)).getD zeroF = fv (.slice ao l c) (s.old x.data.toList).synced)
    (hx : x.size ≤ 281474976710656) (hn : s.cnt < 9223372036854775807) (hS0 : S g0) (hb0 : w.heap[g0]? = some (.cells #[.slice ao l c, .int .i64 (s.old x.data.toList).synced] 64 (0, 0)))
    (k1 : w.cell? ⟨g1, 0, none⟩ = some (.pointer (some ⟨b, 0, none⟩))) (k2 : w.cell? ⟨g2, 0, none⟩ = some (.string x)) (hg1 : g1 ≠ g0) (hg2 : g2 ≠ g0) :
    Calls Try.prog 47 #[.pointer (some ⟨g0, 0, none⟩), .pointer (some ⟨g1, 0, none⟩), .pointer (some ⟨g2, 0, none⟩)] w fun e w' => e = .returned (.tuple #[]) ∧ FSAt w' (New S w) b (s.put x.data.toList (s.old x.data.toList).sync) ∧ Chg S w w' := by
  obtain ⟨fo, bm, ao', l', c', hP, hv', _, hR, hs, hA, _, hl⟩ := h.opened x.data.toList
  obtain ⟨e1, _⟩ := fv_inj (hv.symm.trans hv')
  simp only [Value.slice.injEq] at e1
  obtain ⟨rfl, rfl, rfl⟩ := e1
  obtain ⟨q0, q1, q2, q3⟩ := box2 hb0
  have hk : ∀ k, k ≠ g0 → (w.setCell ⟨g0, 1, none⟩ (.int .i64 l)).heap[k]? = w.heap[k]? := fun k hk => Below.heap_setCell _ _ _ _ (by simpa using hk)
  have hne : ∀ k, (∀ cs fr, w.heap[k]? ≠ some (.cells cs 64 fr)) → k ≠ g0 := fun k hk e => hk _ _ (e ▸ hb0)
  have HH : Hid (Calls Try.prog 28 #[.pointer (some ⟨b, 0, none⟩), .string x, .agg #[.slice ao l c, .int .i64 l]] (w.setCell ⟨g0, 1, none⟩ (.int .i64 l)) fun e w' => e = .returned (.tuple #[]) ∧ FSAt w' S b (s.put x.data.toList (s.old x.data.toList).sync) ∧ Chg S (w.setCell ⟨g0, 1, none⟩ (.int .i64 l)) w') := by
    have hP1 := hP.keep hR hA (w' := w.setCell ⟨g0, 1, none⟩ (.int .i64 l)) fun k _ _ ht _ => hk k (hne k ht)
    have hR1 : RowAt (w.setCell ⟨g0, 1, none⟩ (.int .i64 l)) S (.slice ao l c) (s.old x.data.toList).bytes := ⟨ownsRow_setCell_other hR.1 (own_far hR.1 hb0 (by decide)) _, hR.2⟩
    have := hold_any S b bm fo V s x (.slice ao l c) (s.old x.data.toList).sync _ hP1.head hP1.sb hP1.sm hP1.fates hP1.map hP1.files hR1 (Nat.le_refl _) hA hx hn
    unfold fv File.sync at this
    simp only [← hl] at this
    unfold File.sync
    rw [← hl]
    exact this
  have HC : Hid (Chg S w (w.setCell ⟨g0, 1, none⟩ (.int .i64 l))) := Chg.set _ _ _ _ hS0
  have hl2 : l ≤ 9223372036854775807 := by
    rcases hR.1.2 with ⟨e, _⟩ | ⟨g, cap, cur, e, _, _, h1, h2, _⟩
    · simp at e; omega
    · simp at e; unfold maxLen at h2; omega
  clear hP hR hA hv hv' hb0 hk hne h hl
  generalize (s.old x.data.toList).synced = n at *
  go_enter Try.func47, Try.ntmps47
  go_wp2_with fail
  refine (show Calls _ _ _ _ _ from HH.out).mono ?_
  rintro e w1 ⟨rfl, h1, h2⟩
  go_wp2
  go_end0
  exact ⟨rfl, h1.mono fun k e => .inl e, HC.out.then h2⟩

theorem cell_lt {w : World} {g i : Nat} {v : Value} (h : w.cell? ⟨g, i, none⟩ = some v) : g < w.heap.size := by
  refine Nat.lt_of_not_le fun hge => ?_
  simp [World.cell?, Array.getElem?_eq_none hge] at h
/-- What a file's going comes to. -/
theorem FSV.dropped {w w2 : World} {S : Nat → Prop} {b bm : Nat} {fo : Option Nat} {V : Lit → Option Value} {s : St} {x : Name}
    (hb : w.heap[b]? = some (head s fo bm)) (hSb : S b) (hSm : S bm) (hO : FatesO w S bm fo s.fates) (hM : MapAt w Try.prog 9 bm s.cnt V) (hF : Files w S V s.files (fun _ => False))
    (hM2 : MapAt w2 Try.prog 9 bm s.cnt (upd V (.string x) none)) (ht : w.mapTurned w2 bm) :
    FSV w2 S b (s.del x) (upd V (.string x) none) ∧ Chg S w w2 := by
  have hg := ht.grown
  have hk : ∀ k, k < w.heap.size → k ≠ bm → w2.heap[k]? = w.heap[k]? := fun k hk hkm => hg.block k hk (by simpa using hkm)
  refine ⟨⟨fo, bm, (hk b (lt_of_block hb) (by rintro rfl; exact hM.no_cells hb)).trans hb, hSb, hSm, ?_, hM2, ⟨fun y => ?_, fun y hy => ?_, fun y g _ hg' => ?_, fun y z v n v' m hyz _ _ hy hz => ?_⟩⟩, Chg.turned ht hSm⟩
  · rcases hO with h | ⟨bf, n, e, hn, h1, G, h2, h3⟩
    · exact .inl h
    · exact .inr ⟨bf, n, e, hn, h1, G, h2.keep (hk bf h2.lt hn), h3⟩
  · show _ = (setF _ _ _ y).isSome
    by_cases e : y = x
    · subst e; rw [upd_same _ (k := .string y) trivial, setF_same]
      rfl
    · rw [upd_other _ (by simpa using e), setF_other _ _ e, hF.dom]
  · have hy : (setF s.files x none y).isSome = true := hy
    by_cases e : y = x
    · subst e; rw [setF_same] at hy; cases hy
    · rw [setF_other _ _ e] at hy
      exact hF.short y hy
  · have hg' : setF s.files x none y = some g := hg'
    by_cases e : y = x
    · subst e; rw [setF_same] at hg'; cases hg'
    · rw [setF_other _ _ e] at hg'
      obtain ⟨v, q1, q2, q3⟩ := hF.some_ y g (by simp) hg'
      refine ⟨v, by rw [upd_other _ (by simpa using e)]; exact q1, ⟨own_keep q2.1 fun k e => hk k (q2.1.lt k e).2 ?_, q2.2⟩, q3⟩
      rintro rfl
      rcases q2.1.2 with ⟨rfl, _⟩ | ⟨g, cap, cur, rfl, _, hg', _⟩
      · simp [Value.ownBlock] at e
      · simp [Value.ownBlock] at e
        subst e
        exact hM.no_cells hg'
  · by_cases ey : y = x
    · subst ey; rw [upd_same _ (k := .string y) trivial] at hy; cases hy
    · by_cases ez : z = x
      · subst ez; rw [upd_same _ (k := .string z) trivial] at hz; cases hz
      · rw [upd_other _ (by simpa using ey)] at hy
        rw [upd_other _ (by simpa using ez)] at hz
        exact hF.apart y z v n v' m hyz (by simp) (by simp) hy hz

set_option maxRecDepth 100000 in
set_option maxHeartbeats 500000 in
theorem deleteC_any (S : Nat → Prop) (b g1 g2 : Nat) (s : St) (V : Lit → Option Value) (x : ByteArray) (w : World) (h : FSV w S b s V)
    (hx : x.size ≤ 281474976710656) (k1 : w.cell? ⟨g1, 0, none⟩ = some (.pointer (some ⟨b, 0, none⟩))) (k2 : w.cell? ⟨g2, 0, none⟩ = some (.string x)) :
    Calls Try.prog 41 #[.pointer (some ⟨g1, 0, none⟩), .pointer (some ⟨g2, 0, none⟩)] w fun e w' => e = .returned (.tuple #[]) ∧ FSAt w' (New S w) b (s.del x.data.toList) ∧ Chg S w w' := by
  obtain ⟨fo, bm, h1, h2, h3, h4, h5, h6⟩ := h
  have c4 : w.cell? ⟨b, 4, none⟩ = some (.map (some bm)) := by rw [Joins.cell_of_block h1]; rfl
  have hkey := keyOfS (s := x) (by unfold maxLen; omega)
  obtain ⟨w3, hrun, hM3, ht3⟩ := (show MapAt w.drew Try.prog 9 bm s.cnt V from h5.keep rfl).drop keyS Try.underlying41 hkey 0
  have HR : Hid (FSAt w3 (New S w) b (s.del x.data.toList) ∧ Chg S w w3) := by
    obtain ⟨q1, q2⟩ := FSV.dropped (w := w.drew) h1 h2 h3 (h4.keep fun _ _ _ => rfl) (h5.keep rfl) (h6.keep fun _ _ _ => rfl) hM3 ht3
    exact ⟨q1.at_.mono fun k e => .inl e, (Chg.drew S w 1).then q2⟩
  have hcb : ∀ {g : Nat} {i : Nat} {v : Value}, w.cell? ⟨g, i, none⟩ = some v → w3.cell? ⟨g, i, none⟩ = some v := fun {g i v} e => by
    refine (World.cell?_of_block (ht3.grown.block g (cell_lt e) ?_)).trans e
    simp only [ne_eq, Option.some.injEq]
    rintro rfl
    obtain ⟨D, ⟨es, clock, hb, _⟩, _⟩ := h5
    simp [World.cell?, hb] at e
  have HR2 : Hid (w3.cell? ⟨g1, 0, none⟩ = some (.pointer (some ⟨b, 0, none⟩)) ∧ w3.cell? ⟨g2, 0, none⟩ = some (.string x) ∧ w3.cell? ⟨b, 4, none⟩ = some (.map (some bm))) := ⟨hcb k1, hcb k2, hcb c4⟩
  clear h1 h2 h3 h4 h5 h6 hM3 ht3 hcb hkey
  go_enter Try.func41, Try.ntmps41
  go_wp2_with fail
  go_region_held3 (fun w' => w'.cell? ⟨g1, 0, none⟩ = some (.pointer (some ⟨b, 0, none⟩)) ∧ w'.cell? ⟨g2, 0, none⟩ = some (.string x) ∧ w'.cell? ⟨b, 4, none⟩ = some (.map (some bm))) (first | exact HR2.out | go_keep) (fail)
  go_wp2
  go_end0
  exact ⟨rfl, HR.out⟩

end Go.Proofs.Ytpiaegkeclmpgaa.Vf
