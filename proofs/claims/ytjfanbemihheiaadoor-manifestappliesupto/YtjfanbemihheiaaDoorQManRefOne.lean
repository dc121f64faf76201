/-
  The reference: the version behind one edit.
-/
import Derived.Test.YtjfanbemihheiaaDoorQManRefPut
import Derived.Test.YtjfanbemihheiaaDoorQManVersion
import Derived.Handy
namespace Go.Proofs.YtjfanbemihheiaaDoor.Ma
open Go.RowKit Cm
set_option linter.unusedVariables false

/-- What the reference answers to one edit. -/
def OneAns (w : World) (v : Ve) (e : Ed) (r : Ending) (w' : World) : Prop :=
  (okE v e = true ∧ ∃ f, r = .returned (.tuple #[veV f (nxt v e).sort, .bool true]) ∧ VerAt w' w.heap.size f (nxt v e).sort ∧ Below w.heap.size w w') ∨
  (okE v e = false ∧ r = .returned (.tuple #[veV (.slice none 0 0) Ve.zero, .bool false]) ∧ Below w.heap.size w w')
theorem ve_put {w : World} {g : Nat} {f : Value} {v : Ve} (h : w.heap[g]? = some (veObj f v)) (a b c d : Value) : ∀ X, X = ((((w.setCell ⟨g, 0, none⟩ a).setCell ⟨g, 1, none⟩ b).setCell ⟨g, 2, none⟩ c).setCell ⟨g, 3, none⟩ d) →
    X.cell? ⟨g, 0, none⟩ = some a ∧ X.cell? ⟨g, 1, none⟩ = some b ∧ X.cell? ⟨g, 2, none⟩ = some c ∧ X.cell? ⟨g, 3, none⟩ = some d := by
  rintro X rfl
  unfold veObj at h
  have e1 := Joins.block_setCell h (i := 0) a
  have e2 := Joins.block_setCell e1 (i := 1) b
  have e3 := Joins.block_setCell e2 (i := 2) c
  have e4 := Joins.block_setCell e3 (i := 3) d
  refine ⟨?_, ?_, ?_, ?_⟩ <;> rw [Joins.cell_of_block e4] <;> rfl
/-- The boxes: the version, the edit, the answer. -/
structure OneAt (w : World) (fo : Option Addr) (fc : Nat) (v : Ve) (aa : Option Addr) (ca : Nat) (ad : Option Addr) (cd : Nat) (e : Ed) (X : World) : Prop where
  bel : Below w.heap.size w X
  bv : X.heap[w.heap.size]? = some (veObj (.slice fo v.files.length fc) v)
  be : X.heap[w.heap.size + 1]? = some (edObj (.slice aa e.add.length ca) (.slice ad e.del.length cd) e)
  br : X.heap[w.heap.size + 2]? = some (veObj (.slice none 0 0) Ve.zero)
  fs : ElemsAt fiShape X fo v.files
  ed : EdAt X (fun _ => False) aa ca ad cd e
section
variable {w X Y : World} {fo : Option Addr} {fc : Nat} {v : Ve} {aa : Option Addr} {ca : Nat} {ad : Option Addr} {cd : Nat} {e : Ed}
theorem OneAt.below (h : OneAt w fo fc v aa ca ad cd e X) (hb : Below X.heap.size X Y) : OneAt w fo fc v aa ca ad cd e Y :=
  ⟨h.bel.trans (hb.mono h.bel.size), (hb.block _ (lt_of_block h.bv)).trans h.bv, (hb.block _ (lt_of_block h.be)).trans h.be, (hb.block _ (lt_of_block h.br)).trans h.br, h.fs.later hb, h.ed.keep (fun k hk _ => hb.block k hk) hb.size⟩
theorem OneAt.set (h : OneAt w fo fc v aa ca ad cd e X) (a b c d : Value) : Below w.heap.size w ((((X.setCell ⟨w.heap.size + 2, 0, none⟩ a).setCell ⟨w.heap.size + 2, 1, none⟩ b).setCell ⟨w.heap.size + 2, 2, none⟩ c).setCell ⟨w.heap.size + 2, 3, none⟩ d) :=
  (((h.bel.setCell (by simp) _).setCell (by simp) _).setCell (by simp) _).setCell (by simp) _
theorem OneAt.start (hf : ElemsAt fiShape w fo v.files) (he : EdAt w (fun _ => False) aa ca ad cd e) : OneAt w fo fc v aa ca ad cd e (((w.alloc (veObj (.slice fo v.files.length fc) v)).alloc (edObj (.slice aa e.add.length ca) (.slice ad e.del.length cd) e)).alloc (veObj (.slice none 0 0) Ve.zero)) := by
  have hb : Below w.heap.size w (((w.alloc (veObj (.slice fo v.files.length fc) v)).alloc (edObj (.slice aa e.add.length ca) (.slice ad e.del.length cd) e)).alloc (veObj (.slice none 0 0) Ve.zero)) := (((Below.refl _ _).alloc (Nat.le_refl _) _).alloc (by simp) _).alloc (by simp; omega) _
  refine ⟨hb, ?_, ?_, ?_, hf.later hb, he.keep (fun k hk _ => hb.block k hk) hb.size⟩
  · exact (Below.heap_alloc _ _ _ (by simp; omega)).trans ((Below.heap_alloc _ _ _ (by simp)).trans (heap_alloc_new w _))
  · have := heap_alloc_new (w.alloc (veObj (.slice fo v.files.length fc) v)) (edObj (.slice aa e.add.length ca) (.slice ad e.del.length cd) e)
    rw [World.size_alloc] at this
    exact (Below.heap_alloc _ _ _ (by simp)).trans this
  · have := heap_alloc_new ((w.alloc (veObj (.slice fo v.files.length fc) v)).alloc (edObj (.slice aa e.add.length ca) (.slice ad e.del.length cd) e)) (veObj (.slice none 0 0) Ve.zero)
    rw [World.size_alloc, World.size_alloc] at this
    exact this
end
/-- A row of the list so far. -/
def ListAt (B : Nat) (u : Value) (l : List Fi) (X : World) : Prop := X.ownsRow B 28 2 u (srt l).length (fiShape.vals (srt l))
theorem ListAt.keep {B : Nat} {u : Value} {l : List Fi} {X Y : World} (h : ListAt B u l X) (hb : Below X.heap.size X Y) : ListAt B u l Y := rows_keep h fun j hj => hb.block j (World.ownsRow.lt h j hj).2
theorem ListAt.nil (B : Nat) (X : World) : ListAt B (.slice none 0 0) [] X := by unfold ListAt; rw [srt_nil]; exact World.ownsRow_nil _ _ _ _
theorem ListAt.put {B : Nat} {l : List Fi} {f : Fi} {X Y : World} {r : Ending} (hB : B ≤ X.heap.size) (h : PutAns X (srt (srt l ++ [f])) r Y) : ∃ u', r = .returned u' ∧ ListAt B u' (l ++ [f]) Y ∧ Below X.heap.size X Y := by
  obtain ⟨u', rfl, h1, h2⟩ := h
  rw [srt_snoc] at h1
  exact ⟨u', rfl, Joins.ownsRow_le h1 hB, h2⟩
theorem stay_next {l : List Fi} {d : List Int} {k : Nat} (hk : k < l.length) : stay (l.take (k + 1)) d = stay (l.take k) d ++ (if d.contains (l.getD k (0, 0)).2 then [] else [l.getD k (0, 0)]) := by
  rw [take_at hk (d := (0, 0))]
  unfold stay
  rw [List.filter_append]
  congr 1
  generalize l.getD k (0, 0) = z
  cases h : d.contains z.2
  · rw [List.filter_cons, h]; rfl
  · rw [List.filter_cons, h]; rfl
theorem goes_is {v : Ve} {e : Ed} (h : ∀ z ∈ e.del, e.del.count z = 1 ∧ hasN v.files z = true) : goes v e = true ∧ e.del.Nodup := by
  have hn := mem_once.1 fun z hz => (h z hz).1
  unfold goes
  rw [Bool.and_eq_true, decide_eq_true_eq, List.all_eq_true]
  exact ⟨⟨fun z hz => (h z hz).2, hn⟩, hn⟩
theorem goes_not {v : Ve} {e : Ed} {z : Int} (hz : z ∈ e.del) (h : ¬ (e.del.count z = 1 ∧ hasN v.files z = true)) : okE v e = false := by
  have : goes v e = false := by
    cases hg : goes v e with
    | false => rfl
    | true =>
      unfold goes at hg
      rw [Bool.and_eq_true, decide_eq_true_eq, List.all_eq_true] at hg
      exact absurd ⟨mem_once.2 hg.2 z hz, hg.1 z hz⟩ h
  unfold okE
  rw [this]; simp
theorem comes_fail {v : Ve} {e : Ed} {i : Nat} (hi : i < e.add.length) (h : ¬ ((e.add.getD i (0, 0)).2 < e.next ∧ hasN (stay v.files e.del ++ e.add.take i) (e.add.getD i (0, 0)).2 = false)) : okE v e = false := by
  have : comes v e = false := by
    cases hc : comes v e with
    | false => rfl
    | true =>
      have h1 := (comesTo_next hi).1 (comesTo_less (comesTo_all.1 hc) hi)
      rw [getD_lt _ _ _ hi] at h
      exact absurd h1.2 h
  unfold okE
  rw [this]; simp
theorem take_all {α : Type} {p : α → Prop} {l : List α} {k : Nat} {d : α} (hk : k < l.length) (h : ∀ z ∈ l.take k, p z) (hz : p (l.getD k d)) : ∀ z ∈ l.take (k + 1), p z := by
  rw [take_at hk (d := d)]
  intro z hm
  rcases List.mem_append.1 hm with hm | hm
  · exact h z hm
  · rw [List.mem_singleton.1 hm]; exact hz
theorem mem_at {α : Type} {l : List α} {k : Nat} {d : α} (hk : k < l.length) : l.getD k d ∈ l := by rw [getD_lt _ _ _ hk]; exact List.getElem_mem _
set_option maxRecDepth 100000 in
set_option maxHeartbeats 2000000 in
theorem oneR_any (B : Nat) (fv : Value) (v : Ve) (aa : Option Addr) (ca : Nat) (ad : Option Addr) (cd : Nat) (e : Ed) (w : World) (hr : w.ownsRow B 28 2 fv v.files.length (fiShape.vals v.files)) (he : EdAt w (fun _ => False) aa ca ad cd e) (hl : v.files.length + e.add.length ≤ 100000000000) :
    Calls Tryd.prog 16 #[veV fv v, edV (.slice aa e.add.length ca) (.slice ad e.del.length cd) e] w (OneAns w v e) := by
  obtain ⟨fo, fc, rfl, fn, _, _, hf⟩ := own_rows (F := fiShape) hr
  have h0 := OneAt.start (fc := fc) (v := v) hf he
  have hlA := he.few
  obtain ⟨m, hm⟩ : ∃ m, m = v.files.length := ⟨_, rfl⟩
  obtain ⟨n, hn⟩ : ∃ n, n = e.del.length := ⟨_, rfl⟩
  obtain ⟨l, hll⟩ : ∃ l, l = e.add.length := ⟨_, rfl⟩
  have HM : Hid (m = v.files.length) := hm
  have HN : Hid (n = e.del.length) := hn
  have HL : Hid (l = e.add.length) := hll
  obtain ⟨W3, hW3⟩ : ∃ W3, W3 = (((w.alloc (veObj (.slice fo v.files.length fc) v)).alloc (edObj (.slice aa e.add.length ca) (.slice ad e.del.length cd) e)).alloc (veObj (.slice none 0 0) Ve.zero)) := ⟨_, rfl⟩
  rw [← hW3] at h0
  have HX : Hid (OneAt w fo fc v aa ca ad cd e W3) := h0
  have HRi : Hid _ := rightR_any aa ca ad cd e W3 h0.ed
  obtain ⟨e0, e1, e2, e3, e4⟩ := ed_cells h0.be
  rw [← hm] at hW3 hl ⊢
  rw [← hn] at hW3 HRi hlA e1 ⊢
  rw [← hll] at hW3 HRi hlA hl e0 ⊢
  have hW3' := hW3.symm
  unfold veObj edObj Ve.zero at hW3'
  unfold edV at HRi
  unfold veV edV
  clear hr he hf h0 hm hn hll hW3
  go_enter Tryd.func16, Tryd.ntmps16
  go_wp2_with fail
  refine (show Calls _ _ _ _ _ from HRi.out).mono ?_
  rintro y w4 ⟨rfl, hb4⟩
  have HX4 : Hid _ := HX.out.below hb4
  clear hb4 hW3' HRi e0 e1 e2 e3 e4 HX
  obtain ⟨e0, e1, e2, e3, e4⟩ := ed_cells HX4.out.be
  obtain ⟨v0, v1, v2, v3, _⟩ := ve_cells HX4.out.bv
  rw [← HL.out] at e0
  rw [← HN.out] at e1
  rw [← HM.out] at v0
  cases hri : right e
  · have HF : Hid (okE v e = false) := by show okE v e = false; unfold okE; rw [hri]; rfl
    clear hri
    obtain ⟨x0, x1, x2, x3, xf⟩ := ve_cells HX4.out.br
    have xf0 := xf 0
    have xf1 := xf 1
    have xf2 := xf 2
    have xf3 := xf 3
    have HSet : Hid _ := ve_put HX4.out.br (.slice none 0 0) (.int .i64 0) (.int .i64 0) (.int .i64 0)
    have HWe : Hid _ := HX4.out.set (.slice none 0 0) (.int .i64 0) (.int .i64 0) (.int .i64 0)
    clear xf
    simp only [Ve.zero] at x1 x2 x3
    go_wp2
    obtain ⟨z0, z1, z2, z3⟩ := HSet.out _ rfl
    refine bodyPost_ret (v := .tuple #[.agg #[.slice none 0 0, .int .i64 0, .int .i64 0, .int .i64 0], .bool false]) (by simp [results, Tryd.results16, go_sem, z0, z1, z2, z3]) rfl ?_
    exact .inr ⟨HF.out, rfl, HWe.out⟩
  · by_cases hnx : e.next < v.next
    · have HF : Hid (okE v e = false) := by show okE v e = false; unfold okE; rw [decide_eq_false (show ¬ v.next ≤ e.next by omega)]; simp
      obtain ⟨x0, x1, x2, x3, xf⟩ := ve_cells HX4.out.br
      have xf0 := xf 0
      have xf1 := xf 1
      have xf2 := xf 2
      have xf3 := xf 3
      have HSet : Hid _ := ve_put HX4.out.br (.slice none 0 0) (.int .i64 0) (.int .i64 0) (.int .i64 0)
      have HWe : Hid _ := HX4.out.set (.slice none 0 0) (.int .i64 0) (.int .i64 0) (.int .i64 0)
      clear xf
      simp only [Ve.zero] at x1 x2 x3
      go_wp2
      obtain ⟨z0, z1, z2, z3⟩ := HSet.out _ rfl
      refine bodyPost_ret (v := .tuple #[.agg #[.slice none 0 0, .int .i64 0, .int .i64 0, .int .i64 0], .bool false]) (by simp [results, Tryd.results16, go_sem, z0, z1, z2, z3]) rfl ?_
      exact .inr ⟨HF.out, rfl, HWe.out⟩
    · by_cases hsq : e.seq < v.seq
      · have HF : Hid (okE v e = false) := by show okE v e = false; unfold okE; rw [decide_eq_false (show ¬ v.seq ≤ e.seq by omega)]; simp
        obtain ⟨x0, x1, x2, x3, xf⟩ := ve_cells HX4.out.br
        have xf0 := xf 0
        have xf1 := xf 1
        have xf2 := xf 2
        have xf3 := xf 3
        have HSet : Hid _ := ve_put HX4.out.br (.slice none 0 0) (.int .i64 0) (.int .i64 0) (.int .i64 0)
        have HWe : Hid _ := HX4.out.set (.slice none 0 0) (.int .i64 0) (.int .i64 0) (.int .i64 0)
        clear xf
        simp only [Ve.zero] at x1 x2 x3
        go_wp2
        obtain ⟨z0, z1, z2, z3⟩ := HSet.out _ rfl
        refine bodyPost_ret (v := .tuple #[.agg #[.slice none 0 0, .int .i64 0, .int .i64 0, .int .i64 0], .bool false]) (by simp [results, Tryd.results16, go_sem, z0, z1, z2, z3]) rfl ?_
        exact .inr ⟨HF.out, rfl, HWe.out⟩
      · have HK : Hid (right e = true ∧ v.next ≤ e.next ∧ v.seq ≤ e.seq) := ⟨hri, by omega, by omega⟩
        go_wp2
        clear hri hnx hsq e0 e1 e2 e3 e4 v0 v1 v2 v3
        generalize w4 = W4 at *
        go_loopw [34] (fun i wr => ∃ k : Nat, k ≤ n ∧ i = .int .i64 k ∧ Hid (∀ z ∈ e.del.take k, e.del.count z = 1 ∧ hasN v.files z = true) ∧ Hid (OneAt w fo fc v aa ca ad cd e wr)) (fun i _ => n - (intOf i).toNat)
        case atStart => exact ⟨0, by omega, rfl, (fun z hz => by simp at hz), HX4⟩
        case round =>
          clear HX4
          obtain ⟨k, hk, rfl, HZ, HX⟩ := hrel
          obtain ⟨e0, e1, e2, e3, e4⟩ := ed_cells HX.out.be
          obtain ⟨v0, v1, v2, v3, _⟩ := ve_cells HX.out.bv
          rw [← HL.out] at e0
          rw [← HN.out] at e1
          rw [← HM.out] at v0
          by_cases hlt : k < n
          · have hkn : k < e.del.length := by have := HN.out; omega
            obtain ⟨pb, off, rfl, c0⟩ := nums_cells HX.out.ed.del.cells hkn
            have HOn : Hid _ := onceR_any (some ⟨pb, off, none⟩) cd e.del (e.del.getD k 0) wr HX.out.ed.del.cells (by have := HN.out; omega)
            have HHs : Hid _ := hasR_any fo fc v.files (e.del.getD k 0) wr HX.out.fs (by have := HM.out; omega)
            have HY : Hid (e.del.count (e.del.getD k 0) = 1 → hasN v.files (e.del.getD k 0) = true → ∀ z ∈ e.del.take (k + 1), e.del.count z = 1 ∧ hasN v.files z = true) := fun h1 h2 => take_all (p := fun z => e.del.count z = 1 ∧ hasN v.files z = true) hkn HZ.out ⟨h1, h2⟩
            have HNo : Hid (¬ (e.del.count (e.del.getD k 0) = 1 ∧ hasN v.files (e.del.getD k 0) = true) → okE v e = false) := fun h => goes_not (mem_at hkn) h
            rw [← HN.out] at HOn
            rw [← HM.out] at HHs
            generalize e.del.getD k 0 = z at *
            clear hkn HZ
            by_cases h1 : e.del.count z = 1
            · cases h2 : hasN v.files z
              · have HF : Hid (okE v e = false) := HNo.out (by rw [h2]; simp)
                rw [h2] at HHs
                rw [decide_eq_true h1] at HOn
                clear h1 h2 HNo HY
                go_wp2_with fail
                refine (show Calls _ _ _ _ _ from HOn.out).mono ?_
                rintro y w5 ⟨rfl, rfl⟩
                go_wp2_with fail
                refine (show Calls _ _ _ _ _ from HHs.out).mono ?_
                rintro y w6 ⟨rfl, hb6⟩
                have HX6 : Hid _ := HX.out.below hb6
                clear hb6
                obtain ⟨x0, x1, x2, x3, xf⟩ := ve_cells HX6.out.br
                have xf0 := xf 0
                have xf1 := xf 1
                have xf2 := xf 2
                have xf3 := xf 3
                have HSet : Hid _ := ve_put HX6.out.br (.slice none 0 0) (.int .i64 0) (.int .i64 0) (.int .i64 0)
                have HWe : Hid _ := HX6.out.set (.slice none 0 0) (.int .i64 0) (.int .i64 0) (.int .i64 0)
                clear xf
                simp only [Ve.zero] at x1 x2 x3
                go_wp2
                obtain ⟨z0, z1, z2, z3⟩ := HSet.out _ rfl
                refine bodyPost_ret (v := .tuple #[.agg #[.slice none 0 0, .int .i64 0, .int .i64 0, .int .i64 0], .bool false]) (by simp [results, Tryd.results16, go_sem, z0, z1, z2, z3]) rfl ?_
                exact .inr ⟨HF.out, rfl, HWe.out⟩
              · have HZ' : Hid _ := HY.out h1 h2
                rw [h2] at HHs
                rw [decide_eq_true h1] at HOn
                clear h1 h2 HNo HY
                go_wp2_with fail
                refine (show Calls _ _ _ _ _ from HOn.out).mono ?_
                rintro y w5 ⟨rfl, rfl⟩
                go_wp2_with fail
                refine (show Calls _ _ _ _ _ from HHs.out).mono ?_
                rintro y w6 ⟨rfl, hb6⟩
                have HX6 : Hid _ := HX.out.below hb6
                clear hb6
                go_wp2
                go_roundw
                case rel => exact ⟨k + 1, by omega, by go_num, HZ'.out, HX6.out⟩
                case measure => simp [intOf]; omega
            · have HF : Hid (okE v e = false) := HNo.out (fun h => h1 h.1)
              rw [decide_eq_false h1] at HOn
              clear h1 HNo HY
              go_wp2_with fail
              refine (show Calls _ _ _ _ _ from HOn.out).mono ?_
              rintro y w5 ⟨rfl, rfl⟩
              obtain ⟨x0, x1, x2, x3, xf⟩ := ve_cells HX.out.br
              have xf0 := xf 0
              have xf1 := xf 1
              have xf2 := xf 2
              have xf3 := xf 3
              have HSet : Hid _ := ve_put HX.out.br (.slice none 0 0) (.int .i64 0) (.int .i64 0) (.int .i64 0)
              have HWe : Hid _ := HX.out.set (.slice none 0 0) (.int .i64 0) (.int .i64 0) (.int .i64 0)
              clear xf
              simp only [Ve.zero] at x1 x2 x3
              go_wp2
              obtain ⟨z0, z1, z2, z3⟩ := HSet.out _ rfl
              refine bodyPost_ret (v := .tuple #[.agg #[.slice none 0 0, .int .i64 0, .int .i64 0, .int .i64 0], .bool false]) (by simp [results, Tryd.results16, go_sem, z0, z1, z2, z3]) rfl ?_
              exact .inr ⟨HF.out, rfl, HWe.out⟩
          · obtain rfl : k = n := by omega
            have hgo := goes_is (v := v) (e := e) (by have := HZ.out; rwa [HN.out, List.take_length] at this)
            have HG : Hid (goes v e = true) := hgo.1
            have HNd : Hid e.del.Nodup := hgo.2
            clear hgo HZ hlt
            go_wp2
            clear e0 e1 e2 e3 e4 v0 v1 v2 v3
            generalize wr = W5 at *
            go_loopw [8, 55] (fun u i wr => ∃ j : Nat, j ≤ m ∧ i = .int .i64 j ∧ Hid (OneAt w fo fc v aa ca ad cd e wr) ∧ Hid (ListAt w.heap.size u (stay (v.files.take j) e.del) wr)) (fun _ i _ => m - (intOf i).toNat)
            case atStart => exact ⟨0, by omega, rfl, HX, by rw [List.take_zero]; exact ListAt.nil _ _⟩
            case round =>
              clear HX
              obtain ⟨j, hj, rfl, HX, HLi⟩ := hrel
              obtain ⟨e0, e1, e2, e3, e4⟩ := ed_cells HX.out.be
              obtain ⟨v0, v1, v2, v3, _⟩ := ve_cells HX.out.bv
              rw [← HL.out] at e0
              rw [← HN.out] at e1
              rw [← HM.out] at v0
              by_cases hlt : j < m
              · have hjm : j < v.files.length := by have := HM.out; omega
                obtain ⟨pb, off, rfl, c0, c1⟩ := fi_cells HX.out.fs hjm
                have hst := stay_next (d := e.del) hjm
                have hlen : (stay (v.files.take j) e.del).length ≤ m := Nat.le_trans (stay_len _ _) (by rw [List.length_take]; omega)
                obtain ⟨X1, hX1⟩ : ∃ X1, X1 = wr.alloc (fiObj (v.files.getD j (0, 0))) := ⟨_, rfl⟩
                have hb1 : Below wr.heap.size wr X1 := by rw [hX1]; exact (Below.refl _ _).alloc (Nat.le_refl _) _
                have hb : X1.heap[wr.heap.size]? = some (fiObj (v.files.getD j (0, 0))) := by rw [hX1]; exact heap_alloc_new wr _
                have HX1 : Hid _ := HX.out.below hb1
                have HLi1 : Hid _ := HLi.out.keep hb1
                have HOn : Hid _ := onceR_any ad cd e.del (v.files.getD j (0, 0)).2 X1 HX1.out.ed.del.cells (by have := HN.out; omega)
                have HPu : Hid _ := putR_any _ u8 (srt (stay (v.files.take j) e.del)) (v.files.getD j (0, 0)) X1 HLi1.out (srt_sorted _) (by rw [srt_len]; omega)
                rw [once_mem HNd.out, ← HN.out] at HOn
                obtain ⟨d0, d1⟩ := fb_cells hb
                obtain ⟨e0', e1', _, _, _⟩ := ed_cells HX1.out.be
                rw [← HN.out] at e1'
                have hX1' := hX1.symm
                unfold fiObj at hX1'
                generalize v.files.getD j (0, 0) = f at *
                clear hjm hX1 hb1 hb e0'
                cases hc : e.del.contains f.2
                · have HSt : Hid (stay (v.files.take (j + 1)) e.del = stay (v.files.take j) e.del ++ [f]) := by show _ = _; rw [hst, hc]; rfl
                  rw [hc] at HOn
                  clear hc hst
                  go_wp2_with fail
                  refine (show Calls _ _ _ _ _ from HOn.out).mono ?_
                  rintro y w6 ⟨rfl, rfl⟩
                  go_wp2_with fail
                  refine (show Calls _ _ _ _ _ from HPu.out).mono ?_
                  rintro y w7 hp
                  obtain ⟨u', rfl, hl7, hb7⟩ := ListAt.put (HX1.out.bel.size) hp
                  have HX7 : Hid _ := HX1.out.below hb7
                  have HL7 : Hid (ListAt w.heap.size u' (stay (v.files.take (j + 1)) e.del) w7) := by show ListAt _ _ _ _; rw [HSt.out]; exact hl7
                  clear hp hl7 hb7
                  go_wp2
                  go_roundw
                  case rel => exact ⟨j + 1, by omega, by go_num, HX7.out, HL7.out⟩
                  case measure => simp [intOf]; omega
                · have HSt : Hid (stay (v.files.take (j + 1)) e.del = stay (v.files.take j) e.del) := by show _ = _; rw [hst, hc]; exact List.append_nil _
                  have HL7 : Hid (ListAt w.heap.size u8 (stay (v.files.take (j + 1)) e.del) X1) := by show ListAt _ _ _ _; rw [HSt.out]; exact HLi1.out
                  rw [hc] at HOn
                  clear hc hst
                  go_wp2_with fail
                  refine (show Calls _ _ _ _ _ from HOn.out).mono ?_
                  rintro y w6 ⟨rfl, rfl⟩
                  go_wp2
                  go_roundw
                  case rel => exact ⟨j + 1, by omega, by go_num, HX1.out, HL7.out⟩
                  case measure => simp [intOf]; omega
              · obtain rfl : j = m := by omega
                have HLa : Hid (ListAt w.heap.size u8 (stay v.files e.del ++ e.add.take 0) wr) := by have := HLi.out; rw [HM.out, List.take_length] at this; rw [List.take_zero, List.append_nil]; exact this
                have hsl : (stay v.files e.del).length ≤ j := by rw [HM.out]; exact stay_len _ _
                clear hlt HLi
                go_wp2
                clear e0 e1 e2 e3 e4 v0 v1 v2 v3
                generalize wr = W6 at *
                go_loopw [8, 72] (fun u i wr => ∃ q : Nat, q ≤ l ∧ i = .int .i64 q ∧ Hid (OneAt w fo fc v aa ca ad cd e wr) ∧ Hid (ListAt w.heap.size u (stay v.files e.del ++ e.add.take q) wr) ∧ Hid (comesTo v e q)) (fun _ i _ => l - (intOf i).toNat)
                case atStart => exact ⟨0, by omega, rfl, HX, HLa, comesTo_zero _ _⟩
                case round =>
                  clear HX HLa
                  obtain ⟨q, hq, rfl, HX, HLi, HC⟩ := hrel
                  obtain ⟨e0, e1, e2, e3, e4⟩ := ed_cells HX.out.be
                  obtain ⟨v0, v1, v2, v3, _⟩ := ve_cells HX.out.bv
                  rw [← HL.out] at e0
                  rw [← HN.out] at e1
                  rw [← HM.out] at v0
                  by_cases hlt : q < l
                  · have hql : q < e.add.length := by have := HL.out; omega
                    obtain ⟨pb, off, hae, c0, c1⟩ := HX.out.ed.add.get (Chg.of_below (Below.refl _ _)) hql
                    cases hae
                    have hnx := comesTo_next (v := v) hql
                    have hno := comes_fail (v := v) hql
                    rw [← getD_lt e.add q (0, 0) hql] at hnx
                    have hts := take_at hql (d := (0, 0))
                    have hlen : (stay v.files e.del ++ e.add.take q).length ≤ j + q := by rw [List.length_append, List.length_take]; omega
                    obtain ⟨X1, hX1⟩ : ∃ X1, X1 = wr.alloc (fiObj (e.add.getD q (0, 0))) := ⟨_, rfl⟩
                    have hb1 : Below wr.heap.size wr X1 := by rw [hX1]; exact (Below.refl _ _).alloc (Nat.le_refl _) _
                    have hb : X1.heap[wr.heap.size]? = some (fiObj (e.add.getD q (0, 0))) := by rw [hX1]; exact heap_alloc_new wr _
                    have HX1 : Hid _ := HX.out.below hb1
                    have HLi1 : Hid _ := HLi.out.keep hb1
                    obtain ⟨uo, uc, hu8, _, _, _, hel⟩ := own_rows (F := fiShape) HLi1.out
                    have HHs : Hid _ := hasR_any uo uc _ (e.add.getD q (0, 0)).2 X1 hel (by rw [srt_len]; omega)
                    have HLq : Hid (∀ X, Below X1.heap.size X1 X → ListAt w.heap.size u8 (stay v.files e.del ++ e.add.take q) X) := fun X h => ListAt.keep (show ListAt _ _ _ _ from HLi1.out) h
                    have HHl : Hid ((srt (stay v.files e.del ++ e.add.take q)).length ≤ 100000000000) := by show _ ≤ _; rw [srt_len]; omega
                    rw [hasN_perm (srt_perm _), ← hu8] at HHs
                    obtain ⟨d0, d1⟩ := fb_cells hb
                    have hX1' := hX1.symm
                    have HSl : Hid (X1.heap[wr.heap.size]? = some (fiObj (e.add.getD q (0, 0)))) := hb
                    unfold fiObj at hX1'
                    generalize e.add.getD q (0, 0) = f at *
                    have HSo : Hid (e.add.take (q + 1) = e.add.take q ++ [f]) := hts
                    clear hql hX1 hb1 hb hts hel hu8 hlen
                    cases hc : hasN (stay v.files e.del ++ e.add.take q) f.2
                    · rw [hc] at HHs
                      by_cases hlf : f.2 < e.next
                      · have HC1 : Hid (comesTo v e (q + 1)) := hnx.2 ⟨HC.out, hlf, hc⟩
                        have hd : decide (e.next ≤ f.2) = false := decide_eq_false (by omega)
                        clear hc hnx hno hlf HX HLi HC
                        go_wp2_with fail
                        refine (show Calls _ _ _ _ _ from HHs.out).mono ?_
                        rintro y w6 ⟨rfl, hb6⟩
                        have HX6 : Hid _ := HX1.out.below hb6
                        have hs6 := (hb6.block _ (lt_of_block HSl.out)).trans HSl.out
                        obtain ⟨d0', d1'⟩ := fb_cells hs6
                        obtain ⟨e0', e1', e2', e3', e4'⟩ := ed_cells HX6.out.be
                        have HPu : Hid _ := putR_any _ u8 _ f w6 (HLq.out w6 hb6) (srt_sorted _) HHl.out
                        clear hb6 hs6 e0' e1' e0 e1 e2 e3 e4 v0 v1 v2 v3 d0 d1 hX1'
                        go_wp2_with fail
                        refine (show Calls _ _ _ _ _ from HPu.out).mono ?_
                        rintro y w7 hp
                        obtain ⟨u', rfl, hl7, hb7⟩ := ListAt.put (HX6.out.bel.size) hp
                        have HX7 : Hid _ := HX6.out.below hb7
                        have HL7 : Hid (ListAt w.heap.size u' (stay v.files e.del ++ e.add.take (q + 1)) w7) := by show ListAt _ _ _ _; rw [HSo.out, ← List.append_assoc]; exact hl7
                        clear hp hl7 hb7
                        go_wp2
                        go_roundw
                        case rel => exact ⟨q + 1, by omega, by go_num, HX7.out, HL7.out, HC1.out⟩
                        case measure => simp [intOf]; omega
                      · have HF : Hid (okE v e = false) := hno (fun h => hlf h.1)
                        have hd : decide (e.next ≤ f.2) = true := decide_eq_true (by omega)
                        clear hc hnx hno hlf HX HLi HC
                        go_wp2_with fail
                        refine (show Calls _ _ _ _ _ from HHs.out).mono ?_
                        rintro y w6 ⟨rfl, hb6⟩
                        have HX6 : Hid _ := HX1.out.below hb6
                        have hs6 := (hb6.block _ (lt_of_block HSl.out)).trans HSl.out
                        obtain ⟨d0', d1'⟩ := fb_cells hs6
                        obtain ⟨e0', e1', e2', e3', e4'⟩ := ed_cells HX6.out.be
                        clear hb6 hs6 e0' e1' e0 e1 e2 e3 e4 v0 v1 v2 v3 d0 d1 hX1'
                        obtain ⟨x0, x1, x2, x3, xf⟩ := ve_cells HX6.out.br
                        have xf0 := xf 0
                        have xf1 := xf 1
                        have xf2 := xf 2
                        have xf3 := xf 3
                        have HSet : Hid _ := ve_put HX6.out.br (.slice none 0 0) (.int .i64 0) (.int .i64 0) (.int .i64 0)
                        have HWe : Hid _ := HX6.out.set (.slice none 0 0) (.int .i64 0) (.int .i64 0) (.int .i64 0)
                        clear xf
                        simp only [Ve.zero] at x1 x2 x3
                        go_wp2
                        obtain ⟨z0, z1, z2, z3⟩ := HSet.out _ rfl
                        refine bodyPost_ret (v := .tuple #[.agg #[.slice none 0 0, .int .i64 0, .int .i64 0, .int .i64 0], .bool false]) (by simp [results, Tryd.results16, go_sem, z0, z1, z2, z3]) rfl ?_
                        exact .inr ⟨HF.out, rfl, HWe.out⟩
                    · rw [hc] at HHs
                      have HF : Hid (okE v e = false) := hno (fun h => by rw [h.2] at hc; cases hc)
                      clear hc hnx hno HX HLi HC
                      go_wp2_with fail
                      refine (show Calls _ _ _ _ _ from HHs.out).mono ?_
                      rintro y w6 ⟨rfl, hb6⟩
                      have HX6 : Hid _ := HX1.out.below hb6
                      have hs6 := (hb6.block _ (lt_of_block HSl.out)).trans HSl.out
                      obtain ⟨d0', d1'⟩ := fb_cells hs6
                      clear hb6 hs6 e0 e1 e2 e3 e4 v0 v1 v2 v3 d0 d1 hX1'
                      obtain ⟨x0, x1, x2, x3, xf⟩ := ve_cells HX6.out.br
                      have xf0 := xf 0
                      have xf1 := xf 1
                      have xf2 := xf 2
                      have xf3 := xf 3
                      have HSet : Hid _ := ve_put HX6.out.br (.slice none 0 0) (.int .i64 0) (.int .i64 0) (.int .i64 0)
                      have HWe : Hid _ := HX6.out.set (.slice none 0 0) (.int .i64 0) (.int .i64 0) (.int .i64 0)
                      clear xf
                      simp only [Ve.zero] at x1 x2 x3
                      go_wp2
                      obtain ⟨z0, z1, z2, z3⟩ := HSet.out _ rfl
                      refine bodyPost_ret (v := .tuple #[.agg #[.slice none 0 0, .int .i64 0, .int .i64 0, .int .i64 0], .bool false]) (by simp [results, Tryd.results16, go_sem, z0, z1, z2, z3]) rfl ?_
                      exact .inr ⟨HF.out, rfl, HWe.out⟩
                  · obtain rfl : q = l := by omega
                    have HF : Hid (okE v e = true) := by
                      show okE v e = true
                      unfold okE
                      rw [HK.out.1, HG.out, comesTo_all.2 (by have := HC.out; rwa [HL.out] at this), decide_eq_true HK.out.2.1, decide_eq_true HK.out.2.2]; rfl
                    have hrow := HLi.out
                    rw [HL.out, List.take_length] at hrow
                    obtain ⟨uo, uc, rfl⟩ := form_any (show World.ownsRow _ _ _ _ _ _ _ from hrow)
                    obtain ⟨x0, x1, x2, x3, xf⟩ := ve_cells HX.out.br
                    have xf0 := xf 0
                    have xf1 := xf 1
                    have xf2 := xf 2
                    have xf3 := xf 3
                    simp only [Ve.zero] at x1 x2 x3
                    have HSet : Hid _ := ve_put HX.out.br (.slice uo (srt (stay v.files e.del ++ e.add)).length uc) (.int .i64 e.wal) (.int .i64 e.next) (.int .i64 e.seq)
                    have HWe : Hid (OneAns w v e (.returned (.tuple #[veV (.slice uo (srt (stay v.files e.del ++ e.add)).length uc) (nxt v e).sort, .bool true])) ((((wr.setCell ⟨w.heap.size + 2, 0, none⟩ (.slice uo (srt (stay v.files e.del ++ e.add)).length uc)).setCell ⟨w.heap.size + 2, 1, none⟩ (.int .i64 e.wal)).setCell ⟨w.heap.size + 2, 2, none⟩ (.int .i64 e.next)).setCell ⟨w.heap.size + 2, 3, none⟩ (.int .i64 e.seq))) := by
                      refine .inl ⟨HF.out, _, rfl, ?_, HX.out.set _ _ _ _⟩
                      have hfar := rows_far hrow HX.out.br (fun cs e => by simp [veObj] at e)
                      refine rows_keep hrow fun k hk => ?_
                      have hkn : k ≠ w.heap.size + 2 := fun e => hfar (by rw [hk, e])
                      rw [Below.heap_setCell _ _ _ _ (by simpa using hkn), Below.heap_setCell _ _ _ _ (by simpa using hkn), Below.heap_setCell _ _ _ _ (by simpa using hkn), Below.heap_setCell _ _ _ _ (by simpa using hkn)]
                    clear hrow xf HLi HC
                    unfold veV nxt Ve.sort at HWe
                    generalize (srt (stay v.files e.del ++ e.add)).length = len at *
                    go_wp2
                    obtain ⟨z0, z1, z2, z3⟩ := HSet.out _ rfl
                    refine bodyPost_ret (v := .tuple #[.agg #[.slice uo len uc, .int .i64 e.wal, .int .i64 e.next, .int .i64 e.seq], .bool true]) (by simp [results, Tryd.results16, go_sem, z0, z1, z2, z3]) rfl ?_
                    exact HWe.out
end Go.Proofs.YtjfanbemihheiaaDoor.Ma
