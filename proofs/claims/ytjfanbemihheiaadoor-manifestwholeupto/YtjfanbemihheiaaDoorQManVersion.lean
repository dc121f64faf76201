/-
  Package manifest: the version that a shelf holds; the shelf of a version.
-/
import Derived.Test.YtjfanbemihheiaaDoorQManValues
import Derived.Test.YtjfanbemihheiaaDoorQManConcat
import Derived.Test.YtjfanbemihheiaaDoorQManSort
import Derived.Test.YtjfanbemihheiaaDoorQManTake
import Derived.Carry
namespace Go.Proofs.YtjfanbemihheiaaDoor.Ma
open Go.RowKit Cm
attribute [local go_sem ↓] Go.wp_at_zero Go.wp_at_succ
set_option linter.unusedVariables false

def veV (f : Value) (v : Ve) : Value := .agg #[f, .int .i64 v.wal, .int .i64 v.next, .int .i64 v.seq]
def veObj (f : Value) (v : Ve) : Obj := .cells #[f, .int .i64 v.wal, .int .i64 v.next, .int .i64 v.seq] 24 (0, 0)
theorem ve_cells {w : World} {g : Nat} {f : Value} {v : Ve} (h : w.heap[g]? = some (veObj f v)) : w.cell? ⟨g, 0, none⟩ = some f ∧ w.cell? ⟨g, 1, none⟩ = some (.int .i64 v.wal) ∧ w.cell? ⟨g, 2, none⟩ = some (.int .i64 v.next) ∧ w.cell? ⟨g, 3, none⟩ = some (.int .i64 v.seq) ∧ ∀ i, w.frozen? ⟨g, i, none⟩ = false := by
  refine ⟨?_, ?_, ?_, ?_, fun i => by simp [World.frozen?, h, veObj]⟩ <;> rw [Joins.cell_of_block h] <;> rfl
/-- A version that is answered: its files are a row of its own. -/
def VerAt (w : World) (B : Nat) (f : Value) (v : Ve) : Prop := w.ownsRow B 28 2 f v.files.length (fiShape.vals v.files)

/-- All groups, as a slice of slices. -/
theorem lists_of {w w3 : World} {S : Nat → Prop} {V : Lit → Option Value} {l : List Fi} {ps : List (Int × Sl)} {v5 : Value} {B : Nat} (hG : Groups w S V l) (hps : ∀ p ∈ ps, V (.int .i64 p.1) = some (slV p.2)) (hrow : w3.ownsRow B 22 1 v5 ps.length ((ps.map (·.2)).map slV)) (hb : Below w.heap.size w w3) :
    ∃ ao cap, v5 = .slice ao (ps.map fun p => grp l p.1).length cap ∧ Lists w3 ao (ps.map fun p => grp l p.1) := by
  have each : ∀ i (h : i < ps.length), ∃ p c, slV ps[i].2 = .slice p (grp l ps[i].1).length c ∧ (p = none → c = 0) ∧ ElemsAt fiShape w3 p (grp l ps[i].1) := fun i h => by
    have hu := hG.some_ _ _ (hps _ (List.getElem_mem h))
    obtain ⟨p, c, e, h0, hlt, _, hel⟩ := own_rows (F := fiShape) hu.1
    exact ⟨p, c, e, h0, hel.keep (fun a ea hl => hb.block _ hl) hb.size⟩
  rcases hrow.2 with ⟨rfl, hn⟩ | ⟨g, cap, cur, rfl, hBg, hg, hle, hcm, hcs, htk⟩
  · have : ps = [] := List.length_eq_zero_iff.1 hn
    subst this
    exact ⟨none, 0, rfl, fun i hi => by simp at hi⟩
  · refine ⟨some ⟨g, 0, none⟩, cap, by rw [List.length_map], fun i hi => ?_⟩
    rw [List.length_map] at hi
    obtain ⟨p, c, e1, e2, e3⟩ := each i hi
    have hgd : (ps.map fun p => grp l p.1).getD i [] = grp l ps[i].1 := by rw [getD_lt _ _ _ (by simpa using hi)]; simp
    have hc := hrow.cells (g := g) rfl i (slV ps[i].2) (by simp [hi])
    rw [Go.WideShapes.add_plain] at hc
    exact ⟨g, 0, p, c, rfl, lt_of_block hg, by rw [hgd, ← e1]; exact hc, e2, by rw [hgd]; exact e3⟩
theorem flat_groups {l : List Fi} {D : DataW Value} {V : Lit → Option Value} {ps : List (Int × Sl)} (hA : AllOf D V ps) (hh : ∀ f ∈ l, Maps.has D (.int .i64 f.2) = true) : (ps.map fun p => grp l p.1).flatten.Perm l := by
  have := groups_perm (ps.map (·.1)) l hA.1 fun f hf => hA.2.1 _ (hh f hf)
  rw [List.flatMap_def, List.map_map] at this
  exact this
theorem form_any {w : World} {B n k : Nat} {t : TypeId} {v : Value} {xs : List Value} (h : w.ownsRow B t k v n xs) : ∃ ao cap, v = .slice ao n cap := by
  rcases h.2 with ⟨rfl, hn⟩ | ⟨g, cap, cur, rfl, _⟩
  · exact ⟨none, 0, by rw [hn]⟩
  · exact ⟨_, cap, rfl⟩
def VerAns (w : World) (v : Ve) (e : Ending) (w' : World) : Prop := ∃ f, e = .returned (veV f v.sort) ∧ VerAt w' w.heap.size f v.sort ∧ Below w.heap.size w w'

set_option maxRecDepth 100000 in
set_option maxHeartbeats 2000000 in
theorem version_any (S : Nat → Prop) (q : Nat) (v : Ve) (c : Nat) (w : World) (h : ShelfAt w S q v c) (hc : c ≤ 1000000000000) (hl : v.files.length ≤ 1000000000000) (hok : ∀ f ∈ v.files, OkF f) :
    Calls Tryd.prog 14 #[.pointer (some ⟨q, 0, none⟩)] w (VerAns w v) := by
  obtain ⟨bm, V, hP⟩ := h
  obtain ⟨nn, hnn, D, hown, hD⟩ := hP.map
  have hsz := hown.size_le
  have hbl := hown.lt
  have hql := hP.lt.1
  have HH : Hid (∀ f ∈ v.files, Maps.has D (.int .i64 f.2) = true) := fun f hf => by
    rw [← isSome_has hown keyI Tryd.underlying51 (zeroFiles w) (keyOfI (hok f hf).2), hD, hP.groups.dom]
    exact hasN_true.2 ⟨f, hf, rfl⟩
  have hV : ∀ k x, V (.int .i64 k) = some x → ∃ t : Sl, x = slV t := fun k x hx => by
    obtain ⟨ao, cap, e, _⟩ := row_form (hP.groups.some_ k x hx)
    exact ⟨(ao, _, cap), e⟩
  obtain ⟨w1, hw1⟩ : ∃ w1, w1 = w.alloc (veObj (.slice none 0 0) Ve.zero) := ⟨_, rfl⟩
  have hw1' : w.alloc (.cells #[.slice none 0 0, .int .i64 0, .int .i64 0, .int .i64 0] 24) = w1 := hw1.symm
  have hb1 : Below w.heap.size w w1 := by rw [hw1]; exact (Below.refl _ _).alloc (Nat.le_refl _) _
  have hx1 : w1.heap[w.heap.size]? = some (veObj (.slice none 0 0) Ve.zero) := by rw [hw1]; exact heap_alloc_new w _
  have hs1 : w1.heap.size = w.heap.size + 1 := by rw [hw1]; simp
  have hown2 : (w1.alloc (.cells #[.map (some bm)] 51)).ownsMap Tryd.prog 3 rv bm nn D := by
    obtain ⟨es, clock, hq, F, hs, e⟩ := hown
    exact ⟨es, clock, ((Below.heap_alloc _ _ _ (by omega)).trans (hb1.block bm hbl)).trans hq, F, hs, e⟩
  have hcol := collect_any w1.heap.size bm nn D V hD hV (by omega) _ (by rw [Joins.cell_of_block (show (w1.alloc (.cells #[.map (some bm)] 51)).heap[w1.heap.size]? = some (.cells #[.map (some bm)] 51 (0, 0)) from heap_alloc_new w1 _)]; rfl) hown2
  have HCol : Hid _ := hcol
  have HP : Hid (Parts w S q bm V v c) := hP
  have HB1 : Hid (Below w.heap.size w w1) := hb1
  have HX1 : Hid (w1.heap[w.heap.size]? = some (veObj (.slice none 0 0) Ve.zero)) := hx1
  have HLen : Hid (Maps.size D ≤ 1000000000000 ∧ v.files.length ≤ 1000000000000) := ⟨by omega, hl⟩
  obtain ⟨q0, q1, q2, q3, _⟩ := (hP.below hb1).cells
  have HS1 : Hid (w1.heap.size = w.heap.size + 1) := hs1
  clear hP hown hown2 hcol hw1 hb1 hx1 hsz hbl hD hV hnn hok hs1
  go_enter Tryd.func14, Tryd.ntmps14
  go_wp2_with fail
  refine (values_any _ _).mono ?_
  rintro e w2 ⟨rfl, rfl⟩
  go_wp2_with fail
  refine (show Calls _ _ _ _ _ from HCol.out).mono ?_
  rintro e w3 ⟨v5, ps, rfl, hA, hpl, hrow, hb3⟩
  have hb13 : Below w1.heap.size w1 w3 := ((Below.refl _ w1).alloc (Nat.le_refl _) _).trans (hb3.mono (by simp))
  have hbw3 : Below w.heap.size w w3 := HB1.out.trans (hb13.mono HB1.out.size)
  obtain ⟨ao, cap, rfl, hLs⟩ := lists_of HP.out.groups hA.2.2 hrow hbw3
  have hperm := flat_groups hA HH.out
  have hcat := concat_any ao cap _ w3 hLs (by rw [List.length_map]; have := HLen.out.1; omega) (by rw [hperm.length_eq]; exact HLen.out.2)
  have HCat : Hid _ := hcat
  have HPe : Hid _ := hperm
  have HB13 : Hid (Below w1.heap.size w1 w3) := hb13
  clear hA hrow hb3 hb13 hbw3 hLs hperm hcat HCol q0 q1 q2 q3
  generalize (ps.map fun p => grp v.files p.1) = ls at *
  generalize hm : ls.length = m at *
  clear hm
  go_wp2_with fail
  refine (show Calls _ _ _ _ _ from HCat.out).mono ?_
  rintro e w4 ⟨v6, rfl, ho6, hb4⟩
  have hso := sortF_any ls.flatten (by rw [HPe.out.length_eq]; exact HLen.out.2) w4 ho6 hb4.size
  have HSo : Hid _ := hso
  have HB14 : Hid (Below w1.heap.size w1 w4) := HB13.out.trans (hb4.mono HB13.out.size)
  have HFl : Hid (srt ls.flatten = srt v.files ∧ ls.flatten.length = v.files.length) := ⟨srt_of_perm HPe.out, HPe.out.length_eq⟩
  have HW3 : Hid (w1.heap.size ≤ w3.heap.size) := HB13.out.size
  clear ho6 hb4 hso HCat HB13
  go_wp2_with fail
  refine (show Calls _ _ _ _ _ from HSo.out).mono ?_
  rintro e w5 ⟨rfl, ho5, hb5⟩
  have hB15 : Below w1.heap.size w1 w5 := HB14.out.trans (hb5.mono HW3.out)
  have HO5 : Hid (w5.ownsRow w3.heap.size 28 2 v6 ls.flatten.length (fiShape.vals (srt ls.flatten))) := ho5
  have hx5 : w5.heap[w.heap.size]? = some (veObj (.slice none 0 0) Ve.zero) := (hB15.block _ (by have := HS1.out; omega)).trans HX1.out
  have hBw5 : Below w.heap.size w w5 := HB1.out.trans (hB15.mono HB1.out.size)
  obtain ⟨q0, q1, q2, q3, _⟩ := (HP.out.below hBw5).cells
  obtain ⟨x0, x1, x2, x3, xf⟩ := ve_cells hx5
  have xf0 := xf 0
  have xf1 := xf 1
  have xf2 := xf 2
  have xf3 := xf 3
  have hqg : q ≠ w.heap.size := by omega
  have HBW5 : Hid (Below w.heap.size w w5) := hBw5
  have HX5 : Hid (w5.heap[w.heap.size]? = some (veObj (.slice none 0 0) Ve.zero)) := hx5
  clear hB15 hBw5 hx5 xf HSo HB14 hb5 ho5
  obtain ⟨ao6, cap6, rfl⟩ := form_any HO5.out
  obtain ⟨ln, hln⟩ : ∃ ln, ln = ls.flatten.length := ⟨_, rfl⟩
  have HLn : Hid (ln = ls.flatten.length) := hln
  rw [← hln] at HO5 ⊢
  have HEnd : Hid (VerAns w v (.returned (veV (.slice ao6 ln cap6) v)) ((((w5.setCell ⟨w.heap.size, 0, none⟩ (.slice ao6 ln cap6)).setCell ⟨w.heap.size, 1, none⟩ (.int .i64 v.wal)).setCell ⟨w.heap.size, 2, none⟩ (.int .i64 v.next)).setCell ⟨w.heap.size, 3, none⟩ (.int .i64 v.seq))) := by
    have hb : Below w.heap.size w ((((w5.setCell ⟨w.heap.size, 0, none⟩ (.slice ao6 ln cap6)).setCell ⟨w.heap.size, 1, none⟩ (.int .i64 v.wal)).setCell ⟨w.heap.size, 2, none⟩ (.int .i64 v.next)).setCell ⟨w.heap.size, 3, none⟩ (.int .i64 v.seq)) :=
      (((HBW5.out.setCell (Nat.le_refl _) _).setCell (Nat.le_refl _) _).setCell (Nat.le_refl _) _).setCell (Nat.le_refl _) _
    refine ⟨_, rfl, ?_, hb⟩
    show World.ownsRow _ _ _ _ _ (srt v.files).length (fiShape.vals (srt v.files))
    rw [← HFl.out.1, srt_len, ← HLn.out]
    rcases HO5.out.2 with ⟨e1, hn⟩ | ⟨g, cp, cur, e1, hBg, hg, hrest⟩
    · cases e1
      exact ⟨HO5.out.1, .inl ⟨rfl, rfl⟩⟩
    · cases e1
      have hgw : g ≠ w.heap.size := by have := HS1.out; have := HW3.out; omega
      refine ⟨HO5.out.1, .inr ⟨g, cap6, cur, rfl, by have := HS1.out; have := HW3.out; omega, ?_, hrest⟩⟩
      rw [Below.heap_setCell _ _ _ _ (by simpa using hgw), Below.heap_setCell _ _ _ _ (by simpa using hgw), Below.heap_setCell _ _ _ _ (by simpa using hgw), Below.heap_setCell _ _ _ _ (by simpa using hgw)]
      exact hg
  have HK : Hid ((∀ X : World, X.heap[q]? = w5.heap[q]? → X.cell? ⟨q, 1, none⟩ = some (.int .i64 v.wal) ∧ X.cell? ⟨q, 2, none⟩ = some (.int .i64 v.next) ∧ X.cell? ⟨q, 3, none⟩ = some (.int .i64 v.seq)) ∧ ∀ (a b c d : Value), ((((w5.setCell ⟨w.heap.size, 0, none⟩ a).setCell ⟨w.heap.size, 1, none⟩ b).setCell ⟨w.heap.size, 2, none⟩ c).setCell ⟨w.heap.size, 3, none⟩ d).heap[q]? = w5.heap[q]?) := by
    refine ⟨fun X hX => ⟨(World.cell?_of_block hX).trans q1, (World.cell?_of_block hX).trans q2, (World.cell?_of_block hX).trans q3⟩, fun a b c d => ?_⟩
    rw [Below.heap_setCell _ _ _ _ (by simpa using hqg), Below.heap_setCell _ _ _ _ (by simpa using hqg), Below.heap_setCell _ _ _ _ (by simpa using hqg), Below.heap_setCell _ _ _ _ (by simpa using hqg)]
  have HBox : Hid (((((w5.setCell ⟨w.heap.size, 0, none⟩ (.slice ao6 ln cap6)).setCell ⟨w.heap.size, 1, none⟩ (.int .i64 v.wal)).setCell ⟨w.heap.size, 2, none⟩ (.int .i64 v.next)).setCell ⟨w.heap.size, 3, none⟩ (.int .i64 v.seq)).heap[w.heap.size]? = some (veObj (.slice ao6 ln cap6) v)) := by
    have h0 := HX5.out
    unfold veObj at h0
    have e1 := Joins.block_setCell h0 (i := 0) (.slice ao6 ln cap6)
    have e2 := Joins.block_setCell e1 (i := 1) (.int .i64 v.wal)
    have e3 := Joins.block_setCell e2 (i := 2) (.int .i64 v.next)
    have e4 := Joins.block_setCell e3 (i := 3) (.int .i64 v.seq)
    show _ = _
    rw [e4]; rfl
  clear HO5 HFl hln
  go_wp2_with fail
  go_region_held3 (fun w' => w'.cell? ⟨q, 1, none⟩ = some (.int .i64 v.wal) ∧ w'.cell? ⟨q, 2, none⟩ = some (.int .i64 v.next) ∧ w'.cell? ⟨q, 3, none⟩ = some (.int .i64 v.seq))
    (first | with_reducible exact ⟨q1, q2, q3⟩ | exact ⟨q1, q2, q3⟩ | exact HK.out.1 _ (HK.out.2 _ _ _ _)) (fail)
  clear HK q0 q1 q2 q3 x0 x1 x2 x3 xf0 xf1 xf2 xf3
  generalize ((((w5.setCell ⟨w.heap.size, 0, none⟩ (.slice ao6 ln cap6)).setCell ⟨w.heap.size, 1, none⟩ (.int .i64 v.wal)).setCell ⟨w.heap.size, 2, none⟩ (.int .i64 v.next)).setCell ⟨w.heap.size, 3, none⟩ (.int .i64 v.seq)) = X at *
  have hbx : X.drew.heap[w.heap.size]? = some (veObj (.slice ao6 ln cap6) v) := HBox.out
  obtain ⟨x0, x1, x2, x3, _⟩ := ve_cells hbx
  have HE2 : Hid (VerAns w v (.returned (veV (.slice ao6 ln cap6) v)) X.drew) := by
    obtain ⟨f, h1, h2, h3⟩ := HEnd.out
    exact ⟨f, h1, rows_keep h2 (fun _ _ => rfl), ⟨h3.os, h3.tape, h3.output, h3.size, h3.block⟩⟩
  clear HEnd HBox hbx
  go_wp2
  refine bodyPost_ret (v := .agg #[.slice ao6 ln cap6, .int .i64 v.wal, .int .i64 v.next, .int .i64 v.seq]) (by simp [results, Tryd.results14, go_sem, x0, x1, x2, x3]) rfl ?_
  exact HE2.out
end Go.Proofs.YtjfanbemihheiaaDoor.Ma
