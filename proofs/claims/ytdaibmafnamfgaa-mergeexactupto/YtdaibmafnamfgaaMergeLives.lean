/-
  The few versions that every statement asks of first.
-/
import Derived.Test.YtdaibmafnamfgaaMergeTrim
namespace Go.Proofs.Ytdaibmafnamfgaa.Mg
open Go.RowKit Go.Shelf Cm Mm
set_option linter.unusedVariables false

theorem elems_lit (w : World) (xs : List En) (cs : Array Value) (h : cs.toList = enShape.vals xs) : ElemsAt enShape (w.alloc (.cells cs 28)) (some ⟨w.heap.size, 0, none⟩) xs := by
  refine .inr ⟨w.heap.size, 0, rfl, by simp, fun i hi j u hu => ?_⟩
  have hj : j < enShape.sz := by rw [← enShape.len xs[i]]; exact (List.getElem?_eq_some_iff.1 hu).1
  rw [Joins.cell_of_block (show (w.alloc (.cells cs 28)).heap[w.heap.size]? = some (.cells cs 28 (0, 0)) from heap_alloc_new w _)]
  have := enShape.vals_get xs i hi j hj
  rw [← h, hu] at this
  rw [Nat.zero_add]
  simpa using this
/-- Two lists in a slice. -/
theorem lists2 (w : World) {ao bo : Option Addr} {c d : Nat} {l k : List En} (hx : ElemsAt enShape w ao l) (hn : ao = none → c = 0) (hy : ElemsAt enShape w bo k) (hm : bo = none → d = 0) :
    Lists (w.alloc (.cells #[.slice ao l.length c, .slice bo k.length d] 22)) (some ⟨w.heap.size, 0, none⟩) [l, k] := fun i hi => by
  have hb := (Below.refl w.heap.size w).alloc (Nat.le_refl _) (.cells #[.slice ao l.length c, .slice bo k.length d] 22)
  have he : (w.alloc (.cells #[.slice ao l.length c, .slice bo k.length d] 22)).heap[w.heap.size]? = some (.cells #[.slice ao l.length c, .slice bo k.length d] 22 (0, 0)) := heap_alloc_new w _
  rcases (show i = 0 ∨ i = 1 by simp at hi; omega) with rfl | rfl
  · exact ⟨w.heap.size, 0, ao, c, rfl, by simp, by rw [Joins.cell_of_block he]; rfl, hn, hx.later hb⟩
  · exact ⟨w.heap.size, 0, bo, d, rfl, by simp, by rw [Joins.cell_of_block he]; rfl, hm, hy.later hb⟩
theorem lists3 (w : World) {ao bo co : Option Addr} {c d f : Nat} {l k j : List En} (hx : ElemsAt enShape w ao l) (hn : ao = none → c = 0) (hy : ElemsAt enShape w bo k) (hm : bo = none → d = 0) (hz : ElemsAt enShape w co j) (ho : co = none → f = 0) :
    Lists (w.alloc (.cells #[.slice ao l.length c, .slice bo k.length d, .slice co j.length f] 22)) (some ⟨w.heap.size, 0, none⟩) [l, k, j] := fun i hi => by
  have hb := (Below.refl w.heap.size w).alloc (Nat.le_refl _) (.cells #[.slice ao l.length c, .slice bo k.length d, .slice co j.length f] 22)
  have he : (w.alloc (.cells #[.slice ao l.length c, .slice bo k.length d, .slice co j.length f] 22)).heap[w.heap.size]? = some (.cells #[.slice ao l.length c, .slice bo k.length d, .slice co j.length f] 22 (0, 0)) := heap_alloc_new w _
  rcases (show i = 0 ∨ i = 1 ∨ i = 2 by simp at hi; omega) with rfl | rfl | rfl
  · exact ⟨w.heap.size, 0, ao, c, rfl, by simp, by rw [Joins.cell_of_block he]; rfl, hn, hx.later hb⟩
  · exact ⟨w.heap.size, 0, bo, d, rfl, by simp, by rw [Joins.cell_of_block he]; rfl, hm, hy.later hb⟩
  · exact ⟨w.heap.size, 0, co, f, rfl, by simp, by rw [Joins.cell_of_block he]; rfl, ho, hz.later hb⟩
/-- Merge of two lists, of three. -/
theorem merge2_any (w : World) {ao bo : Option Addr} {c d : Nat} {l k : List En} (hx : ElemsAt enShape w ao l) (hn : ao = none → c = 0) (hy : ElemsAt enShape w bo k) (hm : bo = none → d = 0) (hl : l.length + k.length ≤ 1000000000000) :
    Calls Try.prog 10 #[.slice (some ⟨w.heap.size, 0, none⟩) 2 2] (w.alloc (.cells #[.slice ao l.length c, .slice bo k.length d] 22)) (MAns (w.alloc (.cells #[.slice ao l.length c, .slice bo k.length d] 22)) (merged (l ++ k))) := by
  have h := merge_any (some ⟨w.heap.size, 0, none⟩) 2 [l, k] _ (lists2 w hx hn hy hm) (by simp) (by simpa using hl)
  rw [show [l, k].flatten = l ++ k by simp] at h
  exact h
theorem merge3_any (w : World) {ao bo co : Option Addr} {c d f : Nat} {l k j : List En} (hx : ElemsAt enShape w ao l) (hn : ao = none → c = 0) (hy : ElemsAt enShape w bo k) (hm : bo = none → d = 0) (hz : ElemsAt enShape w co j) (ho : co = none → f = 0) (hl : l.length + k.length + j.length ≤ 1000000000000) :
    Calls Try.prog 10 #[.slice (some ⟨w.heap.size, 0, none⟩) 3 3] (w.alloc (.cells #[.slice ao l.length c, .slice bo k.length d, .slice co j.length f] 22)) (MAns (w.alloc (.cells #[.slice ao l.length c, .slice bo k.length d, .slice co j.length f] 22)) (merged (l ++ k ++ j))) := by
  have h := merge_any (some ⟨w.heap.size, 0, none⟩) 3 [l, k, j] _ (lists3 w hx hn hy hm hz ho) (by simp) (by simp; omega)
  rw [show [l, k, j].flatten = l ++ k ++ j by simp] at h
  exact h
def ea : En := ⟨⟨#[97]⟩, 3, true, ⟨#[]⟩⟩
def eb : En := ⟨⟨#[97]⟩, 1, false, ⟨#[119]⟩⟩
def ec : En := ⟨⟨#[98]⟩, 2, false, ⟨#[121]⟩⟩
theorem key_ne : (⟨#[97]⟩ : ByteArray) ≠ ⟨#[98]⟩ := by decide
theorem less_ab : less ea eb = true := by
  unfold less En.ahead
  rw [if_pos (show ea.key = eb.key from rfl)]; decide
theorem lt_ab : lt ⟨#[97]⟩ ⟨#[98]⟩ = true := by
  unfold lt
  rw [ByteArray.toList_eq, ByteArray.toList_eq]
  rfl
theorem less_ac : less ea ec = true := by
  unfold less En.ahead
  rw [if_neg (show ea.key ≠ ec.key from key_ne)]; exact lt_ab
theorem less_bc : less eb ec = true := by
  unfold less En.ahead
  rw [if_neg (show eb.key ≠ ec.key from key_ne)]; exact lt_ab
theorem lit_sorted : Sorted [ea, eb, ec] := by
  unfold Sorted
  simp [less_ab, less_ac, less_bc]
theorem lit_sorted2 : Sorted [eb, ec] := by
  unfold Sorted
  simp [less_bc]
theorem lit_view : view 2 (merged [ea, eb, ec]) = [eb, ec] := by
  rw [merged_self lit_sorted]
  show vw 2 none [ea, eb, ec] = _
  have h1 : fresh none eb.key = true := rfl
  have h2 : fresh (some eb.key) ec.key = true := by show decide (eb.key ≠ ec.key) = true; exact decide_eq_true key_ne
  simp only [vw]
  rw [h1, h2]
  rfl
theorem lit_merge : merged ([eb, ec] ++ [eb, ec]) = [eb, ec] := by rw [merged_twice, merged_self lit_sorted2]
theorem lit_trim : trim true [] (merged [eb, ec]) = [eb, ec] := by
  rw [merged_self lit_sorted2]
  have h2 : keepB [] (some eb) ec = true := by
    have : keepB [] (some eb) ec = (decide (eb.key ≠ ec.key) || false) := rfl
    rw [this, decide_eq_true (show eb.key ≠ ec.key from key_ne)]; rfl
  show st (tr [] none [eb, ec]) = _
  simp only [tr]
  rw [h2]
  rfl
set_option maxRecDepth 100000 in
set_option maxHeartbeats 1000000 in
theorem lives_any (w : World) : Calls Try.prog 7 #[] w fun e w' => e = .returned (.bool true) ∧ Below w.heap.size w w' := by
  have HX : Hid _ := elems_lit w [ea, eb, ec] #[.string ⟨#[97]⟩, .int .i64 3, .bool true, .string ⟨#[]⟩, .string ⟨#[97]⟩, .int .i64 1, .bool false, .string ⟨#[119]⟩, .string ⟨#[98]⟩, .int .i64 2, .bool false, .string ⟨#[121]⟩] rfl
  have HV : Hid _ := view_any (some ⟨w.heap.size, 0, none⟩) 3 [ea, eb, ec] 2 _ HX.out (fun e => by cases e) (by simp)
  rw [lit_view] at HV
  have HB0 : Hid (Below w.heap.size w (w.alloc (.cells #[.string ⟨#[97]⟩, .int .i64 3, .bool true, .string ⟨#[]⟩, .string ⟨#[97]⟩, .int .i64 1, .bool false, .string ⟨#[119]⟩, .string ⟨#[98]⟩, .int .i64 2, .bool false, .string ⟨#[121]⟩] 28))) := (Below.refl _ _).alloc (Nat.le_refl _) _
  clear HX
  go_enter Try.func7, Try.ntmps7
  go_wp2_with fail
  refine (show Calls _ _ _ _ _ from HV.out).mono ?_
  rintro e w2 ⟨v, rfl, ho, hb2⟩
  have HB2 : Hid (Below w.heap.size w w2) := HB0.out.trans (hb2.mono HB0.out.size)
  obtain ⟨ao, c, rfl, hn, hx, _, _⟩ := own_lens ho
  obtain ⟨pb, off, rfl, _, _, _, c3⟩ := elem_cells hx (k := 0) (by simp)
  obtain ⟨_, _, e1, _, _, _, d3⟩ := elem_cells hx (k := 1) (by simp)
  cases e1
  have c3' : w2.cell? ⟨pb, off + 3, none⟩ = some (.string ⟨#[119]⟩) := by
    have h := c3
    rw [Nat.zero_mul, Nat.add_zero] at h; exact h
  have d3' : w2.cell? ⟨pb, off + 4 + 3, none⟩ = some (.string ⟨#[121]⟩) := by
    have h := d3
    rw [Nat.one_mul] at h; exact h
  have HM : Hid _ := merge2_any w2 hx hn hx hn (by simp)
  rw [lit_merge] at HM
  have HX2 : Hid (∀ X, Below w2.heap.size w2 X → ElemsAt enShape X (some ⟨pb, off, none⟩) [eb, ec]) := fun X hX => hx.later hX
  have HB3 : Hid (Below w2.heap.size w2 (w2.alloc (.cells #[.slice (some ⟨pb, off, none⟩) [eb, ec].length c, .slice (some ⟨pb, off, none⟩) [eb, ec].length c] 22))) := (Below.refl _ _).alloc (Nat.le_refl _) _
  clear ho hb2 HV HB0 hx c3 d3 hn
  go_wp2_with fail
  refine (show Calls _ _ _ _ _ from HM.out).mono ?_
  rintro e w3 ⟨v3, rfl, ho3, hb3⟩
  have HB4 : Hid (Below w2.heap.size w2 w3) := HB3.out.trans (hb3.mono HB3.out.size)
  obtain ⟨ao3, cc3, rfl, _, _, _, _⟩ := own_lens ho3
  have HT : Hid _ := trim_any true (some ⟨pb, off, none⟩) c [eb, ec] none 0 [] w3 (HX2.out w3 HB4.out) (fun e => by cases e) (by simp) (.inl rfl) (by simp)
  rw [lit_trim] at HT
  clear ho3 hb3 HM HX2 HB3
  go_wp2_with fail
  refine (show Calls _ _ _ _ _ from HT.out).mono ?_
  rintro e w4 ⟨v4, rfl, ho4, hb4⟩
  have HB5 : Hid (Below w2.heap.size w2 w4) := HB4.out.trans (hb4.mono HB4.out.size)
  obtain ⟨ao4, cc4, rfl, _, _, _, _⟩ := own_lens ho4
  have HB6 : Hid (Below w.heap.size w w4) := HB2.out.trans (HB5.out.mono HB2.out.size)
  clear ho4 hb4 HT HB4 HB5 HB2 c3' d3'
  go_wp2
  go_ret
  exact ⟨rfl, HB6.out⟩
end Go.Proofs.Ytdaibmafnamfgaa.Mg
