/-
  The walk of the statement MemApart.
-/
import Derived.Test.YtbbncfgiimkpnaaMemRows
namespace Go.Proofs.Ytbbncfgiimkpnaa.Mm
open Go.RowKit Cm
set_option linter.unusedVariables false

def spare : En := ⟨⟨#[115, 112, 97, 114, 101]⟩, 0, false, ⟨#[]⟩⟩
def fin : En := ⟨⟨#[255, 255]⟩, 1, false, ⟨#[]⟩⟩
theorem take_front (xs : List En) (y : En) : (xs ++ [y]).take xs.length = xs := by simp

set_option maxRecDepth 100000 in
set_option maxHeartbeats 4000000 in
theorem apart_walk (ah ao : Option Addr) (ch ca : Nat) (hs : List Int) (xs : List En) (w : World) (hh : CellsAt w ah (hs.map (Value.int .i64))) (nh : ah = none → ch = 0) (hok : ∀ h ∈ hs, -9223372036854775808 ≤ h ∧ h ≤ 9223372036854775807) (hx : ElemsAt enShape w ao xs) (nx : ao = none → ca = 0) (hxo : AllOk xs)
    (hhl : hs.length ≤ 10000000) (hb : xs.length + bytesE xs ≤ 10000000) :
    Calls Try.prog 6 #[.slice ah hs.length ch, .slice ao xs.length ca] w fun e w' => e = .returned (.bool true) ∧ Below w.heap.size w w' := by
  obtain ⟨i0, hi, hz0, hz1, hz2⟩ := info_parts infoInt
  obtain ⟨i4, hi4, hy0, hy1, hy2⟩ := info_parts infoEn4
  have HX : Hid (∀ wr, Below w.heap.size w wr → ElemsAt enShape wr ao xs) := fun wr hb => hx.later hb
  have HH : Hid (∀ wr, Below w.heap.size w wr → CellsAt wr ah (hs.map (Value.int .i64))) := fun wr hb => hh.below hb
  have HOk : Hid (AllOk xs) := hxo
  have HHok : Hid (∀ h ∈ hs, -9223372036854775808 ≤ h ∧ h ≤ 9223372036854775807) := hok
  have hxl : xs.length ≤ 10000000 := by omega
  have hxb : bytesE xs ≤ 10000000 := by omega
  have HLen : Hid (∀ k, (addAll [] (xs.take k)).length ≤ 10000000 ∧ bytesE (addAll [] (xs.take k)) ≤ 10000000) := fun k => by
    have h1 := addAll_len [] (xs.take k)
    have h2 := bytes_take xs k
    have h3 : (xs.take k).length ≤ xs.length := by rw [List.length_take]; omega
    simp [bytesE] at h1 h2 hb ⊢
    omega
  clear hh hx hxo hok hb
  go_enter Try.func6, Try.ntmps6
  go_wp2_with fail
  refine (lives_any _).mono ?_
  rintro e w1 ⟨rfl, hb1⟩
  have hs1 := hb1.size
  have HB1 : Hid _ := hb1
  have hh1 := (HH.out w1 hb1).alloc (.cells #[] 3)
  clear hb1
  -- the heights, and one behind them
  go_wp2_with (at_builtin; refine wpList_append_any _ rfl _ _ 22 rfl w1.heap.size 3 i0 (.int .i64 0) 8 Try.underlying22 hi hz0 hz1 hz2 rfl _ 0 [] rfl (own_emptyT w1 _ _ _ (Nat.le_refl _)) ah hs.length ch (hs.map (Value.int .i64)) rfl nh (by simp) hh1 ?c0 ?c1 ?c2 ?c3 ?_)
  case c0 => intro u hu; obtain ⟨x, _, rfl⟩ := List.mem_map.1 hu; rfl
  case c1 => unfold maxLen; omega
  case c2 => omega
  case c3 => simp
  intro v2 w2 hown2 hgrow2 hat2
  have hB2 : Below w1.heap.size w1 w2 := ((Below.refl _ _).alloc (Nat.le_refl _) _).grown hgrow2 (by simp) (fun k hk => ((own_emptyT w1 3 1 _ (Nat.le_refl _)).lt k hk).1)
  have hs2 := hB2.size
  have HB2 : Hid _ := hB2
  clear hgrow2 hat2 hh1 hB2
  go_wp2_with (at_builtin; refine wpList_append_any _ rfl _ _ 22 rfl w1.heap.size 3 i0 (.int .i64 0) 8 Try.underlying22 hi hz0 hz1 hz2 rfl v2 hs.length (hs.map (Value.int .i64)) rfl (by have := World.ownsRow.alloc hown2 (.cells #[.int .i64 (-77)] 3); simpa using this) (some ⟨w2.heap.size, 0, none⟩) 1 1 [.int .i64 (-77)] rfl (by simp) rfl (cellsI1 _) ?d0 ?d1 ?d2 ?d3 ?_)
  case d0 => intro u hu; simp at hu; subst hu; rfl
  case d1 => unfold maxLen; omega
  case d2 => omega
  case d3 => simp; omega
  intro v3 w3 hown3 hgrow3 hat3
  have hB3 : Below w1.heap.size w1 w3 := (HB2.out.alloc hs2 _).grown hgrow3 (by simp; omega) (fun k hk => (hown2.lt k hk).1)
  have hs3 := hB3.size
  obtain ⟨gh, ch3, rfl, hg3, hgl3, hcap3⟩ := own_formK hown3 (by omega)
  have HB3 : Hid (Below w.heap.size w w3) := HB1.out.trans (hB3.mono hs1)
  have HO3 : Hid (w3.ownsRow w1.heap.size 3 1 (.slice (some ⟨gh, 0, none⟩) (hs.length + 1) ch3) (hs.length + 1) (hs.map (Value.int .i64) ++ [.int .i64 (-77)])) := hown3
  clear hgrow3 hat3 hown3 hown2 hB3 HB2 HB1
  -- the entries, and one behind them
  have hx3 := HX.out (w3.alloc (.cells #[] 31)) (HB3.out.alloc HB3.out.size _)
  go_wp2_with (at_builtin; refine wpList_append_rows (F := enShape) _ rfl _ _ 23 rfl w3.heap.size 31 i4 _ 48 Try.underlying23 hi4 hy0 hy1 hy2 rfl _ 0 [] rfl (own_emptyT w3 _ _ _ (Nat.le_refl _)) ao xs.length ca xs rfl nx rfl hx3 ?e1 ?e2 ?e3 ?_)
  case e1 => unfold maxLen; omega
  case e2 => omega
  case e3 => simp
  intro v4 w4 hown4 hgrow4 hat4
  have hB4 : Below w3.heap.size w3 w4 := ((Below.refl _ _).alloc (Nat.le_refl _) _).grown hgrow4 (by simp) (fun k hk => ((own_emptyT w3 31 4 _ (Nat.le_refl _)).lt k hk).1)
  have hs4 := hB4.size
  have HB4 : Hid _ := hB4
  have HO4 : Hid (w4.ownsRow w3.heap.size 31 enShape.sz v4 xs.length (enShape.vals xs)) := by show w4.ownsRow _ _ _ _ _ _; simpa using hown4
  have helm : ElemsAt enShape (w4.alloc (.cells #[.string ⟨#[115, 112, 97, 114, 101]⟩, .int .i64 0, .bool false, .string ⟨#[]⟩] 31)) (some ⟨w4.heap.size, 0, none⟩) [spare] := elems1 spare
  clear hgrow4 hat4 hown4 hx3 hB4
  go_wp2_with (at_builtin; refine wpList_append_rows (F := enShape) _ rfl _ _ 23 rfl w3.heap.size 31 i4 _ 48 Try.underlying23 hi4 hy0 hy1 hy2 rfl v4 xs.length xs rfl (World.ownsRow.alloc HO4.out _) (some ⟨w4.heap.size, 0, none⟩) 1 1 [spare] rfl (by simp) rfl helm ?f1 ?f2 ?f3 ?_)
  case f1 => unfold maxLen; omega
  case f2 => omega
  case f3 => simp; omega
  intro v5 w5 hown5 hgrow5 hat5
  have hB5 : Below w3.heap.size w3 w5 := (HB4.out.alloc hs4 _).grown hgrow5 (by simp; omega) (fun k hk => (HO4.out.lt k hk).1)
  have hs5 := hB5.size
  have HO5 : Hid (w5.ownsRow w3.heap.size 31 4 v5 (xs.length + 1) (enShape.vals (xs ++ [spare]))) := hown5
  obtain ⟨g5, c5, rfl, hg5, hgl5, hcap5⟩ := own_formK HO5.out (by omega)
  have HB5 : Hid (Below w.heap.size w w5) := HB3.out.trans (hB5.mono HB3.out.size)
  have HO5h : Hid (w5.ownsRow w1.heap.size 3 1 (.slice (some ⟨gh, 0, none⟩) (hs.length + 1) ch3) (hs.length + 1) (hs.map (Value.int .i64) ++ [.int .i64 (-77)])) := own_keep HO3.out fun j hj => hB5.block j (HO3.out.lt j hj).2
  have hgh5 : gh < w5.heap.size := Nat.lt_of_lt_of_le hgl3 hs5
  clear hgrow5 hat5 hown5 hB5 HB4 HO4 HO3 HB3 helm
  -- the tables
  have hc5i : (hs.length : Int) ≤ (ch3 : Int) := by omega
  have hc5x : (xs.length : Int) ≤ (c5 : Int) := by omega
  have HN5 : Hid _ := newS (some ⟨gh, 0, none⟩) ch3 hs w5 (cells_pre (own_cells1 HO5h.out hgh5)) HHok.out (by omega)
  go_wp2_with fail
  refine (show Calls _ _ _ _ _ from HN5.out).mono ?_
  rintro e w6 ⟨rfl, T6, hb6⟩
  have hs6 := hb6.size
  have HN6 : Hid _ := newS none 0 [] w6 (.inl rfl) (by simp) (by simp)
  have HT6 : Hid (Tab w6 (fun k => w5.heap.size ≤ k) (w5.heap.size + 1) []) := T6
  have HB6 : Hid _ := hb6
  clear T6 hb6 HN5
  go_wp2_with fail
  refine (show Calls _ _ _ _ _ from HN6.out).mono ?_
  rintro e w7 ⟨rfl, T7, hb7⟩
  have hs7 := hb7.size
  have hB57 : Below w5.heap.size w5 w7 := HB6.out.trans (hb7.mono hs6)
  have HT7 : Hid (Three w w5.heap.size (Cut (fun k => w5.heap.size ≤ k) w6 w7) (w5.heap.size + 1) (w6.heap.size + 1) [] none 0 w7) := by
    have ho := T7.cells
    exact ⟨⟨Tab.cutTo HT6.out hb7, fun j e => Cut.lo (fun k e => by have := HB5.out.size; omega) (by have := HB5.out.size; omega) e, fun j e => Cut.new e, .inl rfl, fun _ => rfl, Nat.le_refl _, (fun ad e => by cases e), HB5.out.trans (hB57.mono HB5.out.size)⟩, ho.1, ho.2.2.1, Cut.out (by omega) ho.2.2.1, fun j e => Cut.lo (fun k e => e) (by omega) e, by omega, (fun ad e => by cases e)⟩
  have he5 : ElemsAt enShape w5 (some ⟨g5, 0, none⟩) (xs ++ [spare]) := by
    have h := HO5.out
    have e1 : xs.length + 1 = (xs ++ [spare]).length := by simp
    rw [e1] at h
    obtain ⟨o, c, e2, _, _, _, he⟩ := own_rows (F := enShape) h
    simp only [Value.slice.injEq] at e2
    rw [e2.1]; exact he
  have he7 : ElemsAt enShape w7 (some ⟨g5, 0, none⟩) xs := by
    have := elems_take (he5.later hB57) xs.length
    rwa [take_front] at this
  have HAd : Hid _ := addS (some ⟨g5, 0, none⟩) c5 xs w7 HT7.out.both.tab HT7.out.both.new he7 (fun _ ad e h => by cases e; have := HT7.out.loS _ h; simp at this; omega) HOk.out (by simp; omega) (by simp [bytesE] at *; omega)
  have HK : Hid (∀ w8, Chg (Cut (fun k => w5.heap.size ≤ k) w6 w7) w7 w8 → ∀ j, j < w5.heap.size → w8.heap[j]? = w5.heap[j]?) := fun w8 h8 j hj => (h8.block j (Nat.lt_of_lt_of_le hj hB57.size) (fun e => by have := HT7.out.loS _ e; omega)).trans (hB57.block j hj)
  have HE5 : Hid (ElemsAt enShape w5 (some ⟨g5, 0, none⟩) (xs ++ [spare])) := he5
  generalize Cut (fun k => w5.heap.size ≤ k) w6 w7 = S at *
  generalize w5.heap.size + 1 = b at *
  generalize w6.heap.size + 1 = ob at *
  clear T7 hb7 hB57 HT6 HB6 HN6 he5 he7
  go_wp2_with fail
  refine (show Calls _ _ _ _ _ from HAd.out).mono ?_
  rintro e w8 ⟨rfl, T8, hc8⟩
  have hs8 := hc8.size
  have HK8 : Hid _ := HK.out w8 hc8
  have HT8 : Hid (Tab w8 S b (addAll [] xs)) := T8
  have HB8 : Hid (Below w.heap.size w w8) := HT7.out.both.bel.trans (hc8.below HT7.out.both.lo HT7.out.both.bel.size)
  have HR8 : Hid (∀ Y, Below w8.heap.size w8 Y → Y.cell? ⟨ob, 0, none⟩ = some (.int .i64 0) ∧ ob < Y.heap.size) := fun Y hY => by
    have ho := HT7.out.olt
    refine ⟨?_, by have := hY.size; omega⟩
    rw [World.cell?_of_block (hY.block ob (by omega)), World.cell?_of_block (hc8.block ob ho HT7.out.oout)]
    exact HT7.out.oth
  have HOO : Hid (¬ S ob ∧ w5.heap.size ≤ ob ∧ (∀ j, S j → w5.heap.size ≤ j) ∧ (∀ j, S j → w.heap.size ≤ j) ∧ ob < w8.heap.size ∧ ∀ j, w8.heap.size ≤ j → S j) := ⟨HT7.out.oout, HT7.out.loO, HT7.out.loS, HT7.out.both.lo, Nat.lt_of_lt_of_le HT7.out.olt hs8, fun j e => HT7.out.both.new j (by omega)⟩
  have he8 : ElemsAt enShape w8 (some ⟨g5, 0, none⟩) (xs ++ [spare]) := ElemsAt.keep HE5.out (fun a e hl => by cases e; exact HK8.out g5 hgl5) (by omega)
  have he8x : ElemsAt enShape w8 (some ⟨g5, 0, none⟩) xs := by
    have := elems_take he8 xs.length
    rwa [take_front] at this
  have HS8 : Hid _ := same_any (some ⟨g5, 0, none⟩) ao c5 ca xs w8 he8x (HX.out w8 HB8.out) (by omega)
  obtain ⟨pb, off, e8, k8, _⟩ := elem_cells he8 (k := xs.length) (by simp)
  cases e8
  have hgd8 : (xs ++ [spare]).getD xs.length En.zero = spare := by simp
  rw [hgd8] at k8
  have HOh8 : Hid (w8.ownsRow w1.heap.size 3 1 (.slice (some ⟨gh, 0, none⟩) (hs.length + 1) ch3) (hs.length + 1) (hs.map (Value.int .i64) ++ [.int .i64 (-77)])) := own_keep HO5h.out fun j hj => by cases hj; exact HK8.out gh hgh5
  have HOo8 : Hid (w8.ownsRow w3.heap.size 31 4 (.slice (some ⟨g5, 0, none⟩) (xs.length + 1) c5) (xs.length + 1) (enShape.vals (xs ++ [spare]))) := rows_keep HO5.out fun j hj => by cases hj; exact HK8.out g5 hgl5
  have kh8 : w8.cell? ⟨gh, hs.length, none⟩ = some (.int .i64 (-77)) := by
    have := World.ownsRow.cells HOh8.out (g := gh) rfl hs.length (.int .i64 (-77)) (by simp)
    rw [Go.WideShapes.add_plain, Nat.zero_add] at this
    exact this
  unfold spare at k8
  simp only [Nat.zero_add] at k8
  clear T8 hc8 HT7 HAd HK HK8 HE5 he8 he8x HO5 HO5h hgd8
  have hi1 : (0 : Int) ≤ (xs.length : Int) := by omega
  have hi2 : (xs.length : Int) < (xs.length : Int) + 1 := by omega
  have hi3 : (0 : Int) ≤ (hs.length : Int) := by omega
  have hi4' : (hs.length : Int) < (hs.length : Int) + 1 := by omega
  go_wp2_with fail
  refine (show Calls _ _ _ _ _ from HS8.out).mono ?_
  rintro e w9 ⟨rfl, n9, rfl⟩
  have kx9 : (w8.drewN n9).cell? ⟨g5, xs.length * 4, none⟩ = some (.string ⟨#[115, 112, 97, 114, 101]⟩) := k8
  have kh9 : (w8.drewN n9).cell? ⟨gh, hs.length, none⟩ = some (.int .i64 (-77)) := kh8
  have HT9 : Hid (Tab (w8.drewN n9) S b (addAll [] xs)) := Tab.keep HT8.out fun _ _ _ => rfl
  have hbd : Below w8.heap.size w8 (w8.drewN n9) := ⟨rfl, rfl, rfl, Nat.le_refl _, fun _ _ => rfl⟩
  have HB9 : Hid (Below w.heap.size w (w8.drewN n9)) := ⟨HB8.out.os, HB8.out.tape, HB8.out.output, HB8.out.size, HB8.out.block⟩
  have HR9 : Hid (∀ Y, Below (w8.drewN n9).heap.size (w8.drewN n9) Y → Y.cell? ⟨ob, 0, none⟩ = some (.int .i64 0) ∧ ob < Y.heap.size) := fun Y hY => HR8.out Y (hbd.trans hY)
  have HO9 : Hid (¬ S ob ∧ w5.heap.size ≤ ob ∧ (∀ j, S j → w5.heap.size ≤ j) ∧ (∀ j, S j → w.heap.size ≤ j) ∧ ob < (w8.drewN n9).heap.size ∧ ∀ j, (w8.drewN n9).heap.size ≤ j → S j) := HOO.out
  have HOh9 : Hid ((w8.drewN n9).ownsRow w1.heap.size 3 1 (.slice (some ⟨gh, 0, none⟩) (hs.length + 1) ch3) (hs.length + 1) (hs.map (Value.int .i64) ++ [.int .i64 (-77)])) := HOh8.out
  have HOo9 : Hid ((w8.drewN n9).ownsRow w3.heap.size 31 4 (.slice (some ⟨g5, 0, none⟩) (xs.length + 1) c5) (xs.length + 1) (enShape.vals (xs ++ [spare]))) := HOo8.out
  have hs9 : w7.heap.size ≤ (w8.drewN n9).heap.size := hs8
  clear HS8 HT8 HB8 HR8 HOO HOh8 HOo8 kh8 k8 hbd hs8
  generalize w8.drewN n9 = w9 at *
  have HL9 : Hid (Listed w9 [] none 0 w9) := ⟨.inl rfl, fun _ => rfl, Nat.le_refl _, (fun ad e => by cases e), Below.refl _ _⟩
  go_wp2
  go_loopw [69, 9] (fun i m wr => ∃ (k : Nat) (mo : Option Addr) (c : Nat), k ≤ xs.length ∧ i = .int .i64 k ∧ m = .slice mo (addAll [] (xs.take k)).length c ∧ Hid (Listed w9 (addAll [] (xs.take k)) mo c wr)) (fun i _ _ => xs.length - (intOf i).toNat)
  case atStart => exact ⟨0, none, 0, by omega, rfl, rfl, HL9⟩
  case round =>
    obtain ⟨k, mo, c, hk, rfl, rfl, HLk⟩ := hrel
    by_cases hlt : k < xs.length
    · have HBr : Hid (Below w.heap.size w wr) := HB9.out.trans (HLk.out.bel.mono HB9.out.size)
      obtain ⟨pb, off, rfl, c0, c1, c2, c3⟩ := elem_cells (HX.out wr HBr.out) hlt
      have HSt : Hid (addAll [] (xs.take (k + 1)) = addOne (addAll [] (xs.take k)) (xs.getD k En.zero)) := by show _ = _; rw [take_at hlt, addAll_snoc]
      obtain ⟨hv1, hv2⟩ := HLen.out k
      generalize hvs : addAll [] (xs.take k) = vs at *
      generalize xs.getD k En.zero = y at *
      clear hvs
      have hk0 : (0 : Int) ≤ (k : Int) := by omega
      have hk1 : (k : Int) < (xs.length : Int) := by omega
      have hbA : Below wr.heap.size wr (wr.alloc (entObj y)) := (Below.refl _ _).alloc (Nat.le_refl _) _
      have HRA : Hid _ := addR_any mo c vs y (wr.alloc (entObj y)) (HLk.out.els.later hbA) HLk.out.nil (by omega) HLk.out.cap
      have HSp : Hid (∀ Y v, Below (wr.alloc (entObj y)).heap.size (wr.alloc (entObj y)) Y → Y.ownsRow (wr.alloc (entObj y)).heap.size 31 4 v (addOne vs y).length (enShape.vals (addOne vs y)) → _) := fun Y v h1 h2 => HLk.out.step (hbA.trans (h1.mono hbA.size)) (Joins.ownsRow_le h2 hbA.size)
      unfold env entObj at HRA
      unfold entObj at HSp
      clear hbA HBr HLk
      go_wp2_with fail
      refine (show Calls _ _ _ _ _ from HRA.out).mono ?_
      rintro e w10 ⟨v10, rfl, ho10, hb10⟩
      obtain ⟨mo', c', rfl, L10⟩ := HSp.out w10 v10 hb10 ho10
      have HL10 : Hid _ := L10
      clear HRA HSp ho10 hb10 L10
      go_wp2
      go_roundw
      case rel => exact ⟨k + 1, mo', c', by omega, by go_num, by rw [HSt.out], by rw [HSt.out]; exact HL10⟩
      case measure => simp [intOf]; omega
    · obtain rfl : k = xs.length := by omega
      obtain ⟨hv1, hv2⟩ := HLen.out xs.length
      rw [List.take_length] at *
      clear HL9 hlt
      have hB9r := HLk.out.bel
      have HO := HO9.out
      have HTh : Hid (Three w w5.heap.size (Cut S w9 wr) b ob (addAll [] xs) mo c wr) := ⟨⟨Tab.cutTo HT9.out hB9r, fun j e => Cut.lo HO.2.2.2.1 (Nat.le_trans HB9.out.size hB9r.size) e, fun j e => Cut.new e, HLk.out.els, HLk.out.nil, HLk.out.cap, fun ad e => ⟨Cut.out (HLk.out.out ad e).1 (HLk.out.out ad e).2, (HLk.out.out ad e).2⟩, HB9.out.trans (hB9r.mono HB9.out.size)⟩, (HR9.out wr hB9r).1, (HR9.out wr hB9r).2, Cut.not HO.1 (HR9.out wr hB9r).2, fun j e => Cut.lo HO.2.2.1 (by have := hB9r.size; omega) e, HO.2.1, fun ad e => by have := (HLk.out.out ad e).1; omega⟩
      have HOh : Hid (wr.ownsRow w1.heap.size 3 1 (.slice (some ⟨gh, 0, none⟩) (hs.length + 1) ch3) (hs.length + 1) (hs.map (Value.int .i64) ++ [.int .i64 (-77)])) := own_keep HOh9.out fun j hj => hB9r.block j (HOh9.out.lt j hj).2
      have HOo : Hid (wr.ownsRow w3.heap.size 31 4 (.slice (some ⟨g5, 0, none⟩) (xs.length + 1) c5) (xs.length + 1) (enShape.vals (xs ++ [spare]))) := rows_keep HOo9.out fun j hj => hB9r.block j (HOo9.out.lt j hj).2
      have hB5r : w5.heap.size ≤ wr.heap.size := by have := hB9r.size; omega
      have hwg : w.heap.size ≤ gh := by omega
      have hwg5 : w.heap.size ≤ g5 := by omega
      have hgg : g5 ≠ gh := by omega
      clear HO hB9r HLk HT9 HB9 HR9 HO9 HOh9 HOo9 kx9 kh9
      generalize Cut S w9 wr = S1 at *
      generalize addAll [] xs = vs at *
      clear HX HH HOk HHok HLen
      generalize wr = X0 at *
      go_wp2
      go_loopw [79] (fun i wq => ∃ (k : Nat) (ys : List Value), k ≤ hs.length + 1 ∧ i = .int .i64 k ∧ w5.heap.size ≤ wq.heap.size ∧ Hid (wq.ownsRow w1.heap.size 3 1 (.slice (some ⟨gh, 0, none⟩) (hs.length + 1) ch3) (hs.length + 1) ys) ∧ Hid (Three w w5.heap.size S1 b ob vs mo c wq) ∧ Hid (∃ zs, wq.ownsRow w3.heap.size 31 4 (.slice (some ⟨g5, 0, none⟩) (xs.length + 1) c5) (xs.length + 1) zs)) (fun i _ => hs.length + 1 - (intOf i).toNat)
      case atStart => exact ⟨0, _, by omega, rfl, hB5r, HOh, HTh, ⟨_, HOo.out⟩⟩
      case round =>
        obtain ⟨k, ys, hk, rfl, hszq, HOq, HTq, HOoq⟩ := hrel
        clear HOh HTh HOo
        by_cases hlt : k < hs.length + 1
        · have hst := World.ownsRow.stored HOq.out k (.int .i64 5)
          have hfz := World.ownsRow.frozenAt HOq.out k
          have hcell := World.ownsRow.cellAt HOq.out k (by omega)
          have hyl : k < ys.length := by have := HOq.out.1; omega
          rw [List.getElem?_eq_getElem hyl] at hcell
          have HO1 : Hid _ := hst.1
          have HT1 : Hid _ := HTq.out.beside hst.2 (HTq.out.lower (by omega) hwg)
          have HZ1 : Hid (∃ zs, (wr.setCell ⟨gh, k, none⟩ (.int .i64 5)).ownsRow w3.heap.size 31 4 (.slice (some ⟨g5, 0, none⟩) (xs.length + 1) c5) (xs.length + 1) zs) := by
            obtain ⟨zs, hz⟩ := HOoq.out
            exact ⟨zs, rows_keep hz fun j hj => by cases hj; exact Below.heap_setCell _ _ _ _ (by simpa using hgg)⟩
          have hsz1 : w5.heap.size ≤ (wr.setCell ⟨gh, k, none⟩ (.int .i64 5)).heap.size := by simpa [World.setCell] using hszq
          have hk0 : (0 : Int) ≤ (k : Int) := by omega
          have hk1 : (k : Int) < (hs.length : Int) + 1 := by omega
          clear hst HOq HTq HOoq
          go_wp2
          go_roundw
          case rel => exact ⟨k + 1, _, by omega, by go_num, hsz1, HO1, HT1, HZ1⟩
          case measure => simp [intOf]; omega
        · obtain rfl : k = hs.length + 1 := by omega
          clear hlt HOq
          generalize wr = X1 at *
          go_wp2
          go_loopw [88] (fun i wq => ∃ (k : Nat), k ≤ xs.length + 1 ∧ i = .int .i64 k ∧ w5.heap.size ≤ wq.heap.size ∧ Hid (Three w w5.heap.size S1 b ob vs mo c wq) ∧ Hid (∃ zs, wq.ownsRow w3.heap.size 31 4 (.slice (some ⟨g5, 0, none⟩) (xs.length + 1) c5) (xs.length + 1) zs)) (fun i _ => xs.length + 1 - (intOf i).toNat)
          case atStart => exact ⟨0, by omega, rfl, hszq, HTq, HOoq⟩
          case round =>
            clear HTq HOoq hszq
            obtain ⟨k, hk, rfl, hszq, HTq, HOoq⟩ := hrel
            by_cases hlt : k < xs.length + 1
            · obtain ⟨zs, hz⟩ := HOoq.out
              obtain ⟨h4, h4c, h4f⟩ := stored4 hz hlt (.string ⟨#[115, 112, 111, 105, 108, 116]⟩) (.int .i64 0) (.bool false) (.string ⟨#[]⟩)
              obtain ⟨u0, q0⟩ := h4c 0 (by decide)
              obtain ⟨u1, q1⟩ := h4c 1 (by decide)
              obtain ⟨u2, q2⟩ := h4c 2 (by decide)
              obtain ⟨u3, q3⟩ := h4c 3 (by decide)
              rw [Nat.add_zero] at q0
              have r0 := h4f (k * 4)
              have r1 := h4f (k * 4 + 1)
              have r2 := h4f (k * 4 + 2)
              have r3 := h4f (k * 4 + 3)
              have HZ1 : Hid _ := h4
              have HT1 : Hid _ := HTq.out.beside (set4_grown (w := wr) (g := g5) (i1 := k * 4) (i2 := k * 4 + 1) (i3 := k * 4 + 2) (i4 := k * 4 + 3) (a := .string ⟨#[115, 112, 111, 105, 108, 116]⟩) (b := .int .i64 0) (c := .bool false) (d := .string ⟨#[]⟩)) (HTq.out.lower hgl5 hwg5)
              have hsz1 : w5.heap.size ≤ ((((wr.setCell ⟨g5, k * 4, none⟩ (.string ⟨#[115, 112, 111, 105, 108, 116]⟩)).setCell ⟨g5, k * 4 + 1, none⟩ (.int .i64 0)).setCell ⟨g5, k * 4 + 2, none⟩ (.bool false)).setCell ⟨g5, k * 4 + 3, none⟩ (.string ⟨#[]⟩)).heap.size := by simpa [World.setCell] using hszq
              have hk0 : (0 : Int) ≤ (k : Int) := by omega
              have hk1 : (k : Int) < (xs.length : Int) + 1 := by omega
              clear h4 h4c h4f hz HOoq HTq
              go_wp2
              go_roundw
              case rel => exact ⟨k + 1, by omega, by go_num, hsz1, HT1, HZ1⟩
              case measure => simp [intOf]; omega
            · obtain rfl : k = xs.length + 1 := by omega
              clear hlt HOoq
              generalize wr = X2 at *
              have hvl : vs.length ≤ 10000000 := hv1
              have hvb : bytesE vs ≤ 10000000 := hv2
              have HAl : Hid _ := allS X2 HTq.out.both.tab (by omega)
              have holt : ob < X2.heap.size := HTq.out.olt
              have HMo : Hid (∀ ad, mo = some ad → ad.block < X2.heap.size) := fun ad e => (HTq.out.both.out ad e).2
              have hwX : w.heap.size ≤ X2.heap.size := HTq.out.both.bel.size
              go_wp2_with fail
              refine (show Calls _ _ _ _ _ from HAl.out).mono ?_
              rintro e w11 ⟨va, rfl, hoa, hb11⟩
              have hs11 := hb11.size
              have T11 := HTq.out.below hszq hb11
              have HF : Hid _ := fromS ⟨#[]⟩ w11 T11.both.tab (by omega)
              rw [from_all] at HF
              have HT11 : Hid _ := T11
              have HOa : Hid (w11.ownsRow X2.heap.size 31 4 va vs.length (enShape.vals vs)) := hoa
              clear HAl HTq T11 hoa hb11
              go_wp2_with fail
              refine (show Calls _ _ _ _ _ from HF.out).mono ?_
              rintro e w12 ⟨vb, rfl, hob, hb12⟩
              have hs12 := hb12.size
              have HT12 : Hid _ := HT11.out.below (by omega) hb12
              obtain ⟨bo, bc, rfl, _, hbo, _, heb⟩ := own_rows (F := enShape) hob
              have hoa12 : w12.ownsRow X2.heap.size 31 4 va vs.length (enShape.vals vs) := rows_keep HOa.out fun j hj => hb12.block j (HOa.out.lt j hj).2
              obtain ⟨oa, cA, rfl, _, hga, hcA, _⟩ := own_rows (F := enShape) hoa12
              have HGa : Hid (∀ g, (Value.slice oa vs.length cA).ownBlock = some g → X2.heap.size ≤ g ∧ g < w11.heap.size) := fun g e => HOa.out.lt g e
              have HSo : Hid (∀ g, X2.heap.size ≤ g → g < w12.heap.size → ¬ Cut (Cut S1 X2 w11) w11 w12 g) := fun g h1 h2 => by
                by_cases h3 : g < w11.heap.size
                · exact Cut.not (Cut.out h1 h3) h2
                · exact Cut.out (by omega) h2
              have HBo : Hid (∀ ad, bo = some ad → w11.heap.size ≤ ad.block ∧ ad.block < w12.heap.size) := fun ad e => (hbo ad e).2
              have HOa12 : Hid _ := hoa12
              have HEb : Hid (ElemsAt enShape w12 bo vs) := heb
              generalize Cut (Cut S1 X2 w11) w11 w12 = S2 at *
              clear HF HT11 HOa hob hb12 heb hoa12 hbo hga
              go_wp2
              go_loopw [102] (fun i wq => ∃ (k : Nat) (ys : List Value), k ≤ vs.length ∧ i = .int .i64 k ∧ w12.heap.size ≤ wq.heap.size ∧ Hid (wq.ownsRow X2.heap.size 31 4 (.slice oa vs.length cA) vs.length ys) ∧ Hid (Three w w5.heap.size S2 b ob vs mo c wq) ∧ Hid (ElemsAt enShape wq bo vs)) (fun i _ => vs.length - (intOf i).toNat)
              case atStart => exact ⟨0, _, by omega, rfl, Nat.le_refl _, HOa12, HT12, HEb⟩
              case round =>
                clear HOa12 HT12 HEb
                obtain ⟨k, ys, hk, rfl, hszr, HOr, HTr, HEr⟩ := hrel
                have HCon : Hid (∀ g, (Value.slice oa vs.length cA).ownBlock = some g → ¬ S2 g ∧ ob ≠ g ∧ (∀ ad, mo = some ad → ad.block ≠ g) ∧ w.heap.size ≤ g) := fun g e => by
                  obtain ⟨h1, h2⟩ := HGa.out g e
                  exact ⟨HSo.out g h1 (by omega), by omega, fun ad e2 => by have := HMo.out ad e2; omega, by omega⟩
                by_cases hlt : k < vs.length
                · obtain ⟨ga, ca', e1, _, _, _⟩ := own_formK HOr.out (by omega)
                  simp only [Value.slice.injEq, true_and] at e1
                  obtain ⟨rfl, rfl⟩ := e1
                  obtain ⟨h4, h4c, h4f⟩ := stored4 HOr.out hlt (.string ⟨#[109, 97, 114, 107]⟩) (.int .i64 0) (.bool false) (.string ⟨#[]⟩)
                  obtain ⟨u0, q0⟩ := h4c 0 (by decide)
                  obtain ⟨u1, q1⟩ := h4c 1 (by decide)
                  obtain ⟨u2, q2⟩ := h4c 2 (by decide)
                  obtain ⟨u3, q3⟩ := h4c 3 (by decide)
                  rw [Nat.add_zero] at q0
                  have r0 := h4f (k * 4)
                  have r1 := h4f (k * 4 + 1)
                  have r2 := h4f (k * 4 + 2)
                  have r3 := h4f (k * 4 + 3)
                  obtain ⟨ys', hys'⟩ := h4
                  have HO1 : Hid _ := hys'
                  have hgg2 := set4_grown (w := wr) (g := ga) (i1 := k * 4) (i2 := k * 4 + 1) (i3 := k * 4 + 2) (i4 := k * 4 + 3) (a := .string ⟨#[109, 97, 114, 107]⟩) (b := .int .i64 0) (c := .bool false) (d := .string ⟨#[]⟩)
                  have HT1 : Hid _ := HTr.out.beside hgg2 (fun g e => HCon.out g (by cases e; rfl))
                  have HE1 : Hid _ := ElemsAt.keep HEr.out (fun a e hl => hgg2.block _ hl (fun e2 => by have h1 := (HGa.out ga rfl).2; have h2 := (HBo.out a e).1; cases e2; omega)) hgg2.size
                  have hsz1 : w12.heap.size ≤ ((((wr.setCell ⟨ga, k * 4, none⟩ (.string ⟨#[109, 97, 114, 107]⟩)).setCell ⟨ga, k * 4 + 1, none⟩ (.int .i64 0)).setCell ⟨ga, k * 4 + 2, none⟩ (.bool false)).setCell ⟨ga, k * 4 + 3, none⟩ (.string ⟨#[]⟩)).heap.size := by simpa [World.setCell] using hszr
                  have hk0 : (0 : Int) ≤ (k : Int) := by omega
                  have hk1 : (k : Int) < (vs.length : Int) := by omega
                  clear h4c h4f HOr HTr HEr hys' hgg2
                  go_wp2
                  go_roundw
                  case rel => exact ⟨k + 1, ys', by omega, by go_num, hsz1, HO1, HT1, HE1⟩
                  case measure => simp [intOf]; omega
                · obtain rfl : k = vs.length := by omega
                  clear hlt
                  generalize wr = X3 at *
                  have helz : ∀ j u, (enShape.vals [En.zero])[j]? = some u → (X3.alloc (.cells #[.string ⟨#[]⟩, .int .i64 0, .bool false, .string ⟨#[]⟩] 31)).cell? (Addr.add ⟨X3.heap.size, 0, none⟩ j) = some u := (elems1 (w := X3) En.zero).vals rfl
                  go_wp2_with (at_builtin; refine wpList_append_own_at _ rfl _ _ 23 rfl X2.heap.size 31 i4 _ enShape.sz 48 Try.underlying23 hi4 hy0 hy1 hy2 rfl (by decide) _ vs.length ys rfl (World.ownsRow.alloc HOr.out _) ⟨X3.heap.size, 0, none⟩ 1 1 (enShape.vals [En.zero]) rfl rfl helz (enShape.vals_one _) ?g1 ?g2 ?g3 ?_)
                  case g1 => unfold maxLen; omega
                  case g2 => omega
                  case g3 => simp; omega
                  intro v14 w14 hown14 hgrow14 _ hat14
                  obtain ⟨g14, c14, rfl, _, _, _⟩ := own_formK hown14 (by omega)
                  have TA := HTr.out.below (by omega) ((Below.refl _ X3).alloc (Nat.le_refl _) (.cells #[.string ⟨#[]⟩, .int .i64 0, .bool false, .string ⟨#[]⟩] 31))
                  have HT14 : Hid (Three w w5.heap.size (Cut S2 X3 (X3.alloc (.cells #[.string ⟨#[]⟩, .int .i64 0, .bool false, .string ⟨#[]⟩] 31))) b ob vs mo c w14) := TA.beside hgrow14 (fun g e => by
                    obtain ⟨p1, p2, p3, p4⟩ := HCon.out g e
                    exact ⟨Cut.not p1 (by have := (HGa.out g e).2; simp; omega), p2, p3, p4⟩)
                  have HE14 : Hid (ElemsAt enShape w14 bo vs) := ElemsAt.keep (ElemsAt.later HEr.out ((Below.refl _ X3).alloc (Nat.le_refl _) _)) (fun a e hl => hgrow14.block _ hl (fun e2 => by have h1 := (HGa.out _ e2.symm).2; have h2 := (HBo.out a e).1; omega)) hgrow14.size
                  have hs14 : X3.heap.size < w14.heap.size := by have := hgrow14.size; simp at this; omega
                  have HSb : Hid (∀ ad, bo = some ad → ¬ Cut S2 X3 (X3.alloc (.cells #[.string ⟨#[]⟩, .int .i64 0, .bool false, .string ⟨#[]⟩] 31)) ad.block) := fun ad e => by
                    obtain ⟨h1, h2⟩ := HBo.out ad e
                    exact Cut.not (HSo.out _ (by omega) h2) (by simp; omega)
                  generalize Cut S2 X3 (X3.alloc (.cells #[.string ⟨#[]⟩, .int .i64 0, .bool false, .string ⟨#[]⟩] 31)) = S3 at *
                  clear hown14 hgrow14 hat14 TA HCon HOr HTr HEr helz HGa HSo
                  -- one more version
                  have hbF : Below w14.heap.size w14 (w14.alloc (entObj fin)) := (Below.refl _ _).alloc (Nat.le_refl _) _
                  have T15 := HT14.out.below (by omega) hbF
                  have HAd2 : Hid _ := addS (some ⟨w14.heap.size, 0, none⟩) 1 [fin] _ T15.both.tab T15.both.new (elems1 fin) (fun _ ad e => by cases e; exact Cut.out (Nat.le_refl _) (by simp)) (fun e he => by simp at he; subst he; simp [En.ok, fin]) (by simp; omega) (by rw [bytesE_cons]; show _ + (2 + 0) ≤ _; omega)
                  have HT15 : Hid _ := T15
                  have HE15 : Hid (ElemsAt enShape (w14.alloc (entObj fin)) bo vs) := ElemsAt.later HE14.out hbF
                  have HSb5 : Hid (∀ ad, bo = some ad → ¬ Cut S3 w14 (w14.alloc (entObj fin)) ad.block) := fun ad e => Cut.not (HSb.out ad e) (by have := (HBo.out ad e).2; simp; omega)
                  generalize Cut S3 w14 (w14.alloc (entObj fin)) = S4 at *
                  unfold entObj fin at HAd2
                  unfold entObj fin at HT15 HE15
                  clear T15 hbF HT14 HE14 HSb
                  go_wp2_with fail
                  refine (show Calls _ _ _ _ _ from HAd2.out).mono ?_
                  rintro e w16 ⟨rfl, T16, hc16⟩
                  obtain ⟨T16', E16, B16, hs16⟩ := HT15.out.both.added T16 hc16
                  have HEb16 : Hid (ElemsAt enShape w16 bo vs) := ElemsAt.keep HE15.out (fun a e hl => hc16.block _ hl (HSb5.out a e)) hc16.size
                  have HT16 : Hid (Tab w16 S4 b (addOne vs fin)) := T16
                  have HEm16 : Hid (ElemsAt enShape w16 mo vs) := E16
                  have HB16 : Hid (Below w.heap.size w w16) := B16
                  have ho16 : w16.cell? ⟨ob, 0, none⟩ = some (.int .i64 0) := (World.cell?_of_block (hc16.block ob HT15.out.olt HT15.out.oout)).trans HT15.out.oth
                  have holt16 : ob < w16.heap.size := Nat.lt_of_lt_of_le HT15.out.olt hc16.size
                  have HRA : Hid _ := addR_any mo c vs fin w16 E16 HT15.out.both.nil (by omega) HT15.out.both.cap
                  have HO16 : Hid _ := ho16
                  have hl2 := add_len vs fin
                  unfold env at HRA
                  rw [show fin.key = ⟨#[255, 255]⟩ from rfl, show fin.seq = 1 from rfl, show fin.dead = false from rfl, show fin.val = ⟨#[]⟩ from rfl] at HRA
                  clear T16 hc16 T16' E16 B16 HT15 HE15 HSb5 HAd2 ho16
                  go_wp2_with fail
                  refine (show Calls _ _ _ _ _ from HRA.out).mono ?_
                  rintro e w17 ⟨v17, rfl, ho17, hb17⟩
                  obtain ⟨o17, c17, rfl, _, _, _, he17⟩ := own_rows (F := enShape) ho17
                  have HE17 : Hid _ := he17
                  have HT17 : Hid (Tab w17 S4 b (addOne vs fin)) := Tab.below HT16.out hb17
                  have HB17 : Hid (Below w.heap.size w w17) := HB16.out.trans (hb17.mono HB16.out.size)
                  have hob17 : w17.cell? ⟨ob, 0, none⟩ = some (.int .i64 0) := (World.cell?_of_block (hb17.block ob holt16)).trans HO16.out
                  have HS17 : Hid _ := same_any bo mo bc c vs w17 (ElemsAt.later HEb16.out hb17) (ElemsAt.later HEm16.out hb17) (by omega)
                  have hol17 : ob < w17.heap.size := Nat.lt_of_lt_of_le holt16 hb17.size
                  have HO17 : Hid _ := hob17
                  generalize addOne vs fin = vs2 at *
                  clear ho17 he17 hb17 HT16 HB16 HO16 HEb16 HEm16 HRA hob17
                  go_wp2_with fail
                  refine (show Calls _ _ _ _ _ from HS17.out).mono ?_
                  rintro e w18 ⟨rfl, n18, rfl⟩
                  have hbd : Below w17.heap.size w17 (w17.drewN n18) := ⟨rfl, rfl, rfl, Nat.le_refl _, fun _ _ => rfl⟩
                  have HAl2 : Hid _ := allS (w17.drewN n18) (Tab.below HT17.out hbd) (by omega)
                  have HQ : Hid (∀ Y, Below (w17.drewN n18).heap.size (w17.drewN n18) Y → ElemsAt enShape Y o17 vs2 ∧ Below w.heap.size w Y ∧ Y.cell? ⟨ob, 0, none⟩ = some (.int .i64 0)) := fun Y hY => by
                    have h : Below w17.heap.size w17 Y := hbd.trans hY
                    exact ⟨ElemsAt.later HE17.out h, HB17.out.trans (h.mono HB17.out.size), (World.cell?_of_block (h.block ob hol17)).trans HO17.out⟩
                  clear HS17 HT17 HE17 HB17 HO17 hbd
                  generalize w17.drewN n18 = w18 at *
                  go_wp2_with fail
                  refine (show Calls _ _ _ _ _ from HAl2.out).mono ?_
                  rintro e w19 ⟨v19, rfl, ho19, hb19⟩
                  obtain ⟨q1, q2, q3⟩ := HQ.out w19 hb19
                  obtain ⟨o19, c19, rfl, _, _, _, he19⟩ := own_rows (F := enShape) ho19
                  have HS19 : Hid _ := same_any o19 o17 c19 c17 vs2 w19 he19 q1 (by omega)
                  have HB19 : Hid (∀ j, Below w.heap.size w (w19.drewN j)) := fun j => ⟨q2.os, q2.tape, q2.output, q2.size, q2.block⟩
                  clear ho19 hb19 he19 q1 q2 HQ HAl2
                  go_wp2_with fail
                  refine (show Calls _ _ _ _ _ from HS19.out).mono ?_
                  rintro e w20 ⟨rfl, n20, rfl⟩
                  have q4 : (w19.drewN n20).cell? ⟨ob, 0, none⟩ = some (.int .i64 0) := q3
                  go_wp2_with fail
                  refine (len_any ob 0 _ q4).mono ?_
                  rintro e w21 ⟨rfl, rfl⟩
                  go_wp2
                  go_ret
                  exact ⟨rfl, HB19.out _⟩
end Go.Proofs.Ytbbncfgiimkpnaa.Mm
