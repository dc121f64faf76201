/-
  The reference's key of parts is the same plain list of bytes.
-/
import Derived.Test.YtceghgbkiafklaaDoorOrderEnd
import Derived.Test.YtceghgbkiafklaaDoorOrderRead
import Derived.Laws.IdiomArrays
namespace Go.Proofs.YtceghgbkiafklaaDoor.Od
open Go.RowKit
open Go.Proofs.YtceghgbkiafklaaDoor.Cm
attribute [local go_sem ↓] Go.wp_at_zero Go.wp_at_succ
set_option linter.unusedVariables false

set_option maxRecDepth 100000 in
set_option maxHeartbeats 500000 in
theorem refRight_any (p : Pt) (w : World) :
    Calls Tryd.prog 24 #[pv p] w fun e w' => e = .returned (.bool (decide (right p))) ∧ Below w.heap.size w w' := by
  obtain ⟨k, n, s⟩ := p
  unfold pv
  by_cases h1 : k = 1
  · subst h1
    by_cases hs : s.size = 0
    · obtain rfl := empty_eq hs
      have hd : decide (right ⟨1, n, ⟨#[]⟩⟩) = true := decide_eq_true (.inl ⟨rfl, rfl⟩)
      rw [hd]
      go_enter Tryd.func24, Tryd.ntmps24
      go_wp2
      go_ret
      exact ⟨rfl, (Below.refl _ _).alloc (Nat.le_refl _) _⟩
    · have hd : decide (right ⟨1, n, s⟩) = false := decide_eq_false (by rintro (⟨_, h⟩ | ⟨h, _⟩); exact hs h; simp at h)
      rw [hd]
      have hne : s.toList.isEmpty = false := by
        cases hl : s.toList with
        | nil => rw [Lib.toList_data] at hl; exact absurd (by rw [Lib.size_eq, hl]; rfl) hs
        | cons x l => rfl
      go_enter Tryd.func24, Tryd.ntmps24
      go_wp2
      go_ret
      exact ⟨rfl, (Below.refl _ _).alloc (Nat.le_refl _) _⟩
  · have e1 : (k == 1) = false := by simpa using h1
    by_cases h2 : k = 2
    · subst h2
      by_cases hn : n = 0
      · subst hn
        have hd : decide (right ⟨2, 0, s⟩) = true := decide_eq_true (.inr ⟨rfl, rfl⟩)
        rw [hd]
        clear h1 e1
        go_enter Tryd.func24, Tryd.ntmps24
        go_wp2
        go_ret
        exact ⟨rfl, (Below.refl _ _).alloc (Nat.le_refl _) _⟩
      · have hd : decide (right ⟨2, n, s⟩) = false := decide_eq_false (by rintro (⟨h, _⟩ | ⟨_, h⟩); simp at h; exact hn h)
        rw [hd]
        have e2 : (n == 0) = false := by simpa using hn
        clear h1 e1
        go_enter Tryd.func24, Tryd.ntmps24
        go_wp2
        go_ret
        exact ⟨rfl, (Below.refl _ _).alloc (Nat.le_refl _) _⟩
    · have hd : decide (right ⟨k, n, s⟩) = false := decide_eq_false (by rintro (⟨h, _⟩ | ⟨h, _⟩); exact h1 h; exact h2 h)
      rw [hd]
      have e2 : (k == 2) = false := by simpa using h2
      go_enter Tryd.func24, Tryd.ntmps24
      go_wp2
      go_ret
      exact ⟨rfl, (Below.refl _ _).alloc (Nat.le_refl _) _⟩

/-- Slice u owns a row of the bytes bs. -/
def Row (w : World) (B : Nat) (u : Value) (bs : List UInt8) : Prop := ∃ go c, u = .slice go bs.length c ∧ w.ownsRow B 5 1 u bs.length (bs.map B8)
theorem Row.own {w : World} {B : Nat} {u : Value} {bs : List UInt8} (h : Row w B u bs) : w.ownsRow B 5 1 u bs.length (bs.map B8) := h.choose_spec.choose_spec.2
theorem Row.of {w : World} {B n : Nat} {u : Value} {bs new : List UInt8} (hn : n = bs.length + new.length) (h : w.ownsRow B 5 1 u n (bs.map B8 ++ new.map B8)) : Row w B u (bs ++ new) := by
  subst hn
  rw [← List.map_append, ← List.length_append] at h
  rcases own_form h with rfl | ⟨g, cap, rfl⟩
  · rcases h.2 with ⟨_, h0⟩ | ⟨g, cap, cur, h1, _⟩
    · exact ⟨none, 0, by rw [h0], h⟩
    · cases h1
  · exact ⟨_, _, rfl, h⟩
theorem Row.nil (w : World) (B : Nat) : Row w B (.slice none 0 0) [] := ⟨none, 0, rfl, ⟨rfl, .inl ⟨rfl, rfl⟩⟩⟩
theorem Row.below {w w' : World} {B : Nat} {u : Value} {bs : List UInt8} (h : Row w B u bs) (hb : Below w.heap.size w w') : Row w' B u bs := by
  obtain ⟨go, c, hu, ho⟩ := h
  exact ⟨go, c, hu, own_keep ho fun k hk => hb.block k (ho.lt k hk).2⟩
theorem Row.alloc {w : World} {B : Nat} {u : Value} {bs : List UInt8} (h : Row w B u bs) (o : Obj) : Row (w.alloc o) B u bs := h.below ((Below.refl _ _).alloc (Nat.le_refl _) _)
/-- A block of another type than a row of bytes stays when the row grows. -/
theorem Row.far {w w1 : World} {B q : Nat} {u : Value} {bs : List UInt8} {cs : Array Value} {t : TypeId} {fr : Nat × Nat} (h : Row w B u bs) (hq : w.heap[q]? = some (.cells cs t fr)) (ht : t ≠ 5) (hg : w.grownBy w1 u.ownBlock) : w1.heap[q]? = some (.cells cs t fr) := by
  refine (hg.block q (lt_of_block hq) fun e => ?_).trans hq
  rcases h.own.2 with ⟨hu, _⟩ | ⟨g, cap, cur, hu, _, hg2, _⟩
  · rw [hu] at e; cases e
  · rw [hu] at e
    simp only [Value.ownBlock, Option.some.injEq] at e
    subst e
    rw [hq] at hg2
    simp at hg2
    exact ht hg2.2.1
theorem Row.other {w : World} {B q i : Nat} {u v : Value} {bs : List UInt8} {cs : Array Value} {t : TypeId} {fr : Nat × Nat} (h : Row w B u bs) (hq : w.heap[q]? = some (.cells cs t fr)) (ht : t ≠ 5) : Row (w.setCell ⟨q, i, none⟩ v) B u bs := by
  obtain ⟨go, c, hu, ho⟩ := h
  refine ⟨go, c, hu, ownsRow_setCell_other ho (fun e => ?_) _⟩
  rcases ho.2 with ⟨hu, _⟩ | ⟨g, cap, cur, hu, _, hg2, _⟩
  · rw [hu] at e; cases e
  · rw [hu] at e
    simp only [Value.ownBlock, Option.some.injEq] at e
    subst e
    rw [hq] at hg2
    simp at hg2
    exact ht hg2.2.1
theorem news_list {w : World} {t : TypeId} (l : List UInt8) : CellsAt (w.alloc (.cells (l.map B8).toArray t)) (some ⟨w.heap.size, 0, none⟩) (l.map B8) := by
  cases l with
  | nil => exact .inl rfl
  | cons x l =>
    refine .inr ⟨w.heap.size, 0, rfl, by simp, fun j hj => ?_⟩
    rw [Joins.cell_of_block (heap_alloc_new w _)]
    simp
theorem esc_take (l : List UInt8) (j : Nat) (h : j < l.length) : esc (l.take (j + 1)) = esc (l.take j) ++ (if l[j] = 0 then [0, 255] else [l[j]]) := by
  rw [List.take_add_one, List.getElem?_eq_getElem h, Option.toList_some, esc_append]
  congr 1
theorem text_room {bs l : List UInt8} {j : Nat} {N : Nat} (h : bs.length + 2 * l.length + 9 ≤ N) : (bs ++ 2 :: esc (l.take j)).length + 4 ≤ N := by
  have h1 := (esc_length (l.take j)).1
  simp only [List.length_take] at h1
  simp
  omega

/-- The array of eight, its last places filled. -/
def eightCell (U j i : Nat) : Value := if i < j then .int .u8 0 else B8 (U / 256 ^ (7 - i)).toUInt8
def eightVals (U j : Nat) : Array Value := #[eightCell U j 0, eightCell U j 1, eightCell U j 2, eightCell U j 3, eightCell U j 4, eightCell U j 5, eightCell U j 6, eightCell U j 7]
theorem eight_set (U m : Nat) (h : m < 8) : (eightVals U (m + 1)).setIfInBounds m (B8 (U / 256 ^ (7 - m)).toUInt8) = eightVals U m := by
  rcases (show m = 0 ∨ m = 1 ∨ m = 2 ∨ m = 3 ∨ m = 4 ∨ m = 5 ∨ m = 6 ∨ m = 7 by omega) with rfl | rfl | rfl | rfl | rfl | rfl | rfl | rfl <;> simp [eightVals, eightCell]
theorem eight_get (U m : Nat) (h : m < 8) : (eightVals U (m + 1))[m]? = some (.int .u8 0) := by
  rcases (show m = 0 ∨ m = 1 ∨ m = 2 ∨ m = 3 ∨ m = 4 ∨ m = 5 ∨ m = 6 ∨ m = 7 by omega) with rfl | rfl | rfl | rfl | rfl | rfl | rfl | rfl <;> simp [eightVals, eightCell]
theorem eight_all (U : Nat) : (eightVals U 0).toList = (be U).map B8 := by
  rw [be_eq]; simp [eightVals, eightCell]
theorem eight_none (U : Nat) : eightVals U 8 = #[.int .u8 0, .int .u8 0, .int .u8 0, .int .u8 0, .int .u8 0, .int .u8 0, .int .u8 0, .int .u8 0] := by simp [eightVals, eightCell]

set_option maxRecDepth 100000 in
set_option maxHeartbeats 1000000 in
theorem refKey_any (ao : Option Addr) (cap : Nat) (ps : List Pt) (w : World) (hp : PartsAt w ao ps) (ho : oks ps) (hR : room ps) :
    Calls Tryd.prog 11 #[.slice ao ps.length cap] w fun e w' => e = .returned (keyAns ps) ∧ Below w.heap.size w w' := by
  obtain ⟨i0, hi, hz0, hz1, hz2⟩ := info_parts info8
  have hlen : ps.length ≤ 4294967000 := by unfold room at hR; omega
  have HRm : Hid (room ps) := hR
  clear hR
  go_enter Tryd.func11, Tryd.ntmps11
  go_wp2_with fail
  go_loopw [4, 13] (fun u i wr => ∃ k : Nat, k ≤ ps.length ∧ i = .int .i64 k ∧ (∃ go c, u = .slice go (keyOf (ps.take k)).length c) ∧ Hid (rights (ps.take k)) ∧ Hid (Row wr w.heap.size u (keyOf (ps.take k))) ∧ Hid (Below w.heap.size w wr)) (fun _ i _ => ps.length - (intOf i).toNat)
  case atStart => exact ⟨0, by omega, rfl, ⟨none, 0, rfl⟩, (fun p hp => by simp at hp), Row.nil _ _, Below.refl _ _⟩
  case round =>
    obtain ⟨k, hk, rfl, ⟨go, c, rfl⟩, HK, HG, HB⟩ := hrel
    have hsr := HB.out.size
    by_cases hlt : k < ps.length
    · rcases hp.below HB.out with h0 | ⟨b, off, rfl, hbl, hcells⟩
      · simp [h0] at hlt
      have hc := hcells k hlt
      have HL : Hid ((keyOf (ps.take k)).length + 2 * (ps.getD k Pt.zero).s.size + 9 ≤ 4294967000) := room_take HRm.out k hlt
      have HN : Hid (keyOf (ps.take (k + 1)) = keyOf (ps.take k) ++ partB (ps.getD k Pt.zero)) := by show _ = _; rw [take_snoc ps k hlt, keyOf_snoc]
      have HO : Hid (ps.getD k Pt.zero).ok := ho _ (by rw [getD_lt _ _ _ hlt]; exact List.getElem_mem hlt)
      have HY : Hid (right (ps.getD k Pt.zero) → rights (ps.take (k + 1))) := fun h => rights_snoc HK.out hlt h
      have HZ : Hid (¬ right (ps.getD k Pt.zero) → ¬ rights ps) := fun h => not_rights hlt h
      generalize ps.getD k Pt.zero = p at *
      obtain ⟨hc0, hc1, hc2⟩ := hc
      clear hcells
      by_cases hr : right p
      · have hd : decide (right p) = true := decide_eq_true hr
        have HK4 := HY.out hr
        go_wp2_with fail
        refine (refRight_any p _).mono ?_
        rintro e w3 ⟨rfl, hb3⟩
        rw [hd]
        have hblk : w3.heap[wr.heap.size]? = some (.cells #[.int .i64 p.k, .int .i64 p.n, .string p.s] 25 (0, 0)) := (hb3.block _ (by simp)).trans (heap_alloc_new wr _)
        have HBlk : Hid (w3.heap[wr.heap.size]? = some (.cells #[.int .i64 p.k, .int .i64 p.n, .string p.s] 25 (0, 0))) := hblk
        have hd0 : w3.cell? ⟨wr.heap.size, 0, none⟩ = some (.int .i64 p.k) := by rw [Joins.cell_of_block hblk]; rfl
        have hd1 : w3.cell? ⟨wr.heap.size, 1, none⟩ = some (.int .i64 p.n) := by rw [Joins.cell_of_block hblk]; rfl
        have hd2 : w3.cell? ⟨wr.heap.size, 2, none⟩ = some (.string p.s) := by rw [Joins.cell_of_block hblk]; rfl
        have HB3 : Hid (Below wr.heap.size wr w3) := ((Below.refl _ wr).alloc (Nat.le_refl _) _).trans (hb3.mono (by simp))
        have HBw3 : Hid (Below w.heap.size w w3) := HB.out.trans (HB3.out.mono hsr)
        have hs3 := HBw3.out.size
        have HG3 : Hid (Row w3 w.heap.size (.slice go (keyOf (ps.take k)).length c) (keyOf (ps.take k))) := HG.out.below HB3.out
        clear hblk hb3 HY HZ HG HB3 hc0 hc1 hc2 hd HB
        generalize wr.heap.size = q at *
        clear hbl
        obtain ⟨pk, pn, ps'⟩ := p
        rcases hr with ⟨h1, h2⟩ | ⟨h1, h2⟩
        · simp only at h1 h2
          subst h1
          have HPB : Hid (partB ⟨1, pn, ps'⟩ = 1 :: numB pn) := rfl
          simp only at hd0 hd1 hd2 HL HBlk HO
          generalize keyOf (ps.take k) = bs at *
          have hL := HL.out
          have hn := HO.out.2
          simp only at hn
          obtain ⟨U, hU⟩ : ∃ U, U = numU pn := ⟨_, rfl⟩
          have hUl : U < 18446744073709551616 := by rw [hU]; exact numU_lt hn
          have hu : IntKind.u64.wrap (IntKind.u64.wrap pn + 9223372036854775808) = (U : Int) := by
            rw [wrap_u64, wrap_u64, hU]
            have h1 := hn.1
            have h2 := hn.2
            unfold numU
            omega
          have HU : Hid (numB pn = be U) := by show be (numU pn) = _; rw [hU]
          clear hU hn HO h2
          go_wp2_with fail
          go_loopw [7, 9] (fun u i wi => ∃ j V : Nat, j ≤ 8 ∧ u = .int .u64 V ∧ i = .int .i64 ((j : Int) - 1) ∧ Hid (V = U / 256 ^ (8 - j)) ∧ V < 18446744073709551616 ∧ Hid (wi.heap[w3.heap.size]? = some (.cells (eightVals U j) 52 (0, 0))) ∧
            Hid (Row wi w.heap.size (.slice go bs.length c) bs) ∧ Hid (Below w.heap.size w wi)) (fun _ i _ => (intOf i + 1).toNat)
          case atStart =>
            refine ⟨8, U, by omega, rfl, rfl, by show _ = _; simp, hUl, ?_, HG3.out.alloc _, HBw3.out.alloc hs3 _⟩
            show _ = _
            rw [eight_none]
            exact heap_alloc_new w3 _
          case round =>
            obtain ⟨j, V, hj, rfl, rfl, HV, hVl, HC, HRj, HBj⟩ := hrel
            have hsj := HBj.out.size
            cases j with
            | zero =>
              rw [show (((0 : Nat) : Int) - 1) = -1 from rfl]
              have hownA : (wr.alloc (.cells #[.int .u8 1] 5)).drew.ownsRow w.heap.size 5 1 (.slice go bs.length c) bs.length (bs.map B8) := HRj.out.own.alloc _
              have HNA : Hid (∀ j u, [B8 1][j]? = some u → (wr.alloc (.cells #[.int .u8 1] 5)).drew.cell? ((⟨wr.heap.size, 0, none⟩ : Addr).add j) = some u) := World.news_of_block (heap_alloc_new wr (.cells #[.int .u8 1] 5))
              have HCd : Hid ((wr.alloc (.cells #[.int .u8 1] 5)).drew.heap[w3.heap.size]? = some (.cells (eightVals U 0) 52 (0, 0))) := (Below.heap_alloc _ _ _ (lt_of_block HC.out)).trans HC.out
              have HRd : Hid (Row (wr.alloc (.cells #[.int .u8 1] 5)).drew w.heap.size (.slice go bs.length c) bs) := HRj.out.alloc _
              have h63 : bs.length + 1 ≤ maxLen := by unfold maxLen; omega
              have h63b : bs.length + 1 + 8 ≤ maxLen := by unfold maxLen; omega
              have hby : (bs.length + 1) * 1 ≤ 140737488355328 := by omega
              have hbyb : (bs.length + 1 + 8) * 1 ≤ 140737488355328 := by omega
              have hbs : w.heap.size ≤ (wr.alloc (.cells #[.int .u8 1] 5)).drew.heap.size := by show _ ≤ (wr.alloc _).heap.size; simp; omega
              have hH1 : (wr.alloc (.cells #[.int .u8 1] 5)).drew.heap.size = wr.heap.size + 1 := by show (wr.alloc _).heap.size = _; simp
              have HX5 : Hid (∀ (w5 : World), (wr.alloc (.cells #[.int .u8 1] 5)).drew.grownBy w5 (Value.ownBlock (.slice go bs.length c)) → (∀ j u, ((be U).map B8)[j]? = some u → w5.cell? ((⟨w3.heap.size, 0, none⟩ : Addr).add j) = some u) ∧ w.heap.size ≤ w5.heap.size) := fun w5 hg5 => by
                refine ⟨?_, by have := hg5.size; omega⟩
                have hk := HRd.out.far HCd.out (by decide) hg5
                rw [← eight_all]
                exact World.news_of_block hk
              go_wp2_with fail
              go_region_held3 (fun w' => True) (trivial)
                ((first
                  | (refine step_append_lies _ (by rfl) (.tmp 38) (.tmp 39) 43 (by rfl) w.heap.size 5 i0 (.int .u8 0) 1 1 Tryd.underlying43 hi hz0 hz1 hz2 rfl (by decide) (.slice go bs.length c) bs.length (bs.map B8) (by rfl) hownA ⟨wr.heap.size, 0, none⟩ 1 1 [B8 1] (by rfl) rfl HNA.out (by intro u hu; simp at hu; subst hu; rfl) (by decide) h63 hby hbs (wr.heap.size + 1) hH1 ?_; intro g5 cap5 w5 hown5 hgrow5 hat5 hlt5)
                  | (refine step_append_lies _ (by rfl) (.tmp 40) (.tmp 41) 43 (by rfl) w.heap.size 5 i0 (.int .u8 0) 1 1 Tryd.underlying43 hi hz0 hz1 hz2 rfl (by decide) (.slice (some ⟨g5, 0, none⟩) (bs.length + 1) cap5) (bs.length + 1) (bs.map B8 ++ [B8 1]) (by rfl) hown5 ⟨w3.heap.size, 0, none⟩ 8 8 ((be U).map B8) (by rfl) (by simp [be_length]) (HX5.out w5 hgrow5).1 (by intro u hu; obtain ⟨x, _, rfl⟩ := List.mem_map.1 hu; rfl) (by decide) h63b hbyb (HX5.out w5 hgrow5).2 w5.heap.size rfl ?_; intro g6 cap6 w6 hown6 hgrow6 hat6 hlt6)))
              have HF : Hid (bs ++ [1] ++ be U = keyOf (ps.take (k + 1))) := by
                show _ = _
                rw [HN.out, HPB.out, HU.out]; simp
              have HR6 : Hid (Row w6 w.heap.size (.slice (some ⟨g6, 0, none⟩) (bs.length + 1 + 8) cap6) (keyOf (ps.take (k + 1)))) := by
                rw [← HF.out]
                refine Row.of (n := bs.length + 1 + 8) (by simp [be_length]) ?_
                rw [List.map_append]
                exact hown6
              have HB6 : Hid (Below w.heap.size w w6) :=
                ((Below.drew (HBj.out.alloc hsj _)).grown hgrow5 hbs (fun i hi => (HRj.out.own.lt i hi).1)).grown hgrow6 (HX5.out w5 hgrow5).2 (fun i hi => (hown5.lt i hi).1)
              have HV6 : Hid (bs.length + 1 + 8 = (keyOf (ps.take (k + 1))).length) := by show _ = _; rw [← HF.out]; simp [be_length]
              clear hown5 hgrow5 hat5 hlt5 hown6 hgrow6 hat6 hlt6 hownA HX5 HNA HRd HCd hH1
              go_wp2
              go_roundw
              case rel => exact ⟨k + 1, by omega, by go_num, ⟨_, cap6, by rw [HV6.out]⟩, HK4, HR6, HB6⟩
              case measure => simp [intOf]; omega
            | succ m =>
              rw [show (((m + 1 : Nat) : Int) - 1) = (m : Int) by omega]
              have hm8 : m < 8 := by omega
              have hc8 : wr.cell? ⟨w3.heap.size, m, none⟩ = some (.int .u8 0) := by rw [Joins.cell_of_block HC.out]; exact eight_get U m hm8
              have hf8 : wr.frozen? ⟨w3.heap.size, m, none⟩ = false := by simp [World.frozen?, HC.out]
              have hw1 : IntKind.i64.wrap ((m : Int) - 1) = (m : Int) - 1 := IntWalk.i64_in _ ⟨by omega, by omega⟩
              have hm0 : (0 : Int) ≤ (m : Int) := by omega
              have hm9 : (m : Int) < 8 := by omega
              have hval : Value.int .u8 ((V : Int) % 256) = B8 (U / 256 ^ (7 - m)).toUInt8 := by
                have h1 := HV.out
                rw [show 8 - (m + 1) = 7 - m by omega] at h1
                rw [← h1]
                simp [B8, Nat.toUInt8, UInt8.toNat_ofNat']
              have HC2 : Hid ((wr.setCell ⟨w3.heap.size, m, none⟩ (.int .u8 ((V : Int) % 256))).heap[w3.heap.size]? = some (.cells (eightVals U m) 52 (0, 0))) := by
                show _ = _
                rw [Joins.block_setCell HC.out, hval, eight_set U m hm8]
              have HR2 : Hid (Row (wr.setCell ⟨w3.heap.size, m, none⟩ (.int .u8 ((V : Int) % 256))) w.heap.size (.slice go bs.length c) bs) := HRj.out.other HC.out (by decide)
              have HB2 : Hid (Below w.heap.size w (wr.setCell ⟨w3.heap.size, m, none⟩ (.int .u8 ((V : Int) % 256)))) := HBj.out.setCell (by show w.heap.size ≤ w3.heap.size; exact hs3) _
              have HV2 : Hid (V / 256 = U / 256 ^ (8 - m)) := by
                show _ = _
                rw [HV.out, Nat.div_div_eq_div_mul, ← Nat.pow_succ]
                congr 2
                omega
              clear hval
              go_wp2
              go_roundw
              case rel => exact ⟨m, V / 256, by omega, by simp, rfl, HV2, by omega, HC2, HR2, HB2⟩
              case measure => simp [intOf]
        · simp only at h1 h2
          subst h1 h2
          have HPB : Hid (partB ⟨2, 0, ps'⟩ = 2 :: (esc ps'.data.toList ++ [0, 0])) := rfl
          simp only at hd0 hd1 hd2 HL HBlk
          generalize keyOf (ps.take k) = bs at *
          have hown := HG3.out.own.alloc (.cells #[.int .u8 2] 5)
          have hL := HL.out
          go_wp2_with (at_builtin; refine wpList_append_any _ rfl _ _ 43 rfl w.heap.size 5 i0 (.int .u8 0) 1 Tryd.underlying43 hi hz0 hz1 hz2 rfl _ bs.length (bs.map B8) rfl hown (some ⟨w3.heap.size, 0, none⟩) 1 1 ([2].map B8) rfl (fun h => by cases h) rfl (news_list [2]) ?c2 ?c3 ?c4 ?c5 ?_)
          case c2 => intro u hu; obtain ⟨x, _, rfl⟩ := List.mem_map.1 hu; rfl
          case c3 => unfold maxLen; omega
          case c4 => omega
          case c5 => simp; omega
          intro v4 w4 hown4 hgrow4 hat4
          have HR4 : Hid (Row w4 w.heap.size v4 (bs ++ [2])) := Row.of rfl hown4
          have HBk4 : Hid (w4.heap[q]? = some (.cells #[.int .i64 2, .int .i64 0, .string ps'] 25 (0, 0))) := (HG3.out.alloc _).far ((Below.heap_alloc _ _ _ (lt_of_block HBlk.out)).trans HBlk.out) (by decide) hgrow4
          have HBw4 : Hid (Below w.heap.size w w4) := (HBw3.out.alloc hs3 _).grown hgrow4 (by simp; omega) (fun i hi => (HG3.out.own.lt i hi).1)
          obtain ⟨go4, c4, rfl⟩ : ∃ go4 c4, v4 = .slice go4 (bs.length + 1) c4 := by
            obtain ⟨go4, c4, h4, _⟩ := HR4.out
            exact ⟨go4, c4, by rw [h4]; simp⟩
          clear hown4 hgrow4 hat4 hown HG3 HBw3 HBlk hd0 hd1 hd2 hs3
          go_wp2_with fail
          go_loopw [4, 10] (fun u i wi => ∃ j : Nat, j ≤ ps'.size ∧ i = .int .i64 j ∧ (∃ go c, u = .slice go (bs ++ 2 :: esc (ps'.data.toList.take j)).length c) ∧ Hid (Row wi w.heap.size u (bs ++ 2 :: esc (ps'.data.toList.take j))) ∧
            Hid (wi.heap[q]? = some (.cells #[.int .i64 2, .int .i64 0, .string ps'] 25 (0, 0))) ∧ Hid (Below w.heap.size w wi)) (fun _ i _ => ps'.size - (intOf i).toNat)
          case atStart => exact ⟨0, by omega, rfl, ⟨go4, c4, by simp [esc]⟩, HR4, HBk4, HBw4⟩
          case round =>
            clear HR4 HBk4 HBw4
            obtain ⟨j, hj, rfl, ⟨goj, cj, rfl⟩, HRj, HKj, HBj⟩ := hrel
            have hsj := HBj.out.size
            have hd2 : wr.cell? ⟨q, 2, none⟩ = some (.string ps') := by rw [Joins.cell_of_block HKj.out]; rfl
            have hlb := text_room (bs := bs) (l := ps'.data.toList) (j := j) (N := 4294967000) (by rw [← Lib.size_eq]; omega)
            by_cases hjl : j < ps'.size
            · have hix := idx_str ps' j hjl
              have hlk : j < ps'.data.toList.length := by rw [← Lib.size_eq]; omega
              have HE : Hid _ := esc_take ps'.data.toList j hlk
              generalize ps'.data.toList[j] = x at *
              obtain ⟨L0, hL0⟩ : ∃ L0, L0 = bs ++ 2 :: esc (ps'.data.toList.take j) := ⟨_, rfl⟩
              rw [← hL0] at HRj hlb ⊢
              have HL0 : Hid (L0 = bs ++ 2 :: esc (ps'.data.toList.take j)) := hL0
              clear hL0
              go_wp2_with (at_builtin; refine wpList_append_any _ rfl _ _ 43 rfl w.heap.size 5 i0 (.int .u8 0) 1 Tryd.underlying43 hi hz0 hz1 hz2 rfl _ L0.length (L0.map B8) rfl ((HRj.out).own.alloc (.cells #[.int .u8 (x.toNat : Nat)] 5)) (some ⟨wr.heap.size, 0, none⟩) 1 1 ([x].map B8) rfl (fun h => by cases h) rfl (news_list [x]) ?d2 ?d3 ?d4 ?d5 ?_)
              case d2 => intro u hu; obtain ⟨x, _, rfl⟩ := List.mem_map.1 hu; rfl
              case d3 => unfold maxLen; omega
              case d4 => omega
              case d5 => simp; omega
              intro v5 w5 hown5 hgrow5 hat5
              have HR5 : Hid (Row w5 w.heap.size v5 (L0 ++ [x])) := Row.of rfl hown5
              have HK5 : Hid (w5.heap[q]? = some (.cells #[.int .i64 2, .int .i64 0, .string ps'] 25 (0, 0))) := (HRj.out.alloc _).far ((Below.heap_alloc _ _ _ (lt_of_block HKj.out)).trans HKj.out) (by decide) hgrow5
              have HB5 : Hid (Below w.heap.size w w5) := (HBj.out.alloc hsj _).grown hgrow5 (by simp; omega) (fun i hi => (HRj.out.own.lt i hi).1)
              have hs5 := HB5.out.size
              have hd5 : w5.cell? ⟨q, 2, none⟩ = some (.string ps') := by rw [Joins.cell_of_block HK5.out]; rfl
              obtain ⟨go5, c5, rfl⟩ : ∃ go5 c5, v5 = .slice go5 (L0.length + 1) c5 := by
                obtain ⟨go5, c5, h5, _⟩ := HR5.out
                exact ⟨go5, c5, by rw [h5]; simp⟩
              clear hown5 hgrow5 hat5 hd2 HRj HKj HBj
              by_cases hx0 : x = 0
              · have hxt : ((x.toNat : Int) == 0) = true := by rw [hx0]; rfl
                obtain ⟨L1, hL1⟩ : ∃ L1, L1 = L0 ++ [x] := ⟨_, rfl⟩
                have hl1 : L0.length + 1 = L1.length := by rw [hL1]; simp
                rw [← hL1] at HR5
                rw [hl1] at HR5 ⊢
                have hlb1 : L1.length + 3 ≤ 4294967000 := by omega
                have HL1 : Hid (L1 = L0 ++ [x]) := hL1
                clear hL1 hl1
                go_wp2_with (at_builtin; refine wpList_append_any _ rfl _ _ 43 rfl w.heap.size 5 i0 (.int .u8 0) 1 Tryd.underlying43 hi hz0 hz1 hz2 rfl _ L1.length (L1.map B8) rfl ((HR5.out).own.alloc (.cells #[.int .u8 255] 5)) (some ⟨w5.heap.size, 0, none⟩) 1 1 ([255].map B8) rfl (fun h => by cases h) rfl (news_list [255]) ?e2 ?e3 ?e4 ?e5 ?_)
                case e2 => intro u hu; obtain ⟨x, _, rfl⟩ := List.mem_map.1 hu; rfl
                case e3 => unfold maxLen; omega
                case e4 => omega
                case e5 => simp; omega
                intro v6 w6 hown6 hgrow6 hat6
                have HF : Hid (L1 ++ [255] = bs ++ 2 :: esc (ps'.data.toList.take (j + 1))) := by
                  show _ = _
                  rw [HL1.out, HL0.out, HE.out, if_pos hx0, hx0]; simp
                have HR6 : Hid (Row w6 w.heap.size v6 (bs ++ 2 :: esc (ps'.data.toList.take (j + 1)))) := by rw [← HF.out]; exact Row.of rfl hown6
                have HK6 : Hid (w6.heap[q]? = some (.cells #[.int .i64 2, .int .i64 0, .string ps'] 25 (0, 0))) := (HR5.out.alloc _).far ((Below.heap_alloc _ _ _ (lt_of_block HK5.out)).trans HK5.out) (by decide) hgrow6
                have HB6 : Hid (Below w.heap.size w w6) := (HB5.out.alloc hs5 _).grown hgrow6 (by simp; omega) (fun i hi => (HR5.out.own.lt i hi).1)
                obtain ⟨go6, c6, h6⟩ : ∃ go6 c6, v6 = .slice go6 (bs ++ 2 :: esc (ps'.data.toList.take (j + 1))).length c6 := by
                  obtain ⟨go6, c6, h6, _⟩ := HR6.out
                  exact ⟨go6, c6, h6⟩
                have HV6 : Hid _ := h6
                clear hown6 hgrow6 hat6 hd5 HR5 HK5 HB5 h6
                go_wp2
                go_roundw
                case rel => exact ⟨j + 1, by omega, by go_num, ⟨go6, c6, HV6.out⟩, HR6, HK6, HB6⟩
                case measure => simp [intOf]; omega
              · have hxf : ((x.toNat : Int) == 0) = false := by
                  simp only [beq_eq_false_iff_ne, ne_eq]
                  intro h
                  exact hx0 (UInt8.toNat.inj (by show x.toNat = 0; omega))
                have HF : Hid (L0 ++ [x] = bs ++ 2 :: esc (ps'.data.toList.take (j + 1))) := by
                  show _ = _
                  rw [HL0.out, HE.out, if_neg hx0]; simp
                have HLn : Hid (L0.length + 1 = (bs ++ 2 :: esc (ps'.data.toList.take (j + 1))).length) := by show _ = _; rw [← HF.out]; simp
                rw [HF.out] at HR5
                go_wp2
                go_roundw
                case rel => exact ⟨j + 1, by omega, by go_num, ⟨go5, c5, by rw [HLn.out]⟩, HR5, HK5, HB5⟩
                case measure => simp [intOf]; omega
            · obtain rfl : j = ps'.size := by omega
              have HT : Hid (ps'.data.toList.take ps'.size = ps'.data.toList) := by show _ = _; rw [Lib.size_eq, List.take_length]
              rw [HT.out] at HRj hlb ⊢
              obtain ⟨L0, hL0⟩ : ∃ L0, L0 = bs ++ 2 :: esc ps'.data.toList := ⟨_, rfl⟩
              rw [← hL0] at HRj hlb ⊢
              have HL0 : Hid (L0 = bs ++ 2 :: esc ps'.data.toList) := hL0
              clear hL0
              go_wp2_with (at_builtin; refine wpList_append_any _ rfl _ _ 43 rfl w.heap.size 5 i0 (.int .u8 0) 1 Tryd.underlying43 hi hz0 hz1 hz2 rfl _ L0.length (L0.map B8) rfl ((HRj.out).own.alloc (.cells #[.int .u8 0, .int .u8 0] 5)) (some ⟨wr.heap.size, 0, none⟩) 2 2 ([0, 0].map B8) rfl (fun h => by cases h) rfl (news_list [0, 0]) ?f2 ?f3 ?f4 ?f5 ?_)
              case f2 => intro u hu; obtain ⟨x, _, rfl⟩ := List.mem_map.1 hu; rfl
              case f3 => unfold maxLen; omega
              case f4 => omega
              case f5 => simp; omega
              intro v5 w5 hown5 hgrow5 hat5
              have HF : Hid (L0 ++ [0, 0] = keyOf (ps.take (k + 1))) := by
                show _ = _
                rw [HN.out, HPB.out, HL0.out]; simp
              have HR5 : Hid (Row w5 w.heap.size v5 (keyOf (ps.take (k + 1)))) := by rw [← HF.out]; exact Row.of rfl hown5
              have HB5 : Hid (Below w.heap.size w w5) := (HBj.out.alloc hsj _).grown hgrow5 (by simp; omega) (fun i hi => (HRj.out.own.lt i hi).1)
              obtain ⟨go5, c5, h5⟩ : ∃ go5 c5, v5 = .slice go5 (keyOf (ps.take (k + 1))).length c5 := by
                obtain ⟨go5, c5, h5, _⟩ := HR5.out
                exact ⟨go5, c5, h5⟩
              have HV5 : Hid _ := h5
              clear hown5 hgrow5 hat5 h5
              go_wp2
              go_roundw
              case rel => exact ⟨k + 1, by omega, by go_num, ⟨go5, c5, HV5.out⟩, HK4, HR5, HB5⟩
              case measure => simp [intOf]; omega
      · have hd : decide (right p) = false := decide_eq_false hr
        have HA : Hid (keyAns ps = .tuple #[.string ⟨#[]⟩, .int .i64 3]) := keyAns_wrong (HZ.out hr)
        go_wp2_with fail
        refine (refRight_any p _).mono ?_
        rintro e w3 ⟨rfl, hb3⟩
        rw [hd]
        have HB3 : Hid (Below wr.heap.size wr w3) := ((Below.refl _ wr).alloc (Nat.le_refl _) _).trans (hb3.mono (by simp))
        go_wp2
        go_ret2
        exact ⟨by rw [HA.out]; rfl, HB.out.trans (HB3.out.mono hsr)⟩
    · obtain rfl : k = ps.length := by omega
      have HA : Hid (keyAns ps = .tuple #[.string ⟨(keyOf ps).toArray⟩, .int .i64 0]) := by
        have h := HK.out
        rw [List.take_length] at h
        exact keyAns_right h
      rw [List.take_length] at HG ⊢
      have hst := own_string HG.out.own
      go_wp2
      go_ret2
      exact ⟨by rw [HA.out]; rfl, HB.out⟩
end Go.Proofs.YtceghgbkiafklaaDoor.Od
