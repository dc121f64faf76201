/-
  Package merge: the merged versions cut key by key.
-/
import Derived.Test.YtdaibmafnamfgaaMergeViewMath
import Derived.Test.YtdaibmafnamfgaaMergeConcat
namespace Go.Proofs.Ytdaibmafnamfgaa.Mg
open Go.RowKit Cm Mm
set_option linter.unusedVariables false

theorem below_drewN {B : Nat} {w X : World} (h : Below B w X) {k : Nat} : Below B w (X.drewN k) := ⟨h.os, h.tape, h.output, h.size, h.block⟩
structure Seg where
  p : Option Addr
  len : Nat
  cap : Nat
def segShape : Shape Seg := ⟨1, fun s => [.slice s.p s.len s.cap], by decide, fun _ => rfl, fun s u hu => by simp at hu; subst hu; rfl⟩
def SegAt (w : World) (s : Seg) (g : List En) : Prop := s.len = g.length ∧ (s.p = none → s.cap = 0) ∧ ElemsAt enShape w s.p g
def Segs (w : World) : List Seg → List (List En) → Prop
  | [], [] => True
  | s :: ss, g :: gs => SegAt w s g ∧ Segs w ss gs
  | _, _ => False
theorem Segs.snoc {w : World} {s : Seg} {g : List En} : ∀ {ss : List Seg} {gs : List (List En)}, Segs w ss gs → SegAt w s g → Segs w (ss ++ [s]) (gs ++ [g])
  | [], [], _, h => ⟨h, trivial⟩
  | t :: ss, f :: gs, h1, h => ⟨h1.1, Segs.snoc h1.2 h⟩
  | [], _ :: _, h1, _ => h1.elim
  | _ :: _, [], h1, _ => h1.elim
theorem Segs.len {w : World} : ∀ {ss : List Seg} {gs : List (List En)}, Segs w ss gs → ss.length = gs.length
  | [], [], _ => rfl
  | t :: ss, f :: gs, h1 => by rw [List.length_cons, List.length_cons, Segs.len h1.2]
  | [], _ :: _, h1 => h1.elim
  | _ :: _, [], h1 => h1.elim
theorem Segs.get {w : World} : ∀ {ss : List Seg} {gs : List (List En)}, Segs w ss gs → ∀ i (h : i < ss.length), SegAt w ss[i] (gs.getD i [])
  | [], [], _, i, h => by simp at h
  | t :: ss, f :: gs, h1, 0, h => h1.1
  | t :: ss, f :: gs, h1, i + 1, h => by
    have := Segs.get h1.2 i (by simpa using h)
    simpa using this
  | [], _ :: _, h1, _, _ => h1.elim
  | _ :: _, [], h1, _, _ => h1.elim
theorem lists_of {w w' : World} {ao : Option Addr} {ss : List Seg} {gs : List (List En)} (h : ElemsAt segShape w' ao ss) (hs : Segs w ss gs) (hb : Below w.heap.size w w') : Lists w' ao gs := fun i hi => by
  have hl := hs.len
  have hi' : i < ss.length := by omega
  rcases h with rfl | ⟨b, off, rfl, hlt, hc⟩
  · simp at hi'
  · obtain ⟨g1, g2, g3⟩ := hs.get i hi'
    have hcc := hc i hi' 0 (.slice ss[i].p ss[i].len ss[i].cap) rfl
    refine ⟨b, off, ss[i].p, ss[i].cap, rfl, hlt, ?_, g2, g3.later hb⟩
    rw [← g1]
    have e : off + i * segShape.sz + 0 = off + i := by show off + i * 1 + 0 = off + i; omega
    rw [e] at hcc
    exact hcc
theorem seg1 (w : World) (s : Seg) : ElemsAt segShape (w.alloc (.cells #[.slice s.p s.len s.cap] 22)) (some ⟨w.heap.size, 0, none⟩) [s] := by
  refine .inr ⟨w.heap.size, 0, rfl, by simp, fun i hi j u hu => ?_⟩
  obtain rfl : i = 0 := by simpa using hi
  rw [Joins.cell_of_block (show (w.alloc (.cells #[.slice s.p s.len s.cap] 22)).heap[w.heap.size]? = some (.cells #[.slice s.p s.len s.cap] 22 (0, 0)) from heap_alloc_new w _)]
  match j, hu with
  | 0, hu => exact hu
  | (k + 1), hu => simp [segShape] at hu
theorem infoSeg : (Try.prog.info? 22).map (fun i => (i.zero, i.size, i.bytes)) = some (some (.slice none 0 0), 1, 24) := by kernel_rfl
theorem seg_elems {w : World} {b off : Nat} {M : List En} (h : ElemsAt enShape w (some ⟨b, off, none⟩) M) (s i : Nat) : ElemsAt enShape w (some ⟨b, off + s * 4, none⟩) (seg M s i) := elems_take (elems_drop h s) _

set_option maxRecDepth 100000 in
set_option maxHeartbeats 2000000 in
theorem byKey_any (ao : Option Addr) (c : Nat) (M : List En) (w : World) (hx : ElemsAt enShape w ao M) (hs : Sorted M) (hl : M.length ≤ 1000000000000) (hc : M.length ≤ c) (hc63 : c ≤ 9223372036854775807) :
    Calls Try.prog 33 #[.slice ao M.length c] w fun e w' => ∃ go gc gs, e = .returned (.slice go gs.length gc) ∧ Lists w' go gs ∧ gs.flatten = M ∧ Good gs ∧ gs.length ≤ M.length ∧ Below w.heap.size w w' := by
  obtain ⟨i0, hi, hz0, hz1, hz2⟩ := info_parts infoSeg
  obtain ⟨n, hn⟩ : ∃ n, n = M.length := ⟨_, rfl⟩
  have HN : Hid _ := hn
  rw [← hn] at hl hc ⊢
  have HX : Hid (∀ X, Below w.heap.size w X → ElemsAt enShape X ao M) := fun X hX => hx.later hX
  have HS : Hid _ := hs
  clear hn hs
  by_cases h0 : n = 0
  · subst h0
    have HM : Hid (M = []) := List.length_eq_zero_iff.1 HN.out.symm
    clear hx HX
    go_enter Try.func33, Try.ntmps33
    go_wp2
    refine wp_loop_rounds 1 ?_
    rw [rounds_succ]
    go_wp2
    go_ret
    rw [HM.out]
    exact ⟨none, 0, [], rfl, Lists.none _ _, rfl, ⟨fun g hg => (by cases hg), List.Pairwise.nil⟩, Nat.le_refl _, Below.refl _ _⟩
  · obtain ⟨pb, off, rfl⟩ : ∃ pb off, ao = some ⟨pb, off, none⟩ := by
      rcases hx with rfl | ⟨b, off, rfl, _⟩
      · exfalso; have := HN.out; simp at this; omega
      · exact ⟨b, off, rfl⟩
    clear hx
    go_enter Try.func33, Try.ntmps33
    go_wp2
    go_loopw [3, 4, 9] (fun vk vs vi wr => ∃ (i s q : Nat) (segs : List Seg) (gs : List (List En)), vi = .int .i64 i ∧ vs = .int .i64 s ∧ i ≤ n ∧ s ≤ i ∧ q ≤ s ∧ Hid (segs.length = q) ∧ Hid (Cut M gs s i) ∧ Hid (Segs w segs gs) ∧ Hid (wr.ownsRow w.heap.size 22 1 vk q (segShape.vals segs)) ∧ Hid (Below w.heap.size w wr)) (fun _ _ vi _ => n - (intOf vi).toNat)
    case atStart => exact ⟨0, 0, 0, [], [], rfl, rfl, by omega, by omega, by omega, rfl, Cut.start M, trivial, World.ownsRow_nil _ _ _ _, Below.refl _ _⟩
    case round =>
      obtain ⟨i, s, q, segs, gs, rfl, rfl, hin, hsi, hqs, HQ, HC, HSG, HO, HB⟩ := hrel
      by_cases hlt : i < n
      · have hlt' : (i : Int) < (n : Int) := by omega
        have hel := HX.out wr HB.out
        by_cases he : i + 1 = n
        · have heb : ((i : Int) + 1 == (n : Int)) = true := by simp; omega
          have HC2 : Hid _ := HC.out.cut HS.out (by have := HN.out; omega) (.inl (by have := HN.out; omega))
          have hsl : (seg M s i).length = n - s := by have := seg_len (M := M) hsi (by have := HN.out; omega); omega
          have HSA : Hid (∀ X, Below w.heap.size w X → SegAt w ⟨some ⟨pb, off + s * 4, none⟩, n - s, c - s⟩ (seg M s i)) := fun X hX => ⟨hsl.symm, (fun e => by cases e), seg_elems (HX.out w (Below.refl _ _)) s i⟩
          have HO1 : Hid (∀ k, (wr.drewN k).ownsRow w.heap.size 22 1 _ q (segShape.vals segs)) := fun k => rows_keep HO.out (fun _ _ => rfl)
          have HB1 : Hid (∀ k, Below w.heap.size w (wr.drewN k)) := fun k => below_drewN HB.out
          have HE1 : Hid (∀ k, ElemsAt segShape ((wr.drewN k).alloc (.cells #[.slice (some ⟨pb, off + s * 4, none⟩) (n - s) (c - s)] 22)) (some ⟨wr.heap.size, 0, none⟩) [⟨some ⟨pb, off + s * 4, none⟩, n - s, c - s⟩]) := fun k => seg1 (wr.drewN k) ⟨some ⟨pb, off + s * 4, none⟩, n - s, c - s⟩
          have hbs := HB.out.size
          clear hel HX HS HC hsl HO
          go_wp2_with fail
          go_quiet (fail)
          go_wp2_with (at_builtin; refine wpList_append_rows (F := segShape) _ rfl _ _ 33 rfl w.heap.size 22 i0 _ 24 Try.underlying33 hi hz0 hz1 hz2 rfl _ q segs rfl (World.ownsRow.alloc (HO1.out _) _) (some ⟨wr.heap.size, 0, none⟩) 1 1 [⟨some ⟨pb, off + s * 4, none⟩, n - s, c - s⟩] rfl (by simp) rfl (HE1.out _) ?c1 ?c2 ?c3 ?_)
          case c1 => unfold maxLen; omega
          case c2 => omega
          case c3 => simp; omega
          intro v5 w5 hown5 hgrow5 hat5
          have HB5 : Hid (Below w.heap.size w w5) := ((HB1.out _).alloc hbs _).grown hgrow5 (by simp; omega) (fun k hk => (World.ownsRow.lt (HO1.out 0) k hk).1)
          have HO5 : Hid _ := hown5
          have HSG5 : Hid _ := HSG.out.snoc (HSA.out w (Below.refl _ _))
          clear hown5 hgrow5 hat5 HB1 HO1 HE1 HSA HB HSG
          go_wp2
          go_roundw
          case rel => exact ⟨i + 1, i + 1, q + 1, _, _, by go_num, by first | rfl | go_num, by omega, by omega, by omega, by have := HQ.out; show _ = _; simp; omega, HC2, HSG5, HO5, HB5⟩
          case measure => simp [intOf]; omega
        · have heb : ((i : Int) + 1 == (n : Int)) = false := by simp; omega
          have hi1 : i + 1 < n := by omega
          obtain ⟨_, _, e1, k0, _⟩ := elem_cells hel (k := i) (by have := HN.out; omega)
          cases e1
          obtain ⟨_, _, e1, k1, _⟩ := elem_cells hel (k := i + 1) (by have := HN.out; omega)
          cases e1
          have hi1' : (i : Int) + 1 < (n : Int) := by omega
          have hbq := beq_toList (M.getD (i + 1) En.zero).key (M.getD i En.zero).key
          have HI1 : Hid ((i : Int) + 1 = ((i + 1 : Nat) : Int)) := by show _ = _; omega
          by_cases hk : (M.getD (i + 1) En.zero).key = (M.getD i En.zero).key
          · have HC2 : Hid _ := HC.out.go (by have := HN.out; omega) hk
            rw [decide_eq_true hk] at hbq
            clear hk hel HX HS HC
            generalize (M.getD (i + 1) En.zero).key = K at *
            generalize (M.getD i En.zero).key = L at *
            go_wp2_with fail
            go_quiet (fail)
            go_wp2
            go_roundw
            case rel => exact ⟨i + 1, s, q, segs, gs, by go_num, rfl, by omega, by omega, by omega, HQ, HC2, HSG, rows_keep HO.out (fun _ _ => rfl), below_drewN HB.out⟩
            case measure => simp [intOf]; omega
          · have HC2 : Hid _ := HC.out.cut HS.out (by have := HN.out; omega) (.inr hk)
            rw [decide_eq_false hk] at hbq
            clear hk
            generalize (M.getD (i + 1) En.zero).key = K at *
            generalize (M.getD i En.zero).key = L at *
            have hsl : (seg M s i).length = i + 1 - s := by have := seg_len (M := M) hsi (by have := HN.out; omega); omega
            have HSA : Hid (∀ X, Below w.heap.size w X → SegAt w ⟨some ⟨pb, off + s * 4, none⟩, i + 1 - s, c - s⟩ (seg M s i)) := fun X hX => ⟨hsl.symm, (fun e => by cases e), seg_elems (HX.out w (Below.refl _ _)) s i⟩
            have HO1 : Hid (∀ k, (wr.drewN k).ownsRow w.heap.size 22 1 _ q (segShape.vals segs)) := fun k => rows_keep HO.out (fun _ _ => rfl)
            have HB1 : Hid (∀ k, Below w.heap.size w (wr.drewN k)) := fun k => below_drewN HB.out
            have HE1 : Hid (∀ k, ElemsAt segShape ((wr.drewN k).alloc (.cells #[.slice (some ⟨pb, off + s * 4, none⟩) (i + 1 - s) (c - s)] 22)) (some ⟨wr.heap.size, 0, none⟩) [⟨some ⟨pb, off + s * 4, none⟩, i + 1 - s, c - s⟩]) := fun k => seg1 (wr.drewN k) ⟨some ⟨pb, off + s * 4, none⟩, i + 1 - s, c - s⟩
            have hbs := HB.out.size
            clear hel HX HS HC hsl HO
            go_wp2_with fail
            go_quiet (fail)
            go_wp2_with (at_builtin; refine wpList_append_rows (F := segShape) _ rfl _ _ 33 rfl w.heap.size 22 i0 _ 24 Try.underlying33 hi hz0 hz1 hz2 rfl _ q segs rfl (World.ownsRow.alloc (HO1.out _) _) (some ⟨wr.heap.size, 0, none⟩) 1 1 [⟨some ⟨pb, off + s * 4, none⟩, i + 1 - s, c - s⟩] rfl (by simp) rfl (HE1.out _) ?c1 ?c2 ?c3 ?_)
            case c1 => unfold maxLen; omega
            case c2 => omega
            case c3 => simp; omega
            intro v5 w5 hown5 hgrow5 hat5
            have HB5 : Hid (Below w.heap.size w w5) := ((HB1.out _).alloc hbs _).grown hgrow5 (by simp; omega) (fun k hk => (World.ownsRow.lt (HO1.out 0) k hk).1)
            have HO5 : Hid _ := hown5
            have HSG5 : Hid _ := HSG.out.snoc (HSA.out w (Below.refl _ _))
            clear hown5 hgrow5 hat5 HB1 HO1 HE1 HSA HB HSG
            go_wp2
            go_roundw
            case rel => exact ⟨i + 1, i + 1, q + 1, _, _, by go_num, by first | rfl | go_num, by omega, by omega, by omega, by have := HQ.out; show _ = _; simp; omega, HC2, HSG5, HO5, HB5⟩
            case measure => simp [intOf]; omega
      · obtain rfl : i = n := by omega
        have hlt' : ¬ (i : Int) < (i : Int) := by omega
        have HD : Hid (gs.flatten = M ∧ Good gs) := by
          have := HC.out
          rw [HN.out] at this
          exact this.done
        have HO2 := HO.out
        rw [← HQ.out] at HO2
        obtain ⟨go, gc, e1, _, _, _, hel⟩ := own_rows (F := segShape) HO2
        subst e1
        have HL : Hid _ := lists_of hel HSG.out HB.out
        have HG : Hid (segs.length = gs.length) := HSG.out.len
        clear HO HO2 hel HX
        go_wp2
        go_ret
        refine ⟨go, gc, gs, by rw [HG.out]; rfl, HL.out, HD.out.1, HD.out.2, ?_, HB.out⟩
        have := HG.out
        have := HQ.out
        omega
end Go.Proofs.Ytdaibmafnamfgaa.Mg
