/-
  The document's answer for layer 10: what is seen; whether a version is needed.
-/
import Derived.Test.YtdaibmafnamfgaaMergeRefMerge
namespace Go.Proofs.Ytdaibmafnamfgaa.Mg
open Go.RowKit Go.Shelf Cm Mm
set_option linter.unusedVariables false

def lastOf (lo : Option ByteArray) : ByteArray := match lo with
  | none => ⟨#[]⟩
  | some q => q
theorem vw_shown {n : Int} {lo : Option ByteArray} {x : En} {D : List En} (hs : x.seq ≤ n) (hf : fresh lo x.key = true) : vw n lo (x :: D) = (if x.dead then [] else [x]) ++ vw n (some x.key) D := by
  show (if decide (x.seq ≤ n) && fresh lo x.key then _ else _) = _
  rw [decide_eq_true hs, hf]; rfl
theorem vw_late {n : Int} {lo : Option ByteArray} {x : En} {D : List En} (hs : ¬ x.seq ≤ n) : vw n lo (x :: D) = vw n lo D := by
  show (if decide (x.seq ≤ n) && fresh lo x.key then _ else _) = _
  rw [decide_eq_false hs]; simp
theorem vw_seen {n : Int} {lo : Option ByteArray} {x : En} {D : List En} (hf : fresh lo x.key = false) : vw n lo (x :: D) = vw n lo D := by
  show (if decide (x.seq ≤ n) && fresh lo x.key then _ else _) = _
  rw [hf]; simp

set_option maxRecDepth 100000 in
set_option maxHeartbeats 2000000 in
theorem viewR_any (ao : Option Addr) (c : Nat) (l : List En) (n : Int) (w : World) (hx : Lies w ao c l) (hl : l.length ≤ 10000000000) :
    Calls Try.prog 17 #[.slice ao l.length c, .int .i64 n] w (MLies w (view n (merged l))) := by
  obtain ⟨i0, hi, hz0, hz1, hz2⟩ := info_parts infoEn
  have HMG : Hid _ := m1R hx hl
  have hml := merged_len l
  clear hx
  generalize hM : merged l = M at *
  have hMl : M.length ≤ 10000000000 := by omega
  clear hM hml
  go_enter Try.func17, Try.ntmps17
  go_wp2_with fail
  refine (show Calls _ _ _ _ _ from HMG.out).mono ?_
  rintro e w1 ⟨am, cm, rfl, hy1, hb1⟩
  have HY : Hid (∀ X, Below w1.heap.size w1 X → ElemsAt enShape X am M) := fun X hX => hy1.elems.later hX
  have HW1 : Hid _ := hb1
  obtain ⟨k, hk⟩ : ∃ k, k = M.length := ⟨_, rfl⟩
  have HK : Hid _ := hk
  rw [← hk] at hMl ⊢
  clear hy1 hb1 hk HMG hl
  go_wp2
  go_loopw [5, 6, 7, 14] (fun vo vl va vi wr => ∃ (i q : Nat) (acc : List En) (lo : Option ByteArray), vi = .int .i64 i ∧ vl = .string (lastOf lo) ∧ va = .bool lo.isSome ∧ i ≤ k ∧ q ≤ i ∧ Hid (acc.length = q) ∧ Hid (acc ++ vw n lo (M.drop i) = view n M) ∧ Hid (wr.ownsRow w1.heap.size 28 4 vo q (enShape.vals acc)) ∧ Hid (Below w1.heap.size w1 wr)) (fun _ _ _ vi _ => k - (intOf vi).toNat)
  case atStart => exact ⟨0, 0, [], none, rfl, rfl, rfl, by omega, by omega, rfl, rfl, World.ownsRow_nil _ _ _ _, Below.refl _ _⟩
  case round =>
    obtain ⟨i, q, acc, lo, rfl, rfl, rfl, hik, hqi, HQ, HA, HO, HB⟩ := hrel
    by_cases hlt : i < k
    · have hlt' : (i : Int) < (k : Int) := by omega
      have hil : i < M.length := by have := HK.out; omega
      obtain ⟨pb, off, rfl, c0, c1, c2, c3⟩ := elem_cells (HY.out wr HB.out) (k := i) hil
      have hdr : M.drop i = M.getD i En.zero :: M.drop (i + 1) := drop_next hil
      have hA := HA.out
      rw [hdr] at hA
      have HBn : Hid (Below w1.heap.size w1 (wr.alloc (entObj (M.getD i En.zero)))) := HB.out.alloc HB.out.size _
      have HOn : Hid ((wr.alloc (entObj (M.getD i En.zero))).ownsRow w1.heap.size 28 4 _ q (enShape.vals acc)) := World.ownsRow.alloc HO.out _
      generalize M.getD i En.zero = x at *
      clear hil hdr HO HB
      have HE : Hid (∀ W : World, ElemsAt enShape (W.alloc (entObj x)) (some ⟨W.heap.size, 0, none⟩) [x]) := fun W => elems1 x
      unfold entObj at HBn HOn HE
      by_cases hs : x.seq ≤ n
      · have hs1 : decide (n < x.seq) = false := decide_eq_false (by omega)
        have hs2 : ¬ n < x.seq := by omega
        cases lo with
        | none =>
          have hf : fresh none x.key = true := rfl
          rw [vw_shown hs hf] at hA
          unfold lastOf
          cases hd : x.dead
          · rw [hd] at c2 hA HBn HOn HE
            have HA2 : Hid (acc ++ [x] ++ vw n (some x.key) (M.drop (i + 1)) = view n M) := by
              rw [← hA]; show _ = _; simp
            have hws : w1.heap.size ≤ wr.heap.size + 1 := by have h := HBn.out.size; rw [World.size_alloc] at h; exact h
            clear hA hs hd
            go_wp2_with (at_builtin; refine wpList_append_rows (F := enShape) _ rfl _ _ 22 rfl w1.heap.size 28 i0 _ 48 Try.underlying22 hi hz0 hz1 hz2 rfl _ q acc rfl (World.ownsRow.alloc HOn.out _) (some ⟨wr.heap.size + 1, 0, none⟩) 1 1 [x] rfl (by simp) rfl (by have h := HE.out (wr.alloc (.cells #[.string x.key, .int .i64 x.seq, .bool false, .string x.val] 28)); rw [World.size_alloc] at h; exact h) ?c1 ?c2 ?c3 ?_)
            case c1 => unfold maxLen; omega
            case c2 => omega
            case c3 => first | exact hws | omega | (simp; omega)
            intro v6 w6 hown6 hgrow6 hat6
            have HB6 : Hid (Below w1.heap.size w1 w6) := (HBn.out.alloc HBn.out.size _).grown hgrow6 (by simp; omega) (fun k hk => (World.ownsRow.lt HOn.out k hk).1)
            have HO6 : Hid (w6.ownsRow w1.heap.size 28 4 v6 (q + 1) (enShape.vals (acc ++ [x]))) := hown6
            clear hown6 hgrow6 hat6 c0 c1 c2 c3 HOn HBn HE
            go_wp2
            go_roundw
            case rel => exact ⟨i + 1, q + 1, acc ++ [x], some x.key, by go_num, rfl, rfl, by omega, by omega, by have := HQ.out; show _ = _; simp; omega, HA2, HO6, HB6⟩
            case measure => simp [intOf]; omega
          · rw [hd] at c2 hA HBn HOn
            have HA2 : Hid _ := hA
            clear hA hs hd HE
            go_wp2
            go_roundw
            case rel => exact ⟨i + 1, q, acc, some x.key, by go_num, rfl, rfl, by omega, by omega, HQ, HA2, HOn, HBn⟩
            case measure => simp [intOf]; omega
        | some ky =>
          have hbk := beq_toList x.key ky
          by_cases hke : x.key = ky
          · have hf : fresh (some ky) x.key = false := by unfold fresh; simpa using hke.symm
            rw [vw_seen hf] at hA
            rw [decide_eq_true hke] at hbk
            have HA2 : Hid _ := hA
            unfold lastOf
            simp only [Option.isSome_some]
            clear hA hke hf hs
            go_wp2
            go_roundw
            case rel => exact ⟨i + 1, q, acc, some ky, by go_num, rfl, rfl, by omega, by omega, HQ, HA2, HOn, HBn⟩
            case measure => simp [intOf]; omega
          · have hf : fresh (some ky) x.key = true := by unfold fresh; simpa using fun h => hke h.symm
            rw [vw_shown hs hf] at hA
            rw [decide_eq_false hke] at hbk
            clear hke
            unfold lastOf
            cases hd : x.dead
            · rw [hd] at c2 hA HBn HOn HE
              have HA2 : Hid (acc ++ [x] ++ vw n (some x.key) (M.drop (i + 1)) = view n M) := by
                rw [← hA]; show _ = _; simp
              have hws : w1.heap.size ≤ wr.heap.size + 1 := by have h := HBn.out.size; rw [World.size_alloc] at h; exact h
              clear hA hs hd
              go_wp2_with (at_builtin; refine wpList_append_rows (F := enShape) _ rfl _ _ 22 rfl w1.heap.size 28 i0 _ 48 Try.underlying22 hi hz0 hz1 hz2 rfl _ q acc rfl (World.ownsRow.alloc HOn.out _) (some ⟨wr.heap.size + 1, 0, none⟩) 1 1 [x] rfl (by simp) rfl (by have h := HE.out (wr.alloc (.cells #[.string x.key, .int .i64 x.seq, .bool false, .string x.val] 28)); rw [World.size_alloc] at h; exact h) ?c1 ?c2 ?c3 ?_)
              case c1 => unfold maxLen; omega
              case c2 => omega
              case c3 => first | exact hws | omega | (simp; omega)
              intro v6 w6 hown6 hgrow6 hat6
              have HB6 : Hid (Below w1.heap.size w1 w6) := (HBn.out.alloc HBn.out.size _).grown hgrow6 (by simp; omega) (fun k hk => (World.ownsRow.lt HOn.out k hk).1)
              have HO6 : Hid (w6.ownsRow w1.heap.size 28 4 v6 (q + 1) (enShape.vals (acc ++ [x]))) := hown6
              clear hown6 hgrow6 hat6 c0 c1 c2 c3 HOn HBn HE
              go_wp2
              go_roundw
              case rel => exact ⟨i + 1, q + 1, acc ++ [x], some x.key, by go_num, rfl, rfl, by omega, by omega, by have := HQ.out; show _ = _; simp; omega, HA2, HO6, HB6⟩
              case measure => simp [intOf]; omega
            · rw [hd] at c2 hA HBn HOn
              have HA2 : Hid _ := hA
              clear hA hs hd HE
              go_wp2
              go_roundw
              case rel => exact ⟨i + 1, q, acc, some x.key, by go_num, rfl, rfl, by omega, by omega, HQ, HA2, HOn, HBn⟩
              case measure => simp [intOf]; omega
      · have hs1 : decide (n < x.seq) = true := decide_eq_true (by omega)
        have hs2 : n < x.seq := by omega
        rw [vw_late hs] at hA
        have HA2 : Hid _ := hA
        clear hA hs
        go_wp2
        go_roundw
        case rel => exact ⟨i + 1, q, acc, lo, by go_num, rfl, rfl, by omega, by omega, HQ, HA2, HOn, HBn⟩
        case measure => simp [intOf]; omega
    · have hik2 : i = k := by omega
      subst hik2
      have hlt' : ¬ (i : Int) < (i : Int) := by omega
      have HE : Hid (acc = view n M) := by
        have := HA.out
        rw [HK.out, List.drop_length] at this
        have h2 : acc = view n M := by simpa [vw] using this
        exact h2
      have ho := HO.out
      rw [← HQ.out, HE.out] at ho
      obtain ⟨ar, cr, e1, hyr⟩ := Lies.of (B := w1.heap.size) ho
      rw [← HE.out, HQ.out] at e1
      subst e1
      have HY2 : Hid _ := hyr
      have HBf : Hid (Below w.heap.size w wr) := HW1.out.trans (HB.out.mono HW1.out.size)
      have HQ2 : Hid (q = (view n M).length) := by rw [← HE.out, HQ.out]; exact hid_rfl
      clear ho hyr HO HB HY hlt
      go_wp2
      go_ret
      exact ⟨ar, cr, by rw [← HQ2.out]; rfl, HY2.out, HBf.out⟩

set_option maxRecDepth 100000 in
set_option maxHeartbeats 2000000 in
theorem neededR_any (ao so : Option Addr) (c sc : Nat) (M : List En) (seen : List Int) (i : Nat) (w : World) (hx : ElemsAt enShape w ao M) (hs : CellsAt w so (seen.map (Value.int .i64))) (hi : i < M.length) (hl : M.length ≤ 10000000000) (hsl : seen.length ≤ 10000000000) :
    Calls Try.prog 36 #[.slice ao M.length c, .int .i64 i, .slice so seen.length sc] w fun e w' => e = .returned (.bool (keepB seen (prev M i) (M.getD i En.zero))) ∧ Below w.heap.size w w' := by
  obtain ⟨pb, off, rfl, c0, c1, c2, c3⟩ := elem_cells hx (k := i) hi
  have HW1 : Hid (Below w.heap.size w (w.alloc (entObj (M.getD i En.zero)))) := (Below.refl _ _).alloc (Nat.le_refl _) _
  have HBX : Hid (∀ X, Below (w.alloc (entObj (M.getD i En.zero))).heap.size (w.alloc (entObj (M.getD i En.zero))) X → X.heap[w.heap.size]? = some (entObj (M.getD i En.zero))) := fun X hX => (hX.block _ (by simp)).trans (heap_alloc_new w _)
  have HSX : Hid (∀ X, Below w.heap.size w X → CellsAt X so (seen.map (Value.int .i64))) := fun X hX => hs.keep (fun b hb => hX.block b hb) hX.size
  have HXX : Hid (∀ X, Below w.heap.size w X → ElemsAt enShape X (some ⟨pb, off, none⟩) M) := fun X hX => hx.later hX
  obtain ⟨k, hk⟩ : ∃ k, k = M.length := ⟨_, rfl⟩
  have HK : Hid _ := hk
  rw [← hk] at hi hl ⊢
  obtain ⟨sl, hsq⟩ : ∃ k, k = seen.length := ⟨_, rfl⟩
  have HSL : Hid _ := hsq
  rw [← hsq] at hsl ⊢
  have hi0 : (0 : Int) ≤ (i : Int) := by omega
  have hi1 : (i : Int) < (k : Int) := by omega
  have HP0 : Hid (i = 0 → keepB seen (prev M i) (M.getD i En.zero) = true) := fun h => by unfold prev; rw [if_pos h]; rfl
  have HP1 : Hid (∀ i', i' + 1 = i → keepB seen (prev M i) (M.getD i En.zero) = (decide ((M.getD i' En.zero).key ≠ (M.getD i En.zero).key) || seen.any fun n => decide ((M.getD i En.zero).seq ≤ n) && decide (n < (M.getD i' En.zero).seq))) := fun i' h => by
    unfold prev
    rw [if_neg (by omega), show i - 1 = i' by omega]; rfl
  clear hx hs hk hsq
  generalize M.getD i En.zero = x at *
  by_cases hz : i = 0
  · have HR : Hid _ := HP0.out hz
    have hib : ((i : Int) == 0) = true := by simp; omega
    unfold entObj at HW1
    clear HP0 HP1 hz
    go_enter Try.func36, Try.ntmps36
    go_wp2_with fail
    go_quiet (fail)
    go_wp2
    go_ret
    exact ⟨by rw [HR.out]; rfl, below_drewN HW1.out⟩
  · obtain ⟨i', hi'⟩ : ∃ i', i' + 1 = i := ⟨i - 1, by omega⟩
    have hib : ((i : Int) == 0) = false := by simp; omega
    have wi : IntKind.i64.wrap ((i : Int) - 1) = (i' : Int) := wrap_nat (by omega) (by omega)
    have hi'0 : (0 : Int) ≤ (i' : Int) := by omega
    have hi'1 : (i' : Int) < (k : Int) := by omega
    obtain ⟨_, _, e1, d0, d1, _, _⟩ := elem_cells (HXX.out _ HW1.out) (k := i') (by have := HK.out; omega)
    cases e1
    rw [HP1.out i' hi']
    have HI' : Hid _ := hi'
    clear HP0 HP1 hz hi'
    have HYS : Hid (∀ X, Below w.heap.size w X → X.cell? ⟨pb, off + i' * 4 + 1, none⟩ = some (.int .i64 (M.getD i' En.zero).seq)) := fun X hX => by
      obtain ⟨_, _, e1, _, d1, _, _⟩ := elem_cells (HXX.out X hX) (k := i') (by have := HK.out; have := HI'.out; omega)
      cases e1
      exact d1
    generalize M.getD i' En.zero = y at *
    have hbk := beq_toList y.key x.key
    by_cases hke : y.key = x.key
    · rw [decide_eq_true hke] at hbk
      have hd : decide (y.key ≠ x.key) = false := decide_eq_false (by simpa using hke)
      rw [hd, Bool.false_or]
      clear hke hd
      obtain ⟨w1, hw1⟩ : ∃ w1, w1 = w.alloc (entObj x) := ⟨_, rfl⟩
      have HW1q : Hid (Below w1.heap.size w1 w1) := Below.refl _ _
      rw [← hw1] at HW1 HBX d0 d1
      have HQ1 : Hid _ := hw1.symm
      clear hw1
      unfold entObj at HQ1
      go_enter Try.func36, Try.ntmps36
      go_wp2_with fail
      rw [HQ1.out]
      obtain ⟨b0, b1, b2, b3, _⟩ := ent_cells (HBX.out w1 (Below.refl _ _))
      go_quiet (fail)
      have HB1 : Hid (Below w1.heap.size w1 (w1.drewN nq)) := below_drewN (Below.refl _ _)
      clear b0 b1 b2 b3 d0 d1
      generalize w1.drewN nq = w2 at *
      obtain ⟨b0, b1, b2, b3, _⟩ := ent_cells (HBX.out w2 HB1.out)
      have d1 := HYS.out w2 (HW1.out.trans (HB1.out.mono HW1.out.size))
      go_wp2
      go_loop [29] (fun vj => ∃ j : Nat, vj = .int .i64 j ∧ j ≤ sl ∧ Hid (((seen.take j).any fun n => decide (x.seq ≤ n) && decide (n < y.seq)) = false)) (fun vj => sl - (intOf vj).toNat)
      case atStart => exact ⟨0, rfl, by omega, rfl⟩
      case round =>
        obtain ⟨j, rfl, hj, HN⟩ := hrel
        by_cases hjl : j < sl
        · have hjl' : (j : Int) < (sl : Int) := by omega
          have hjs : j < seen.length := by have := HSL.out; omega
          obtain ⟨sb, soff, rfl, _, hcn⟩ := int_cell (HSX.out w2 (HW1.out.trans (HB1.out.mono HW1.out.size))) hjs
          have htk := take_int hjs
          have HMEM : Hid (seen.getD j 0 ∈ seen) := by
            rw [List.getD_eq_getElem?_getD, List.getElem?_eq_getElem hjs]; exact List.getElem_mem _
          have HTK : Hid _ := htk
          clear hjs htk
          generalize seen.getD j 0 = n at *
          by_cases h1 : x.seq ≤ n
          · have h1b : decide (x.seq ≤ n) = true := decide_eq_true h1
            by_cases h2 : n < y.seq
            · have h2b : decide (n < y.seq) = true := decide_eq_true h2
              have HR : Hid ((seen.any fun n => decide (x.seq ≤ n) && decide (n < y.seq)) = true) := List.any_eq_true.2 ⟨n, HMEM.out, by rw [h1b, h2b]; rfl⟩
              clear HTK HN
              go_wp2
              go_ret
              exact ⟨by rw [HR.out]; rfl, HW1.out.trans (HB1.out.mono HW1.out.size)⟩
            · have h2b : decide (n < y.seq) = false := decide_eq_false h2
              have HN2 : Hid (((seen.take (j + 1)).any fun n => decide (x.seq ≤ n) && decide (n < y.seq)) = false) := by rw [HTK.out, List.any_append, HN.out, List.any_cons, h2b]; simp [Hid]
              clear HTK HN
              go_wp2
              go_round
              case rel => exact ⟨j + 1, by go_num, by omega, HN2⟩
              case measure => simp [intOf]; omega
          · have h1b : decide (x.seq ≤ n) = false := decide_eq_false h1
            have HN2 : Hid (((seen.take (j + 1)).any fun n => decide (x.seq ≤ n) && decide (n < y.seq)) = false) := by rw [HTK.out, List.any_append, HN.out, List.any_cons, h1b]; simp [Hid]
            clear HTK HN
            go_wp2
            go_round
            case rel => exact ⟨j + 1, by go_num, by omega, HN2⟩
            case measure => simp [intOf]; omega
        · have hjn : j = sl := by omega
          have hjl' : ¬ (j : Int) < (sl : Int) := by omega
          have HR : Hid ((seen.any fun n => decide (x.seq ≤ n) && decide (n < y.seq)) = false) := by
            have := HN.out
            rw [hjn, HSL.out, List.take_length] at this
            exact this
          clear hjn hjl HN
          go_wp2
          go_ret
          exact ⟨by rw [HR.out]; rfl, HW1.out.trans (HB1.out.mono HW1.out.size)⟩
    · rw [decide_eq_false hke] at hbk
      have hd : decide (y.key ≠ x.key) = true := decide_eq_true hke
      rw [hd, Bool.true_or]
      unfold entObj at *
      clear hke hd
      go_enter Try.func36, Try.ntmps36
      go_wp2_with fail
      go_quiet (fail)
      go_wp2
      go_ret
      exact ⟨rfl, below_drewN HW1.out⟩
end Go.Proofs.Ytdaibmafnamfgaa.Mg
