/-
  Package vfs: the names, rising; List.
-/
import Derived.Test.YtpiaegkeclmpgaaVfsNamed
import Derived.Test.YtpiaegkeclmpgaaCmSort
import Derived.Shelf.Sort.Plain
import Derived.Sort.OwnSorted
namespace Go.Proofs.Ytpiaegkeclmpgaa.Vf
open Go.RowKit Cm Go.Sort
set_option linter.unusedVariables false

def encOf (l : List (List UInt8)) : List Value := l.map encStr
theorem names_of {M : Name → Option File} {ss : List Name} (hnd : ss.Nodup) (hm : ∀ x, x ∈ ss ↔ (M x).isSome = true) : Names M (ss.mergeSort fun x y => decide (x ≤ y)) := by
  have tr : ∀ a b c : List UInt8, decide (a ≤ b) = true → decide (b ≤ c) = true → decide (a ≤ c) = true := fun a b c h1 h2 => by simp only [decide_eq_true_eq] at *; exact List.le_trans h1 h2
  have to : ∀ a b : List UInt8, (decide (a ≤ b) || decide (b ≤ a)) = true := fun a b => by simp only [Bool.or_eq_true, decide_eq_true_eq]; exact List.le_total a b
  refine ⟨(List.pairwise_mergeSort tr to ss).imp fun h => by simpa using h, (List.mergeSort_perm ss _).nodup_iff.2 hnd, fun x => ?_⟩
  rw [(List.mergeSort_perm ss _).mem_iff, hm]

set_option maxRecDepth 100000 in
set_option maxHeartbeats 1000000 in
theorem names_any (S : Nat → Prop) (b : Nat) (s : St) (w : World) (h : FSAt w S b s) (hcnt : s.cnt ≤ 4398046511104) :
    Calls Try.prog 27 #[.pointer (some ⟨b, 0, none⟩)] w fun e w' => ∃ (g cap : Nat) (ks : List Name), e = .returned (.slice (some ⟨g, 0, none⟩) ks.length cap) ∧ Names s.files ks ∧ ks.length ≤ s.cnt ∧
      w'.ownsRow w.heap.size 9 1 (.slice (some ⟨g, 0, none⟩) ks.length cap) ks.length (encOf ks) ∧ Below w.heap.size w w' := by
  obtain ⟨i0, hi, hz0, hz1, hz2⟩ := info_parts infoStr
  obtain ⟨fo, bm, V, h1, h2, h3, h4, ⟨D, hown, hD⟩, h6⟩ := h
  have c4 : w.cell? ⟨b, 4, none⟩ = some (.map (some bm)) := by rw [Joins.cell_of_block h1]; rfl
  have hbl := hown.lt
  have hsz := hown.size_le
  have hlt := lt_of_block h1
  have HM : Hid (∀ x, Maps.has D (.string x) = true ↔ (s.files x).isSome = true) := fun x => by
    rw [← h6.dom x, ← hD]
    refine ⟨fun e => ?_, has_of_look⟩
    have hmem : x ∈ strKeys D := by
      obtain ⟨es, rfl, -⟩ := hown.keysOf
      rw [Maps.has_eq, List.any_eq_true] at e
      obtain ⟨p, hp, hs⟩ := e
      have := WideAt.sameKey_eq hs
      exact List.mem_map.2 ⟨p, hp, by rw [this]; rfl⟩
    have hle := strKeys_le hown Try.underlying9 x hmem
    rw [isSome_has hown keyS Try.underlying41 (zeroFile w) (key := encStr x) (by simpa [encStr] using keyOfS (s := ⟨x.toArray⟩) (by show x.toArray.size ≤ _; simpa using hle))]
    exact e
  have HSh : Hid (∀ x, (s.files x).isSome = true → x.length ≤ 281474976710656) := h6.short
  clear h1 h2 h3 h4 h6 hD
  go_enter Try.func27, Try.ntmps27
  go_wp2_with (first
    | (at_len; refine wpList_len_own _ rfl _ 41 rfl 9 64 Try.underlying41 _ bm s.cnt _ rfl hown ?_)
    | (at_make; refine wpList_make_own _ rfl _ _ 22 rfl w.heap.size 9 i0 (.string ⟨#[]⟩) 1 Try.underlying22 hi hz0 hz1 _ _ _ (Maps.size D) rfl rfl rfl (by rw [hz2]; omega) (by unfold maxLen; omega) (Nat.le_refl _) ?_; intro w1 hrow1 hg1; have d4 : w1.cell? ⟨b, 4, none⟩ = some (.map (some bm)) := (World.cell?_of_block (hg1.block b hlt (by simp))).trans c4)
    | (at_range; refine wpList_range_own _ rfl _ 41 rfl 9 64 keyS Try.underlying41 _ bm s.cnt _ rfl (hown.kept hg1 (by simp)) ?_; intro w0 hrg0 hg0 hs0)
    | go_in)
  go_frame
  go_loopw [3] (fun v wr => ∃ (left : Lit → Bool) (cnt : Nat) (ss : List (List UInt8)), Hid (wr.ranges Try.prog 9 rv bm w1.heap.size s.cnt D left cnt) ∧ ss.length + cnt ≤ Maps.size D ∧
      Hid (wr.ownsRow w.heap.size 9 1 v ss.length (encOf ss)) ∧ Hid (v ≠ .slice none 0 0) ∧ Hid (Collected D left ss) ∧ Hid (Below w.heap.size w wr))
    (fun _ wr => wr.rangeLeft bm w1.heap.size)
  case atStart =>
    exact ⟨_, _, [], hrg0, by simp, hrow1.kept hg0 (Or.inr (by simp [Value.ownBlock])), (by show _ ≠ _; simp), Collected.start D,
      ((Below.refl _ _).grown hg1 (Nat.le_refl _) (fun j hj => by cases hj)).grown hg0 hg1.size (fun j hj => by cases hj)⟩
  case round =>
    obtain ⟨left, cnt, ss, HRg, hcs, HRow, HNn, HC, HX⟩ := hrel
    have hsr := HX.out.size
    go_wp2_with (first
      | (at_next; refine wpList_next_ranges _ rfl _ rfl 9 keyS rv encStr (fun v : Value => v) (fun key kl hk => by obtain ⟨x, hx, _⟩ := Maps.keyOf_str Try.underlying9 hk; exact ⟨x, hx⟩) (fun v y _ => ⟨v, rfl⟩) bm w1.heap.size s.cnt _ _ _ rfl HRg.out ?_ ?_)
      | go_in)
    · intro hc0 hl0
      have HP : Hid (Names s.files (ss.mergeSort fun x y => decide (x ≤ y))) := names_of HC.out.1 fun x => by rw [HC.out.2 x, hl0, ← HM.out x]; simp
      have hrow := HRow.out
      rcases hrow.2 with ⟨hnil, _⟩ | ⟨g, cap, cur, rfl, hbase, hb, k1, k2, k3, k4⟩
      · exact absurd hnil HNn.out
      have HS : Hid (Calls Try.prog 37 #[.slice (some ⟨g, 0, none⟩) ss.length cap] wr fun e w' => e = .returned (.tuple #[]) ∧ w'.ownsRow w.heap.size 9 1 (.slice (some ⟨g, 0, none⟩) ss.length cap) ss.length (encOf (ss.mergeSort fun x y => decide (x ≤ y))) ∧ Below w.heap.size w w') := by
        refine (Any.slices_Sort_string Try.lays190 g 0 cap ss wr (holds_of_block hb (by simpa [encOf] using k4)) (lt_of_block hb) (by omega)).mono ?_
        rintro e w' ⟨rfl, nn, os, rfl⟩
        exact ⟨rfl, ownsRow_sorted (by simp) hbase hb k1 k2 k3, HX.out.grown (grownBy_sorted _) HX.out.size (fun j hj => by cases hj; exact hbase)⟩
      clear hrow hb k1 k2 k3 k4 hl0 hrow1 hrg0 hg1 hg0
      go_wp2_with fail
      refine (show Calls _ _ _ _ _ from HS.out).mono ?_
      rintro e w' ⟨rfl, r1, r2⟩
      go_wp2
      go_ret
      have hlen : (ss.mergeSort fun x y => decide (x ≤ y)).length = ss.length := List.length_mergeSort ss
      refine ⟨g, cap, _, ?_, HP.out, ?_, ?_, r2⟩
      · rw [hlen]; rfl
      · rw [hlen]; omega
      · rw [hlen]; exact r1
    · intro x c kl yd yp w2 cnt2 hkey hlk hv hat hrg2 hlt2 hg2 hs2 hen
      obtain ⟨x', ex, rfl, hxl⟩ := Maps.keyOf_str Try.underlying9 hkey
      obtain rfl : x = x' := encStr_inj ex
      have hxs : x.length ≤ 281474976710656 := HSh.out x ((HM.out x).1 (Maps.has_true_of_atKey hat))
      clear hs2
      have hrow2 := HRow.out.kept hg2 (Or.inr (row_ne_iter HRow.out HRg.out).symm)
      have hB2 : Below w.heap.size w w2 := HX.out.grown hg2 HX.out.size (fun j hj => by cases hj; exact hg1.size)
      have HCl : Hid (Calls Try.prog 22 #[encStr x] w2 fun e w' => e = .returned (encStr x) ∧ Below w2.heap.size w2 w') := clone_any ⟨x.toArray⟩ w2 (by show x.toArray.size ≤ _; simpa using hxs)
      have HB2 : Hid (Below w.heap.size w w2) := hB2
      have HRow2 : Hid (w2.ownsRow w.heap.size 9 1 u3 ss.length (encOf ss)) := hrow2
      have HRg2 : Hid (w2.ranges Try.prog 9 rv bm w1.heap.size s.cnt D (fun z => left z && !z.sameKey (.string x)) cnt2) := hrg2
      have HC2 : Hid (Collected D (fun z => left z && !z.sameKey (.string x)) (ss ++ [x])) := HC.out.step hlk hat
      have HLt : Hid (cnt2 < cnt) := hlt2
      clear hrow2 hB2 hrg2 hg2 hkey hat hv hlk hlt2 hxl hrow1 hrg0 hg0
      go_wp2_with fail
      refine (show Calls _ _ _ _ _ from HCl.out).mono ?_
      rintro e w3 ⟨rfl, h3⟩
      have hrow3 : w3.ownsRow w.heap.size 9 1 u3 ss.length (encOf ss) := own_keep HRow2.out fun k e => h3.block k (HRow2.out.lt k e).2
      have HRg3 : Hid (w3.ranges Try.prog 9 rv bm w1.heap.size s.cnt D (fun z => left z && !z.sameKey (.string x)) cnt2) := HRg2.out.kept ⟨h3.os, h3.tape, h3.output, h3.size, fun k hk _ => h3.block k hk⟩ (row := none) (by simp) (by simp)
      have HB3 : Hid (Below w.heap.size w w3) := HB2.out.trans (h3.mono HB2.out.size)
      have hs3 := HB3.out.size
      have hlc := HLt.out
      clear h3 HCl
      go_wp2_with (at_builtin; refine wpList_append_any _ rfl _ _ 22 rfl w.heap.size 9 i0 (.string ⟨#[]⟩) 16 Try.underlying22 hi hz0 hz1 hz2 rfl u3 ss.length (encOf ss) rfl (hrow3.alloc _) (some ⟨w3.heap.size, 0, none⟩) 1 1 [encStr x] rfl (by simp) rfl ?c0 ?c1 ?c2 ?c3 ?c4 ?_)
      case c0 => exact .inr ⟨w3.heap.size, 0, rfl, by simp, fun j hj => by obtain rfl : j = 0 := (by simpa using hj); rw [Joins.cell_of_block (heap_alloc_new w3 _)]; rfl⟩
      case c1 => intro u hu; simp at hu; subst hu; rfl
      case c2 => unfold maxLen; omega
      case c3 => omega
      case c4 => simp; omega
      intro v' w4 hown4 hg4 hat4
      have HRow4 : Hid (w4.ownsRow w.heap.size 9 1 v' (ss ++ [x]).length (encOf (ss ++ [x]))) := by
        show World.ownsRow _ _ _ _ _ _ _
        rw [List.length_append, encOf, List.map_append]; exact hown4
      have HRg4 : Hid (w4.ranges Try.prog 9 rv bm w1.heap.size s.cnt D (fun z => left z && !z.sameKey (.string x)) cnt2) := (HRg3.out.alloc _).kept hg4 (row_ne_low hrow3 hbl) (row_ne_iter hrow3 HRg3.out)
      have HB4 : Hid (Below w.heap.size w w4) := (HB3.out.alloc (by omega) _).grown hg4 (by simp; omega) (fun j hj => (hrow3.lt j hj).1)
      have HN4 : Hid (v' ≠ .slice none 0 0) := fun e => by
        rcases HRow4.out.2 with ⟨_, h0⟩ | ⟨g, cap, cur, e2, _⟩
        · simp at h0
        · rw [e2] at e; simp at e
      clear hown4 hg4 hat4 hrow3
      go_wp2
      go_roundw
      case rel => exact ⟨_, cnt2, ss ++ [x], HRg4.out, by simp; omega, HRow4.out, HN4.out, HC2.out, HB4.out⟩
      case measure => rw [HRg4.out.left_eq, HRg.out.left_eq]; exact HLt.out

end Go.Proofs.Ytpiaegkeclmpgaa.Vf
