/-
  The texts TableRefGet.
-/
import Derived.Test.YtedjohkdfchocaaQEnRef
import Derived.Test.YtedjohkdfchocaaQTableCalls
import Derived.Laws.Cover1

/-
  The document's answers for layer 6: what is found, what stands from a key on.
-/
namespace Go.Proofs.Ytedjohkdfchocaa.Tb
open Go.RowKit Cm Mm
set_option linter.unusedVariables false

def hit (K : ByteArray) (s : Int) (e : En) : Bool := decide (e.key = K) && decide (e.seq ≤ s)
theorem getE_take {xs : List En} {K : ByteArray} {s : Int} {k : Nat} (hk : k < xs.length) (h : ∀ e ∈ xs.take k, hit K s e = false) (hy : hit K s (xs.getD k En.zero) = true) : getE xs K s = some (xs.getD k En.zero) := by
  have e : xs = xs.take k ++ xs.getD k En.zero :: xs.drop (k + 1) := by
    rw [getD_lt _ _ _ hk]
    have := (List.take_append_drop k xs).symm
    rwa [List.drop_eq_getElem_cons hk] at this
  show xs.find? (hit K s) = _
  rw [show xs.find? (hit K s) = (xs.take k ++ xs.getD k En.zero :: xs.drop (k + 1)).find? (hit K s) by rw [← e], List.find?_append, List.find?_eq_none.2 (fun x hx => by rw [h x hx]; simp), List.find?_cons_of_pos hy]
  rfl
theorem getE_none {xs : List En} {K : ByteArray} {s : Int} (h : ∀ e ∈ xs, hit K s e = false) : getE xs K s = none := by
  show xs.find? (hit K s) = _
  rw [List.find?_eq_none]
  intro x hx
  rw [h x hx]; simp

set_option maxRecDepth 100000 in
set_option maxHeartbeats 1000000 in
theorem getR_any (ao : Option Addr) (ca : Nat) (xs : List En) (K : ByteArray) (s : Int) (w : World) (hx : ElemsAt enShape w ao xs) (hl : xs.length ≤ 100000000000) :
    Calls Try.prog 23 #[.slice ao xs.length ca, .string K, .int .i64 s] w fun r w' => r = .returned (foundT (getE xs K s)) ∧ Below w.heap.size w w' := by
  have HX : Hid (∀ wr, Below w.heap.size w wr → ElemsAt enShape wr ao xs) := fun wr hb => hx.later hb
  have HS : Hid (Below w.heap.size w (w.alloc (entObj En.zero)) ∧ (w.alloc (entObj En.zero)).heap[w.heap.size]? = some (entObj En.zero)) := ⟨(Below.refl _ _).alloc (Nat.le_refl _) _, heap_alloc_new w _⟩
  unfold entObj En.zero at HS
  have HBe : Hid (∀ w1 v0 v1 v2 v3, Below w.heap.size w w1 → Below w.heap.size w ((((w1.setCell ⟨w.heap.size, 0, none⟩ v0).setCell ⟨w.heap.size, 1, none⟩ v1).setCell ⟨w.heap.size, 2, none⟩ v2).setCell ⟨w.heap.size, 3, none⟩ v3)) := fun w1 v0 v1 v2 v3 hb1 =>
    (((hb1.setCell (by simp) _).setCell (by simp) _).setCell (by simp) _).setCell (by simp) _
  clear hx
  go_enter Try.func23, Try.ntmps23
  go_wp2
  go_loopw [12] (fun i wr => ∃ k : Nat, k ≤ xs.length ∧ i = .int .i64 k ∧ Hid (∀ e ∈ xs.take k, hit K s e = false) ∧ Hid (Below w.heap.size w wr ∧ wr.heap[w.heap.size]? = some (entObj En.zero))) (fun i _ => xs.length - (intOf i).toNat)
  case atStart => exact ⟨0, by omega, rfl, (fun e he => by simp at he), HS⟩
  case round =>
    obtain ⟨k, hk, rfl, HN, HB⟩ := hrel
    by_cases hlt : k < xs.length
    · obtain ⟨pb, off, rfl, c0, c1, c2, c3⟩ := elem_cells (HX.out wr HB.out.1) hlt
      have HT : Hid (hit K s (xs.getD k En.zero) = true → getE xs K s = some (xs.getD k En.zero)) := fun hy => getE_take hlt HN.out hy
      have HF : Hid (hit K s (xs.getD k En.zero) = false → ∀ e ∈ xs.take (k + 1), hit K s e = false) := fun hy => all_take hlt HN.out hy
      have HBn : Hid (∀ e, Below w.heap.size w (wr.alloc (entObj e)) ∧ (wr.alloc (entObj e)).heap[w.heap.size]? = some (entObj En.zero)) := fun e => ⟨HB.out.1.alloc HB.out.1.size _, (Below.heap_alloc _ _ _ (lt_of_block HB.out.2)).trans HB.out.2⟩
      have hbk := beq_toList (xs.getD k En.zero).key K
      generalize xs.getD k En.zero = y at *
      have hk0 : (0 : Int) ≤ (k : Int) := by omega
      have hk1 : (k : Int) < (xs.length : Int) := by omega
      by_cases hh : hit K s y = true
      · have hG := HT.out hh
        have hh2 := hh
        unfold hit at hh2
        simp only [Bool.and_eq_true, decide_eq_true_eq] at hh2
        rw [decide_eq_true hh2.1] at hbk
        have hsq : y.seq ≤ s := hh2.2
        obtain ⟨bb, hbx⟩ := HBn.out y
        have HBq : Hid _ := HBe.out _ (.string y.key) (.int .i64 y.seq) (.bool y.dead) (.string y.val) bb
        obtain ⟨b0, b1, b2, b3, bf⟩ := ent_cells (e := En.zero) hbx
        unfold En.zero at b0 b1 b2 b3
        have f0 := bf 0
        have f1 := bf 1
        have f2 := bf 2
        have f3 := bf 3
        obtain ⟨g0, g1, g2, g3⟩ := ent_set (e := En.zero) hbx y.key y.seq y.dead y.val
        have hwl : w.heap.size ≤ wr.heap.size := HB.out.1.size
        have hwl2 : w.heap.size < wr.heap.size := lt_of_block HB.out.2
        have HG : Hid _ := hG
        obtain ⟨n0, n1, n2, n3, _⟩ := ent_cells (heap_alloc_new wr (entObj y))
        unfold entObj at HBq b0 b1 b2 b3 f0 f1 f2 f3 g0 g1 g2 g3 n0 n1 n2 n3
        clear hG hh hh2 HN HB HT HF HBn hbx bf bb HBe HX HS hl
        generalize hgn : wr.alloc (.cells #[.string y.key, .int .i64 y.seq, .bool y.dead, .string y.val] 44) = W at *
        go_wp2
        refine bodyPost_ret (by simp [results, Try.results23, go_sem, g0, g1, g2, g3]; try rfl) rfl ?_
        rw [HG.out]
        exact ⟨by rfl, HBq.out⟩
      · have hf : hit K s y = false := by simpa using hh
        have HF1 : Hid _ := HF.out hf
        have HBy : Hid _ := HBn.out y
        unfold entObj at HBy
        unfold hit at hf
        clear hh HN HB HT HF HBn HBe HX HS
        by_cases hkk : y.key = K
        · rw [decide_eq_true hkk] at hbk
          have hsq : decide (y.seq ≤ s) = false := by simpa [hkk] using hf
          clear hf hkk
          go_wp2
          go_roundw
          case rel => exact ⟨k + 1, by omega, by go_num, HF1, HBy⟩
          case measure => simp [intOf]; omega
        · rw [decide_eq_false hkk] at hbk
          clear hf hkk
          go_wp2
          go_roundw
          case rel => exact ⟨k + 1, by omega, by go_num, HF1, HBy⟩
          case measure => simp [intOf]; omega
    · obtain rfl : k = xs.length := by omega
      rw [List.take_length] at HN
      have HG : Hid _ := getE_none HN.out
      obtain ⟨bb, hbx⟩ := HB.out
      have HBq : Hid _ := HBe.out _ (.string ⟨#[]⟩) (.int .i64 0) (.bool false) (.string ⟨#[]⟩) bb
      obtain ⟨b0, b1, b2, b3, bf⟩ := ent_cells (e := En.zero) hbx
      unfold En.zero at b0 b1 b2 b3
      have f0 := bf 0
      have f1 := bf 1
      have f2 := bf 2
      have f3 := bf 3
      obtain ⟨g0, g1, g2, g3⟩ := ent_set (e := En.zero) hbx ⟨#[]⟩ 0 false ⟨#[]⟩
      clear HN HB hbx bf bb HBe HX HS
      go_wp2
      refine bodyPost_ret (by simp [results, Try.results23, go_sem, g0, g1, g2, g3]; try rfl) rfl ?_
      rw [HG.out]
      exact ⟨by rfl, HBq.out⟩

theorem lt_drop {xs : List En} {K : ByteArray} {k : Nat} (hk : k ≤ xs.length) (h : ∀ e ∈ xs.take k, lt e.key K = true) (hs : k < xs.length → lt (xs.getD k En.zero).key K = false) : fromE xs K = xs.drop k := (while_stop (p := fun e => lt e.key K) hk h hs).2
/-- What 'From' answers. -/
def FromAns (w : World) (xs : List En) (K : ByteArray) (r : Ending) (w' : World) : Prop := ∃ ao ca, r = .returned (.slice ao (fromE xs K).length ca) ∧ ElemsAt enShape w' ao (fromE xs K) ∧ Below w.heap.size w w'
set_option maxRecDepth 100000 in
set_option maxHeartbeats 1000000 in
theorem fromR_any (ao : Option Addr) (ca : Nat) (xs : List En) (K : ByteArray) (w : World) (hx : ElemsAt enShape w ao xs) (hl : xs.length ≤ 100000000000) (hca : xs.length ≤ ca) :
    Calls Try.prog 30 #[.slice ao xs.length ca, .string K] w fun r w' => FromAns w xs K r w' := by
  have HX : Hid (∀ wr, Below w.heap.size w wr → ElemsAt enShape wr ao xs) := fun wr hb => hx.later hb
  clear hx
  go_enter Try.func30, Try.ntmps30
  go_wp2
  go_loopw [9] (fun i wr => ∃ k : Nat, k ≤ xs.length ∧ i = .int .i64 k ∧ Hid (∀ e ∈ xs.take k, lt e.key K = true) ∧ Hid (Below w.heap.size w wr)) (fun i _ => xs.length - (intOf i).toNat)
  case atStart => exact ⟨0, by omega, rfl, (fun e he => by simp at he), Below.refl _ _⟩
  case round =>
    obtain ⟨k, hk, rfl, HN, HB⟩ := hrel
    by_cases hlt : k < xs.length
    · have hel := HX.out wr HB.out
      obtain ⟨pb, off, rfl, c0, c1, c2, c3⟩ := elem_cells hel hlt
      have HT : Hid (lt (xs.getD k En.zero).key K = false → fromE xs K = xs.drop k) := fun hy => lt_drop hk HN.out (fun _ => hy)
      have HF : Hid (lt (xs.getD k En.zero).key K = true → ∀ e ∈ xs.take (k + 1), lt e.key K = true) := fun hy => all_take (p := fun e => lt e.key K) hlt HN.out hy
      have HBn : Hid (∀ o, Below w.heap.size w (wr.alloc o)) := fun o => HB.out.alloc HB.out.size _
      have HD : Hid (∀ o, ElemsAt enShape (wr.alloc o) (some ⟨pb, off + k * 4, none⟩) (xs.drop k)) := fun o => elems_drop (HX.out _ (HBn.out o)) k
      generalize xs.getD k En.zero = y at *
      have hk0 : (0 : Int) ≤ (k : Int) := by omega
      have hk1 : (k : Int) < (xs.length : Int) := by omega
      have hk2 : (k : Int) ≤ (xs.length : Int) := by omega
      have hk3 : (xs.length : Int) ≤ (ca : Int) := by omega
      have hk4 : ca ≠ k := by omega
      clear hel HN HB HX
      cases hy : lt y.key K
      · have HG : Hid _ := HT.out hy
        have hy2 : Op.bytesLess y.key.toList K.toList = false := hy
        clear hy HT HF
        go_wp2
        go_ret
        unfold FromAns
        rw [HG.out, List.length_drop]
        exact ⟨_, _, rfl, HD.out _, HBn.out _⟩
      · have HG : Hid _ := HF.out hy
        have hy2 : Op.bytesLess y.key.toList K.toList = true := hy
        clear hy HT HF
        go_wp2
        go_roundw
        case rel => exact ⟨k + 1, by omega, by go_num, HG, HBn.out _⟩
        case measure => simp [intOf]; omega
    · obtain rfl : k = xs.length := by omega
      have HG : Hid (fromE xs K = []) := by show _ = _; rw [lt_drop hk HN.out (fun h => absurd h (Nat.lt_irrefl _))]; simp
      clear HN HX
      go_wp2
      go_ret
      unfold FromAns
      rw [HG.out]
      exact ⟨none, 0, rfl, .inl rfl, HB.out⟩
end Go.Proofs.Ytedjohkdfchocaa.Tb
