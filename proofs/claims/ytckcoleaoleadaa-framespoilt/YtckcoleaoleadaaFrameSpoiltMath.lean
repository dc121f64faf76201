/-
  A frame that is spoilt within four neighbouring bytes of its payload, or of its sum, is none (over plain lists of bytes).
-/
import Derived.Test.YtckcoleaoleadaaFrameMath
namespace Go.Proofs.Ytckcoleaoleadaa.Fr

/-- l with the first i of the bytes ws from place f on. -/
def mix (l : List UInt8) (f : Nat) (ws : List UInt8) (i : Nat) : List UInt8 := l.take f ++ (ws.take i ++ l.drop (f + i))
theorem mix_zero (l : List UInt8) (f : Nat) (ws : List UInt8) : mix l f ws 0 = l := by simp [mix]
theorem mix_len {l : List UInt8} {f : Nat} {ws : List UInt8} {i : Nat} (h : f + i ≤ l.length) (hi : i ≤ ws.length) : (mix l f ws i).length = l.length := by
  simp only [mix, List.length_append, List.length_take, List.length_drop]
  omega
theorem mix_set {l : List UInt8} {f : Nat} {ws : List UInt8} {i : Nat} (h : f + i < l.length) (hi : i < ws.length) : (mix l f ws i).set (f + i) ws[i] = mix l f ws (i + 1) := by
  unfold mix
  have h1 : (l.take f).length = f := by rw [List.length_take]; omega
  have h2 : (ws.take i).length = i := by rw [List.length_take]; omega
  rw [List.set_append, if_neg (by omega), h1, Nat.add_sub_cancel_left, List.set_append, if_neg (by omega), h2, Nat.sub_self, List.drop_eq_getElem_cons h, List.set_cons_zero, List.take_succ_eq_append_getElem hi, ← Nat.add_assoc]
  simp only [List.append_assoc, List.cons_append, List.nil_append]

theorem frame_take4 (q r : List UInt8) : (frame q ++ r).take 4 = four q.length := by
  rw [frame, List.append_assoc, List.take_left' (four_len _)]
theorem frame_drop4 (q : List UInt8) : (frame q).drop 4 = four (sum (four q.length ++ q)) ++ q := by
  rw [frame, List.drop_left' (four_len _)]
theorem frame_drop8 (q : List UInt8) : (frame q).drop 8 = q := by
  rw [show 8 = 4 + 4 from rfl, ← List.drop_drop, frame_drop4, List.drop_left' (four_len _)]
theorem four_inj {a b : Nat} (ha : a < 4294967296) (hb : b < 4294967296) (h : four a = four b) : a = b := by
  rw [← word_four a ha, h, word_four b hb]

theorem spoilt_none {p ws : List UInt8} {f m : Nat} (hp : p.length ≤ 65536) (hm4 : m ≤ 4) (hws : ws.length = 4) (hf : (f = 4 ∧ m = 4) ∨ 8 ≤ f) (hfm : f + m ≤ 8 + p.length) (hne : mix (frame p) f ws m ≠ frame p) : first (mix (frame p) f ws m) = none := by
  have hl : (frame p).length = 8 + p.length := frame_len p
  have h4 : 4 ≤ f := by omega
  have hB : (mix (frame p) f ws m).length = 8 + p.length := by rw [mix_len (by omega) (by omega), hl]
  have ht4 : (mix (frame p) f ws m).take 4 = four p.length := by
    unfold mix
    rw [List.take_append_of_le_length (by rw [List.length_take]; omega), List.take_take, Nat.min_eq_left h4]
    have := frame_take4 p []
    rwa [List.append_nil] at this
  cases hfst : first (mix (frame p) f ws m) with
  | none => rfl
  | some n =>
    exfalso
    obtain ⟨q, r, _, hq, hBq⟩ := first_some hfst
    have e4 : four q.length = four p.length := by rw [← frame_take4 q r, ← hBq, ht4]
    have hql : q.length = p.length := four_inj (by omega) (by omega) e4
    have hr : r = [] := by
      have := congrArg List.length hBq
      rw [hB, List.length_append, frame_len] at this
      exact List.eq_nil_of_length_eq_zero (by omega)
    rw [hr, List.append_nil] at hBq
    apply hne
    rw [hBq]
    congr 1
    have hq8 : q = (mix (frame p) f ws m).drop 8 := by rw [hBq, frame_drop8]
    rcases hf with ⟨rfl, rfl⟩ | h8
    · rw [hq8]
      unfold mix
      rw [show ws.take 4 = ws from List.take_of_length_le (by omega), ← List.append_assoc, List.drop_left' (by rw [List.length_append, List.length_take]; omega), frame_drop8]
    · obtain ⟨c, rfl⟩ : ∃ c, f = 8 + c := ⟨f - 8, by omega⟩
      have hqv : q = p.take c ++ (ws.take m ++ p.drop (c + m)) := by
        rw [hq8]
        unfold mix
        rw [List.drop_append_of_le_length (by rw [List.length_take]; omega), List.drop_take, Nat.add_sub_cancel_left, frame_drop8]
        congr 2
        rw [Nat.add_assoc, ← List.drop_drop, frame_drop8]
      have hpv : p = p.take c ++ ((p.drop c).take m ++ p.drop (c + m)) := by
        rw [← List.drop_drop, List.take_append_drop, List.take_append_drop]
      have h84 : (frame q).take 8 = (frame p).take 8 := by
        rw [← hBq]
        unfold mix
        rw [List.take_append_of_le_length (by rw [List.length_take]; omega), List.take_take, Nat.min_eq_left h8]
      have hs4 : ∀ x : List UInt8, (frame x).take 8 = four x.length ++ four (sum (four x.length ++ x)) := fun x => by
        rw [frame, ← List.append_assoc, List.take_left' (by rw [List.length_append, four_len, four_len])]
      rw [hs4, hs4, hql] at h84
      have hsum : sum (four p.length ++ q) = sum (four p.length ++ p) := four_inj (sum_lt _) (sum_lt _) (List.append_inj_right h84 rfl)
      have hcl : ((p.drop c).take m).length = m := by rw [List.length_take, List.length_drop]; omega
      have hwl : (ws.take m).length = m := by rw [List.length_take]; omega
      generalize four p.length = F at hsum
      have hb : ws.take m = (p.drop c).take m := sum_burst (p := F ++ p.take c) (s := p.drop (c + m)) (by rw [hcl, hwl]) (by omega) (by rw [List.append_assoc, List.append_assoc, ← hqv, ← hpv]; exact hsum)
      rw [hqv, hb, ← hpv]

end Go.Proofs.Ytckcoleaoleadaa.Fr
