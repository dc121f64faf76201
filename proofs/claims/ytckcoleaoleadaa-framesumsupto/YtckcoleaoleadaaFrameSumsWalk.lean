/-
  The walk of the statement FrameSums.
-/
import Derived.Test.YtckcoleaoleadaaFrameRef
import Derived.Deep.RegionHeld3
import Derived.Deep.DrawnRows
import Derived.Deep.RegionWith
namespace Go.Proofs.Ytckcoleaoleadaa.Fr
open Go.RowKit Cm
set_option linter.unusedVariables false
attribute [local go_sem ↓] Go.wp_at_zero Go.wp_at_succ

theorem cat_len (xs : List ByteArray) : (cat xs).length = total xs := by
  induction xs with
  | nil => simp [cat, total]
  | cons x xs ih => simp only [cat, total, List.flatMap_cons, List.length_append, List.map_cons, List.sum_cons] at ih ⊢; rw [ih, Lib.size_eq]
theorem total_take' (xs : List ByteArray) (k : Nat) : total (xs.take k) ≤ total xs := by
  conv => rhs; rw [← List.take_append_drop k xs]
  simp only [total, List.map_append, List.sum_append]
  omega
theorem size_total' {xs : List ByteArray} {x : ByteArray} (h : x ∈ xs) : x.size ≤ total xs := by
  induction xs with
  | nil => cases h
  | cons y ys ih =>
    simp only [total, List.map_cons, List.sum_cons] at ih ⊢
    rcases List.mem_cons.1 h with rfl | h
    · omega
    · have := ih h; omega
theorem cat_one (X : ByteArray) : cat [X] = X.data.toList := by simp [cat]

set_option maxRecDepth 100000 in
set_option maxHeartbeats 400000 in
theorem sums_walk (ao : Option Addr) (cap : Nat) (xs : List ByteArray) (w : World) (hc : CellsAt w ao (strVals xs)) (hb : xs.length + total xs ≤ 140737488350000) :
    Calls Try.prog 3 #[.slice ao xs.length cap] w fun e w' => e = .returned (.bool true) ∧ Below w.heap.size w w' := by
  obtain ⟨i0, hi0, hz0, hz1, hz2⟩ := info_parts info8
  have hlen : xs.length ≤ 140737488350000 := by omega
  go_enter Try.func3, Try.ntmps3
  go_wp2_with fail
  refine (lives_any _).mono ?_
  rintro e w1 ⟨rfl, hb1⟩
  have hs1 := hb1.size
  go_wp2
  go_loopw [3, 10] (fun v i wr => ∃ k : Nat, k ≤ xs.length ∧ i = .int .i64 k ∧ Hid (wr.ownsRow w.heap.size 5 1 v (cat (xs.take k)).length ((cat (xs.take k)).map B8)) ∧ Hid (Below w.heap.size w wr)) (fun _ i _ => xs.length - (intOf i).toNat)
  case atStart => exact ⟨0, by omega, rfl, World.ownsRow_nil _ _ _ _, hb1⟩
  case round =>
    obtain ⟨k, hk, rfl, HO, HB⟩ := hrel
    have hsr := HB.out.size
    by_cases hlt : k < xs.length
    · rcases hc.below HB.out with h0 | ⟨b, off, rfl, hbl, hcells⟩
      · have : xs.length = 0 := by have := congrArg List.length h0; simpa [strVals] using this
        omega
      have hck := hcells k (by simpa [strVals] using hlt)
      have hx : (strVals xs)[k]? = some (.string (xs.getD k ByteArray.empty)) := by simp [strVals, hlt]
      have HN := cat_snoc xs k hlt
      have HL := total_take' xs (k + 1)
      rw [← cat_len, HN, List.length_append, ← Lib.size_eq] at HL
      rw [hx] at hck
      have HN : Hid _ := HN
      generalize xs.getD k ByteArray.empty = s at *
      generalize cat (xs.take k) = bs at *
      have HL1 : Hid (bs.length + s.size ≤ 140737488350000) := by show _ ≤ _; omega
      clear hcells hx HL
      go_wp2_with (at_builtin; refine wpList_append_str_at _ rfl _ _ 24 9 rfl w.heap.size 5 i0 Try.underlying24 Try.underlying9 hi0 hz0 hz1 hz2 u3 bs.length (bs.map B8) rfl HO.out s rfl ?c1 ?c3 ?c2 ?_)
      case c1 => have := HL1.out; unfold maxLen; omega
      case c2 => omega
      case c3 => have := HL1.out; omega
      intro v2 w2 hown2 hgrow2 hat2
      have HB2 : Hid (Below w.heap.size w w2) := own_text_below HB.out (Nat.le_refl _) (Below.refl _ _) HO.out hgrow2
      have HO2 : Hid (w2.ownsRow w.heap.size 5 1 v2 (cat (xs.take (k + 1))).length ((cat (xs.take (k + 1))).map B8)) := by rw [HN.out]; exact own_bytes rfl hown2
      clear hown2 hgrow2 hat2
      go_wp2
      go_roundw
      case rel => exact ⟨k + 1, by omega, by go_num, HO2, HB2⟩
      case measure => simp [intOf]; omega
    · have hk' : k = xs.length := by omega
      subst hk'
      rw [List.take_length] at HO
      obtain ⟨X, hX⟩ : ∃ X : ByteArray, X = ⟨(cat xs).toArray⟩ := ⟨_, rfl⟩
      have hst : ∀ w' : World, (∀ k, u3.ownBlock = some k → w'.heap[k]? = wr.heap[k]?) → (convert 24 9 u3).run Try.prog w' = .ok (.string X) w' := fun w' h => by
        rw [hX]; exact own_string (own_keep HO.out h)
      have hXd : X.data.toList = cat xs := by rw [hX]
      have hXs : X.size ≤ 140737488350000 := by rw [Lib.size_eq, hXd, cat_len]; omega
      have hc0 : (convert 24 9 u3).run Try.prog wr.drew = .ok (.string X) wr.drew := hst _ (fun _ _ => rfl)
      have hc1 : (convert 24 9 u3).run Try.prog (wr.drew.alloc (.cells #[.string X] 9)) = .ok (.string X) (wr.drew.alloc (.cells #[.string X] 9)) := hst _ (fun k hk => Below.heap_alloc _ _ _ (HO.out.lt k hk).2)
      have hcr := hc.below HB.out
      obtain ⟨q, hq⟩ : ∃ q, q = sum (cat xs) := ⟨_, rfl⟩
      have hSum : ∀ w' : World, CellsAt w' ao (strVals xs) → Calls Try.prog 10 #[.slice ao xs.length cap] w' fun e w'' => e = .returned (.int .u32 (q : Nat)) ∧ w'' = w' := fun w' h => by
        rw [hq]; exact sum_any ao cap xs w' h (by omega) (fun x hx => by have := size_total' hx; omega)
      have hOne : ∀ w' : World, Calls Try.prog 10 #[.slice (some ⟨w'.heap.size, 0, none⟩) 1 1] (w'.alloc (.cells #[.string X] 9)) fun e w'' => e = .returned (.int .u32 (q : Nat)) ∧ w'' = w'.alloc (.cells #[.string X] 9) := fun w' => by
        have := sum_any (some ⟨w'.heap.size, 0, none⟩) 1 [X] (w'.alloc (.cells #[.string X] 9)) (cells1' X) (by simp) (by intro x hx; simp at hx; subst hx; omega)
        rw [cat_one, hXd, ← hq] at this
        exact this
      have hRef : ∀ w' : World, Calls Try.prog 11 #[.string X] w' fun e w'' => e = .returned (.int .u32 (q : Nat)) ∧ w'' = w' := fun w' => by
        have := refSum_any X w' (by omega)
        rw [hXd, ← hq] at this
        exact this
      have HSum : Hid _ := hSum
      have HOne : Hid _ := hOne
      have HRef : Hid _ := hRef
      have HcA : Hid (CellsAt wr.drew ao (strVals xs)) := hcr
      have HcB : Hid (CellsAt (wr.drew.alloc (.cells #[.string X] 9)) ao (strVals xs)) := CellsAt.alloc (w := wr.drew) hcr _
      clear hst hSum hOne hRef hcr hc hq hX hXd HO hi0 hz0 hz1 hz2 hb hb1 hs1
      go_wp2_with fail
      go_region_held3 (fun w' => (convert 24 9 u3).run Try.prog w' = .ok (.string X) w') (assumption)
        ((first
          | (go_at_call_of 10 (Value.slice ao xs.length cap); refine (HSum.out _ (by first | exact HcA.out | exact HcB.out)).mono ?_; rintro e w11 ⟨rfl, rfl⟩)
          | (go_at_call_of 10 (Value.slice (some ⟨wr.heap.size, 0, none⟩) 1 1); refine (HOne.out wr.drew).mono ?_; rintro e w12 ⟨rfl, rfl⟩)
          | (go_at_call 11; refine (HRef.out _).mono ?_; rintro e w13 ⟨rfl, rfl⟩)))
      go_wp2
      go_ret
      exact ⟨rfl, (Below.drew HB.out).alloc hsr _⟩

end Go.Proofs.Ytckcoleaoleadaa.Fr
