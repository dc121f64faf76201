/-
  The reference: is an edit right; has a list a number; does a number stand in a list just once.
-/
import Derived.Test.YtjfanbemihheiaaDoorQManRight
namespace Go.Proofs.YtjfanbemihheiaaDoor.Ma
open Go.RowKit Cm
set_option linter.unusedVariables false

set_option maxRecDepth 100000 in
set_option maxHeartbeats 2000000 in
theorem rightR_any (aa : Option Addr) (ca : Nat) (ad : Option Addr) (cd : Nat) (e : Ed) (w : World) (h : EdAt w (fun _ => False) aa ca ad cd e) :
    Calls Tryd.prog 30 #[edV (.slice aa e.add.length ca) (.slice ad e.del.length cd) e] w fun x w' => x = .returned (.bool (right e)) ∧ Below w.heap.size w w' := by
  obtain ⟨m, hm⟩ : ∃ m, m = e.add.length := ⟨_, rfl⟩
  obtain ⟨n, hn⟩ : ∃ n, n = e.del.length := ⟨_, rfl⟩
  have hfew := h.few
  have HM : Hid (m = e.add.length) := hm
  have HN : Hid (n = e.del.length) := hn
  rw [← hm, ← hn] at hfew ⊢
  have HA : Hid (FarFiles w (fun _ => False) aa e.add) := h.add
  have HD : Hid (FarNums w (fun _ => False) ad e.del) := h.del
  clear h hm hn
  unfold edV
  go_enter Tryd.func30, Tryd.ntmps30
  go_wp2
  go_loopw [10] (fun i wr => ∃ k : Nat, k ≤ m ∧ i = .int .i64 k ∧ Hid ((e.add.take k).all rightF = true) ∧ Hid (Below w.heap.size w wr) ∧ Hid (wr.heap[w.heap.size]? = some (edObj (.slice aa m ca) (.slice ad n cd) e))) (fun i _ => m - (intOf i).toNat)
  case atStart => exact ⟨0, by omega, rfl, by simp [Hid], (Below.refl _ _).alloc (Nat.le_refl _) _, heap_alloc_new w _⟩
  case round =>
    obtain ⟨k, hk, rfl, HR, HB, HO⟩ := hrel
    by_cases hlt : k < m
    · obtain ⟨b, off, rfl, e0, e1⟩ := HA.out.get (Chg.of_below HB.out) (k := k) (by have := HM.out; omega)
      have HS : Hid (∀ _ : rightF (e.add.getD k (0, 0)) = true, (e.add.take (k + 1)).all rightF = true) := fun h => all_snoc (by have := HM.out; omega) HR.out h
      have HNo : Hid (∀ _ : rightF (e.add.getD k (0, 0)) = false, right e = false) := fun h => right_not1 (all_not (by have := HM.out; omega) h)
      generalize e.add.getD k (0, 0) = f at *
      have hsz := HB.out.size
      by_cases h2 : f.2 < 1
      · have HF : Hid (right e = false) := HNo.out (by unfold rightF; simp; omega)
        clear HS HNo
        go_wp2
        go_ret
        exact ⟨by rw [HF.out]; rfl, HB.out.alloc (by omega) _⟩
      · by_cases h0 : f.1 < 0
        · have HF : Hid (right e = false) := HNo.out (by unfold rightF; simp; omega)
          clear HS HNo
          go_wp2
          go_ret
          exact ⟨by rw [HF.out]; rfl, HB.out.alloc (by omega) _⟩
        · by_cases h1 : 1 < f.1
          · have HF : Hid (right e = false) := HNo.out (by unfold rightF; simp; omega)
            clear HS HNo
            go_wp2
            go_ret
            exact ⟨by rw [HF.out]; rfl, HB.out.alloc (by omega) _⟩
          · have HS1 : Hid ((e.add.take (k + 1)).all rightF = true) := HS.out (by unfold rightF; simp; omega)
            have HB1 : Hid (Below w.heap.size w (wr.alloc (.cells #[.int .i64 f.1, .int .i64 f.2] 28))) := HB.out.alloc (by omega) _
            have HO1 : Hid ((wr.alloc (.cells #[.int .i64 f.1, .int .i64 f.2] 28)).heap[w.heap.size]? = some (edObj (.slice (some ⟨b, off, none⟩) m ca) (.slice ad n cd) e)) := (Below.heap_alloc _ _ _ (lt_of_block HO.out)).trans HO.out
            clear HS HNo
            go_wp2
            go_roundw
            case rel => exact ⟨k + 1, by omega, by go_num, HS1.out, HB1.out, HO1.out⟩
            case measure => simp [intOf]; omega
    · obtain rfl : k = m := by omega
      have HAll : Hid (e.add.all rightF = true) := by have := HR.out; rw [HM.out, List.take_length] at this; exact this
      obtain ⟨o0, o1, o2, o3, o4⟩ := ed_cells HO.out
      clear HR
      go_wp2
      generalize wr = X at *
      have hX := HB.out.size
      go_loop [31] (fun i => ∃ j : Nat, j ≤ n ∧ i = .int .i64 j ∧ Hid ((e.del.take j).all (fun n => decide (1 ≤ n)) = true)) (fun i => n - (intOf i).toNat)
      case atStart => exact ⟨0, by omega, rfl, by simp [Hid]⟩
      case round =>
        obtain ⟨j, hj, rfl, HR⟩ := hrel
        by_cases hlt : j < n
        · obtain ⟨b, off, rfl, e0⟩ := HD.out.get (Chg.of_below HB.out) (k := j) (by have := HN.out; omega)
          have HS : Hid (∀ _ : decide (1 ≤ e.del.getD j 0) = true, (e.del.take (j + 1)).all (fun n => decide (1 ≤ n)) = true) := fun h => all_snoc (by have := HN.out; omega) HR.out h
          have HNo : Hid (∀ _ : decide (1 ≤ e.del.getD j 0) = false, right e = false) := fun h => right_not2 (all_not (d := 0) (by have := HN.out; omega) h)
          generalize e.del.getD j 0 = z at *
          by_cases h0 : z < 1
          · have HF : Hid (right e = false) := HNo.out (by simp; omega)
            clear HS HNo
            go_wp2
            go_ret
            exact ⟨by rw [HF.out]; rfl, HB.out⟩
          · have HS1 : Hid ((e.del.take (j + 1)).all (fun n => decide (1 ≤ n)) = true) := HS.out (by simp; omega)
            clear HS HNo
            go_wp2
            go_round
            case rel => exact ⟨j + 1, by omega, by go_num, HS1.out⟩
            case measure => simp [intOf]; omega
        · obtain rfl : j = n := by omega
          have HAll2 : Hid (e.del.all (fun n => decide (1 ≤ n)) = true) := by have := HR.out; rw [HN.out, List.take_length] at this; exact this
          have HF : Hid (right e = (decide (0 ≤ e.wal) && decide (0 ≤ e.next) && decide (0 ≤ e.seq))) := right_is HAll.out HAll2.out
          clear HR hlt
          by_cases h1 : 0 ≤ e.wal
          · by_cases h2 : 0 ≤ e.next
            · by_cases h3 : 0 ≤ e.seq
              · go_wp2
                go_ret
                exact ⟨by rw [HF.out]; simp [h1, h2, h3], HB.out⟩
              · go_wp2
                go_ret
                exact ⟨by rw [HF.out]; simp [h1, h2, h3], HB.out⟩
            · go_wp2
              go_ret
              exact ⟨by rw [HF.out]; simp; omega, HB.out⟩
          · go_wp2
            go_ret
            exact ⟨by rw [HF.out]; simp; omega, HB.out⟩

theorem fi_cells {w : World} {ao : Option Addr} {xs : List Fi} (h : ElemsAt fiShape w ao xs) {k : Nat} (hk : k < xs.length) : ∃ b off, ao = some ⟨b, off, none⟩ ∧ w.cell? ⟨b, off + k * 2, none⟩ = some (.int .i64 (xs.getD k (0, 0)).1) ∧ w.cell? ⟨b, off + k * 2 + 1, none⟩ = some (.int .i64 (xs.getD k (0, 0)).2) := by
  rw [getD_lt _ _ _ hk]
  rcases h with rfl | ⟨b, off, rfl, _, hc⟩
  · simp at hk
  · exact ⟨b, off, rfl, hc k hk 0 _ rfl, hc k hk 1 _ rfl⟩
theorem hasN_snoc {l : List Fi} {k : Nat} {n : Int} (hk : k < l.length) (h : hasN (l.take k) n = false) (hz : (l.getD k (0, 0)).2 ≠ n) : hasN (l.take (k + 1)) n = false := by
  rw [take_at hk (d := (0, 0))]
  unfold hasN at *
  rw [List.any_append, h]
  simpa using hz
theorem hasN_at {l : List Fi} {k : Nat} {n : Int} (hk : k < l.length) (hz : (l.getD k (0, 0)).2 = n) : hasN l n = true := by
  rw [getD_lt _ _ _ hk] at hz
  exact hasN_true.2 ⟨_, List.getElem_mem hk, hz⟩
set_option maxRecDepth 100000 in
set_option maxHeartbeats 1000000 in
theorem hasR_any (ao : Option Addr) (ca : Nat) (l : List Fi) (n : Int) (w : World) (h : ElemsAt fiShape w ao l) (hl : l.length ≤ 1000000000000) :
    Calls Tryd.prog 32 #[.slice ao l.length ca, .int .i64 n] w fun x w' => x = .returned (.bool (hasN l n)) ∧ Below w.heap.size w w' := by
  obtain ⟨m, hm⟩ : ∃ m, m = l.length := ⟨_, rfl⟩
  have HM : Hid (m = l.length) := hm
  rw [← hm] at hl ⊢
  have HE : Hid (ElemsAt fiShape w ao l) := h
  clear h hm
  go_enter Tryd.func32, Tryd.ntmps32
  go_wp2
  go_loopw [9] (fun i wr => ∃ k : Nat, k ≤ m ∧ i = .int .i64 k ∧ Hid (hasN (l.take k) n = false) ∧ Hid (Below w.heap.size w wr)) (fun i _ => m - (intOf i).toNat)
  case atStart => exact ⟨0, by omega, rfl, by simp [Hid, hasN], Below.refl _ _⟩
  case round =>
    obtain ⟨k, hk, rfl, HN, HB⟩ := hrel
    by_cases hlt : k < m
    · obtain ⟨b, off, rfl, e0, e1⟩ := fi_cells (HE.out.later HB.out) (k := k) (by have := HM.out; omega)
      have hkl : k < l.length := by have := HM.out; omega
      have HY : Hid ((l.getD k (0, 0)).2 = n → hasN l n = true) := fun h => hasN_at hkl h
      have HZ : Hid ((l.getD k (0, 0)).2 ≠ n → hasN (l.take (k + 1)) n = false) := fun h => hasN_snoc hkl HN.out h
      clear hkl
      generalize l.getD k (0, 0) = f at *
      have HB1 : Hid (Below w.heap.size w (wr.alloc (.cells #[.int .i64 f.1, .int .i64 f.2] 28))) := HB.out.alloc HB.out.size _
      by_cases h0 : f.2 = n
      · have HF : Hid (hasN l n = true) := HY.out h0
        clear HY HZ
        subst h0
        go_wp2
        go_ret
        exact ⟨by rw [HF.out]; rfl, HB1.out⟩
      · have HF : Hid (hasN (l.take (k + 1)) n = false) := HZ.out h0
        clear HY HZ
        go_wp2
        go_roundw
        case rel => exact ⟨k + 1, by omega, by go_num, HF.out, HB1.out⟩
        case measure => simp [intOf]; omega
    · obtain rfl : k = m := by omega
      have HF : Hid (hasN l n = false) := by have := HN.out; rw [HM.out, List.take_length] at this; exact this
      clear HN
      go_wp2
      go_ret
      exact ⟨by rw [HF.out]; rfl, HB.out⟩
theorem count_snoc {d : List Int} {k : Nat} {n : Int} (hk : k < d.length) : (d.take (k + 1)).count n = (d.take k).count n + (if d.getD k 0 = n then 1 else 0) := by
  rw [take_at hk (d := 0), List.count_append, List.count_singleton]
  by_cases h : d.getD k 0 = n
  · simp
  · simp
theorem nums_cells {w : World} {ao : Option Addr} {ns : List Int} (h : CellsAt w ao (ns.map (Value.int .i64))) {k : Nat} (hk : k < ns.length) : ∃ b off, ao = some ⟨b, off, none⟩ ∧ w.cell? ⟨b, off + k, none⟩ = some (.int .i64 (ns.getD k 0)) := by
  rw [getD_lt _ _ _ hk]
  rcases h with h | ⟨b, off, rfl, _, hc⟩
  · have : ns = [] := by simpa using h
    subst this; simp at hk
  · exact ⟨b, off, rfl, by rw [hc k (by simpa using hk)]; simp [hk]⟩
set_option maxRecDepth 100000 in
set_option maxHeartbeats 1000000 in
theorem onceR_any (ao : Option Addr) (ca : Nat) (d : List Int) (n : Int) (w : World) (h : CellsAt w ao (d.map (Value.int .i64))) (hl : d.length ≤ 1000000000000) :
    Calls Tryd.prog 31 #[.slice ao d.length ca, .int .i64 n] w fun x w' => x = .returned (.bool (decide (d.count n = 1))) ∧ w' = w := by
  obtain ⟨m, hm⟩ : ∃ m, m = d.length := ⟨_, rfl⟩
  have HM : Hid (m = d.length) := hm
  rw [← hm] at hl ⊢
  have HE : Hid (CellsAt w ao (d.map (Value.int .i64))) := h
  clear h hm
  go_enter Tryd.func31, Tryd.ntmps31
  go_wp2
  go_loop [5, 10] (fun c i => ∃ k z : Nat, k ≤ m ∧ i = .int .i64 k ∧ c = .int .i64 z ∧ z ≤ k ∧ Hid ((d.take k).count n = z)) (fun _ i => m - (intOf i).toNat)
  case atStart => exact ⟨0, 0, by omega, rfl, rfl, by omega, by simp [Hid]⟩
  case round =>
    obtain ⟨k, z, hk, rfl, rfl, hz, HC⟩ := hrel
    by_cases hlt : k < m
    · obtain ⟨b, off, rfl, e0⟩ := nums_cells HE.out (k := k) (by have := HM.out; omega)
      have HN : Hid ((d.take (k + 1)).count n = z + (if d.getD k 0 = n then 1 else 0)) := by show _ = _; rw [count_snoc (by have := HM.out; omega), HC.out]
      generalize d.getD k 0 = f at *
      by_cases h0 : f = n
      · have HF : Hid ((d.take (k + 1)).count n = z + 1) := by have := HN.out; rw [if_pos h0] at this; exact this
        clear HN HC
        go_wp2
        go_round
        case rel => exact ⟨k + 1, z + 1, by omega, by go_num, by go_num, by omega, HF.out⟩
        case measure => simp [intOf]; omega
      · have HF : Hid ((d.take (k + 1)).count n = z) := by have := HN.out; rw [if_neg h0] at this; exact this
        clear HN HC
        go_wp2
        go_round
        case rel => exact ⟨k + 1, z, by omega, by go_num, by go_num, by omega, HF.out⟩
        case measure => simp [intOf]; omega
    · obtain rfl : k = m := by omega
      have HF : Hid (d.count n = z) := by have := HC.out; rw [HM.out, List.take_length] at this; exact this
      clear HC
      by_cases h1 : z = 1
      · subst h1
        go_wp2
        go_ret
        exact ⟨by rw [HF.out]; rfl, rfl⟩
      · have h1' : ((z : Int) == 1) = false := by simpa using fun e => h1 (by omega)
        go_wp2
        go_ret
        exact ⟨by rw [HF.out]; simp [h1], rfl⟩
end Go.Proofs.YtjfanbemihheiaaDoor.Ma
