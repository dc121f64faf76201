/-
  Package manifest: an edit in memory; whether it is right; whether a shelf has a number.
-/
import Derived.Test.YtjfanbemihheiaaDoorQManPut
namespace Go.Proofs.YtjfanbemihheiaaDoor.Ma
open Go.RowKit Cm
set_option linter.unusedVariables false

/-- Numbers in a slice that lies outside S. -/
def FarNums (w : World) (S : Nat → Prop) (ao : Option Addr) (ns : List Int) : Prop :=
  ns = [] ∨ ∃ b off, ao = some ⟨b, off, none⟩ ∧ b < w.heap.size ∧ ¬ S b ∧ ∀ i (h : i < ns.length), w.cell? ⟨b, off + i, none⟩ = some (.int .i64 ns[i])
theorem FarNums.of {w : World} {S : Nat → Prop} {ao : Option Addr} {ns : List Int} (h : CellsAt w ao (ns.map (Value.int .i64))) (hS : ∀ a, ao = some a → ¬ S a.block) : FarNums w S ao ns := by
  rcases h with h | ⟨b, off, rfl, hlt, hc⟩
  · exact .inl (by simpa using h)
  · exact .inr ⟨b, off, rfl, hlt, hS _ rfl, fun i hi => by rw [hc i (by simpa using hi)]; simp [hi]⟩
theorem FarNums.keep {w w' : World} {S : Nat → Prop} {ao : Option Addr} {ns : List Int} (h : FarNums w S ao ns) (hk : ∀ k, k < w.heap.size → ¬ S k → w'.heap[k]? = w.heap[k]?) (hs : w.heap.size ≤ w'.heap.size) : FarNums w' S ao ns := by
  rcases h with h | ⟨b, off, rfl, hlt, hn, hc⟩
  · exact .inl h
  · exact .inr ⟨b, off, rfl, by omega, hn, fun i hi => (World.cell?_of_block (hk b hlt hn)).trans (hc i hi)⟩
theorem FarNums.get {w wr : World} {S : Nat → Prop} {ao : Option Addr} {ns : List Int} (h : FarNums w S ao ns) (hc : Chg S w wr) {k : Nat} (hk : k < ns.length) : ∃ b off, ao = some ⟨b, off, none⟩ ∧ wr.cell? ⟨b, off + k, none⟩ = some (.int .i64 (ns.getD k 0)) := by
  rw [getD_lt _ _ _ hk]
  rcases h.keep hc.block hc.size with rfl | ⟨b, off, rfl, _, _, hcell⟩
  · simp at hk
  · exact ⟨b, off, rfl, hcell k hk⟩
theorem FarNums.cells {w : World} {S : Nat → Prop} {ao : Option Addr} {ns : List Int} (h : FarNums w S ao ns) : CellsAt w ao (ns.map (Value.int .i64)) := by
  rcases h with rfl | ⟨b, off, rfl, hlt, _, hc⟩
  · exact .inl rfl
  · exact .inr ⟨b, off, rfl, hlt, fun j hj => by rw [hc j (by simpa using hj), List.getElem?_map, List.getElem?_eq_getElem (by simpa using hj)]; rfl⟩
theorem FarNums.less {w : World} {S T : Nat → Prop} {ao : Option Addr} {ns : List Int} (h : FarNums w S ao ns) (hs : ∀ k, T k → S k) : FarNums w T ao ns := by
  rcases h with h | ⟨b, off, h1, h2, h3, h4⟩
  · exact .inl h
  · exact .inr ⟨b, off, h1, h2, fun e => h3 (hs _ e), h4⟩
theorem FarFiles.less {w : World} {S T : Nat → Prop} {ao : Option Addr} {fs : List Fi} (h : FarFiles w S ao fs) (hs : ∀ k, T k → S k) : FarFiles w T ao fs := by
  rcases h with h | ⟨b, off, h1, h2, h3, h4⟩
  · exact .inl h
  · exact .inr ⟨b, off, h1, h2, fun e => h3 (hs _ e), h4⟩
def edV (a d : Value) (e : Ed) : Value := .agg #[a, d, .int .i64 e.wal, .int .i64 e.next, .int .i64 e.seq]
def edObj (a d : Value) (e : Ed) : Obj := .cells #[a, d, .int .i64 e.wal, .int .i64 e.next, .int .i64 e.seq] 36 (0, 0)
theorem ed_cells {w : World} {g : Nat} {a d : Value} {e : Ed} (h : w.heap[g]? = some (edObj a d e)) : w.cell? ⟨g, 0, none⟩ = some a ∧ w.cell? ⟨g, 1, none⟩ = some d ∧ w.cell? ⟨g, 2, none⟩ = some (.int .i64 e.wal) ∧ w.cell? ⟨g, 3, none⟩ = some (.int .i64 e.next) ∧ w.cell? ⟨g, 4, none⟩ = some (.int .i64 e.seq) := by
  refine ⟨?_, ?_, ?_, ?_, ?_⟩ <;> rw [Joins.cell_of_block h] <;> rfl
/-- An edit whose slices lie outside S. -/
structure EdAt (w : World) (S : Nat → Prop) (aa : Option Addr) (ca : Nat) (ad : Option Addr) (cd : Nat) (e : Ed) : Prop where
  add : FarFiles w S aa e.add
  del : FarNums w S ad e.del
  na : aa = none → ca = 0
  nd : ad = none → cd = 0
  okA : ∀ f ∈ e.add, OkF f
  okD : ∀ n ∈ e.del, OkI n
  few : e.add.length + e.del.length ≤ 100000000000
theorem EdAt.keep {w w' : World} {S : Nat → Prop} {aa ad : Option Addr} {ca cd : Nat} {e : Ed} (h : EdAt w S aa ca ad cd e) (hk : ∀ k, k < w.heap.size → ¬ S k → w'.heap[k]? = w.heap[k]?) (hs : w.heap.size ≤ w'.heap.size) : EdAt w' S aa ca ad cd e :=
  ⟨h.add.keep hk hs, h.del.keep hk hs, h.na, h.nd, h.okA, h.okD, h.few⟩
theorem EdAt.less {w : World} {S T : Nat → Prop} {aa ad : Option Addr} {ca cd : Nat} {e : Ed} (h : EdAt w S aa ca ad cd e) (hs : ∀ k, T k → S k) : EdAt w T aa ca ad cd e :=
  ⟨h.add.less hs, h.del.less hs, h.na, h.nd, h.okA, h.okD, h.few⟩

theorem all_snoc {α : Type} {p : α → Bool} {xs : List α} {k : Nat} {d : α} (hk : k < xs.length) (h : (xs.take k).all p = true) (hp : p (xs.getD k d) = true) : (xs.take (k + 1)).all p = true := by
  rw [take_at hk (d := d), List.all_append, h, Bool.true_and]
  simpa using hp
theorem all_not {α : Type} {p : α → Bool} {xs : List α} {k : Nat} {d : α} (hk : k < xs.length) (hp : p (xs.getD k d) = false) : xs.all p = false := by
  rw [getD_lt _ _ _ hk] at hp
  rw [List.all_eq_false]
  exact ⟨_, List.getElem_mem hk, by rw [hp]; simp⟩
theorem right_not1 {e : Ed} (h : e.add.all rightF = false) : right e = false := by unfold right; rw [h]; rfl
theorem right_not2 {e : Ed} (h : e.del.all (fun n => decide (1 ≤ n)) = false) : right e = false := by unfold right; rw [h, Bool.and_false]; rfl
theorem right_is {e : Ed} (h1 : e.add.all rightF = true) (h2 : e.del.all (fun n => decide (1 ≤ n)) = true) : right e = (decide (0 ≤ e.wal) && decide (0 ≤ e.next) && decide (0 ≤ e.seq)) := by unfold right; rw [h1, h2]; rfl

set_option maxRecDepth 100000 in
set_option maxHeartbeats 2000000 in
theorem right_any (aa : Option Addr) (ca : Nat) (ad : Option Addr) (cd : Nat) (e : Ed) (w : World) (h : EdAt w (fun _ => False) aa ca ad cd e) :
    Calls Tryd.prog 20 #[edV (.slice aa e.add.length ca) (.slice ad e.del.length cd) e] w fun x w' => x = .returned (.bool (right e)) ∧ Below w.heap.size w w' := by
  obtain ⟨m, hm⟩ : ∃ m, m = e.add.length := ⟨_, rfl⟩
  obtain ⟨n, hn⟩ : ∃ n, n = e.del.length := ⟨_, rfl⟩
  have hfew := h.few
  have HM : Hid (m = e.add.length) := hm
  have HN : Hid (n = e.del.length) := hn
  rw [← hm, ← hn] at hfew ⊢
  have HA : Hid (FarFiles w (fun _ => False) aa e.add) := h.add
  have HD : Hid (FarNums w (fun _ => False) ad e.del) := h.del
  clear h hm hn
  unfold edV
  go_enter Tryd.func20, Tryd.ntmps20
  go_wp2
  go_loopw [10] (fun i wr => ∃ k : Nat, k ≤ m ∧ i = .int .i64 k ∧ Hid ((e.add.take k).all rightF = true) ∧ Hid (Below w.heap.size w wr) ∧ Hid (wr.heap[w.heap.size]? = some (edObj (.slice aa m ca) (.slice ad n cd) e))) (fun i _ => m - (intOf i).toNat)
  case atStart => exact ⟨0, by omega, rfl, by simp [Hid], (Below.refl _ _).alloc (Nat.le_refl _) _, heap_alloc_new w _⟩
  case round =>
    obtain ⟨k, hk, rfl, HR, HB, HO⟩ := hrel
    by_cases hlt : k < m
    · obtain ⟨b, off, rfl, e0, e1⟩ := HA.out.get (Chg.of_below HB.out) (k := k) (by have := HM.out; omega)
      have HS : Hid (∀ _ : rightF (e.add.getD k (0, 0)) = true, (e.add.take (k + 1)).all rightF = true) := fun h => all_snoc (by have := HM.out; omega) HR.out h
      have HNo : Hid (∀ _ : rightF (e.add.getD k (0, 0)) = false, right e = false) := fun h => right_not1 (all_not (by have := HM.out; omega) h)
      generalize e.add.getD k (0, 0) = f at *
      have hsz := HB.out.size
      by_cases h0 : f.1 < 0
      · have HF : Hid (right e = false) := HNo.out (by unfold rightF; simp; omega)
        clear HS HNo
        go_wp2
        go_ret
        exact ⟨by rw [HF.out]; rfl, HB.out.alloc (by omega) _⟩
      · by_cases h1 : 1 < f.1
        · have HF : Hid (right e = false) := HNo.out (by unfold rightF; simp; omega)
          clear HS HNo
          go_wp2
          go_ret
          exact ⟨by rw [HF.out]; rfl, HB.out.alloc (by omega) _⟩
        · by_cases h2 : f.2 < 1
          · have HF : Hid (right e = false) := HNo.out (by unfold rightF; simp; omega)
            clear HS HNo
            go_wp2
            go_ret
            exact ⟨by rw [HF.out]; rfl, HB.out.alloc (by omega) _⟩
          · have HS1 : Hid ((e.add.take (k + 1)).all rightF = true) := HS.out (by unfold rightF; simp; omega)
            have HB1 : Hid (Below w.heap.size w (wr.alloc (.cells #[.int .i64 f.1, .int .i64 f.2] 28))) := HB.out.alloc (by omega) _
            have HO1 : Hid ((wr.alloc (.cells #[.int .i64 f.1, .int .i64 f.2] 28)).heap[w.heap.size]? = some (edObj (.slice (some ⟨b, off, none⟩) m ca) (.slice ad n cd) e)) := (Below.heap_alloc _ _ _ (lt_of_block HO.out)).trans HO.out
            clear HS HNo
            go_wp2
            go_roundw
            case rel => exact ⟨k + 1, by omega, by go_num, HS1.out, HB1.out, HO1.out⟩
            case measure => simp [intOf]; omega
    · obtain rfl : k = m := by omega
      have HAll : Hid (e.add.all rightF = true) := by have := HR.out; rw [HM.out, List.take_length] at this; exact this
      obtain ⟨o0, o1, o2, o3, o4⟩ := ed_cells HO.out
      clear HR
      go_wp2
      generalize wr = X at *
      have hX := HB.out.size
      go_loop [31] (fun i => ∃ j : Nat, j ≤ n ∧ i = .int .i64 j ∧ Hid ((e.del.take j).all (fun n => decide (1 ≤ n)) = true)) (fun i => n - (intOf i).toNat)
      case atStart => exact ⟨0, by omega, rfl, by simp [Hid]⟩
      case round =>
        obtain ⟨j, hj, rfl, HR⟩ := hrel
        by_cases hlt : j < n
        · obtain ⟨b, off, rfl, e0⟩ := HD.out.get (Chg.of_below HB.out) (k := j) (by have := HN.out; omega)
          have HS : Hid (∀ _ : decide (1 ≤ e.del.getD j 0) = true, (e.del.take (j + 1)).all (fun n => decide (1 ≤ n)) = true) := fun h => all_snoc (by have := HN.out; omega) HR.out h
          have HNo : Hid (∀ _ : decide (1 ≤ e.del.getD j 0) = false, right e = false) := fun h => right_not2 (all_not (d := 0) (by have := HN.out; omega) h)
          generalize e.del.getD j 0 = z at *
          by_cases h0 : z < 1
          · have HF : Hid (right e = false) := HNo.out (by simp; omega)
            clear HS HNo
            go_wp2
            go_ret
            exact ⟨by rw [HF.out]; rfl, HB.out⟩
          · have HS1 : Hid ((e.del.take (j + 1)).all (fun n => decide (1 ≤ n)) = true) := HS.out (by simp; omega)
            clear HS HNo
            go_wp2
            go_round
            case rel => exact ⟨j + 1, by omega, by go_num, HS1.out⟩
            case measure => simp [intOf]; omega
        · obtain rfl : j = n := by omega
          have HAll2 : Hid (e.del.all (fun n => decide (1 ≤ n)) = true) := by have := HR.out; rw [HN.out, List.take_length] at this; exact this
          have HF : Hid (right e = (decide (0 ≤ e.wal) && decide (0 ≤ e.next) && decide (0 ≤ e.seq))) := right_is HAll.out HAll2.out
          clear HR hlt
          by_cases h1 : 0 ≤ e.wal
          · by_cases h2 : 0 ≤ e.next
            · by_cases h3 : 0 ≤ e.seq
              · go_wp2
                go_ret
                exact ⟨by rw [HF.out]; simp [h1, h2, h3], HB.out⟩
              · go_wp2
                go_ret
                exact ⟨by rw [HF.out]; simp [h1, h2, h3], HB.out⟩
            · go_wp2
              go_ret
              exact ⟨by rw [HF.out]; simp; omega, HB.out⟩
          · go_wp2
            go_ret
            exact ⟨by rw [HF.out]; simp; omega, HB.out⟩

/-! ### Whether a shelf has a number -/
set_option maxRecDepth 100000 in
theorem has_any (S : Nat → Prop) (q : Nat) (v : Ve) (c : Nat) (n : Int) (w : World) (h : ShelfAt w S q v c) (hn : OkI n) :
    Calls Tryd.prog 34 #[.pointer (some ⟨q, 0, none⟩), .int .i64 n] w fun x w' => x = .returned (.bool (hasN v.files n)) ∧ w' = w := by
  obtain ⟨bm, V, hP⟩ := h
  have c0 := hP.cells.1
  obtain ⟨ao, cap, hu, _, _⟩ := row_form (hP.row n)
  have hlk := hP.look hn
  rw [hu] at hlk
  have HF : Hid (hasN v.files n = decide (0 < (grp v.files n).length)) := grp_has _ _
  clear hP hu
  rw [HF.out]
  generalize (grp v.files n).length = l at *
  go_enter Tryd.func34, Tryd.ntmps34
  go_wp2
  go_ret
  exact ⟨by simp, rfl⟩
end Go.Proofs.YtjfanbemihheiaaDoor.Ma
