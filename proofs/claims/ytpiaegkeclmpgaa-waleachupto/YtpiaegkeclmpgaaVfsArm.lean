/-
  Package vfs: Arm: of several fates with one At the first is taken; those below 0 never come.
-/
import Derived.Test.YtpiaegkeclmpgaaVfsPower
namespace Go.Proofs.Ytpiaegkeclmpgaa.Vf
open Go.RowKit Cm
attribute [local go_sem ↓] Go.wp_at_zero Go.wp_at_succ
set_option linter.unusedVariables false

/-- The kind of the first fate at i. -/
def firstOf (fs : List (Int × Int)) (i : Int) : Option Int := if i < 0 then none else (fs.find? fun f => f.1 == i).map (·.2)
theorem firstOf_nil (i : Int) : firstOf [] i = none := by simp [firstOf]
theorem firstOf_snoc (fs : List (Int × Int)) (a k i : Int) : firstOf (fs ++ [(a, k)]) i = if (firstOf fs a).isSome = false ∧ 0 ≤ a ∧ i = a then some k else firstOf fs i := by
  unfold firstOf
  rw [List.find?_append]
  by_cases h0 : i < 0
  · rw [if_pos h0, if_pos h0, if_neg (by omega)]
  · rw [if_neg h0, if_neg h0]
    by_cases e : i = a
    · subst e
      cases h : fs.find? (fun f => f.1 == i) with
      | none => simp [h0]
      | some f => simp [h0]
    · rw [if_neg (fun h => e h.2.2)]
      have : ((a == i) = false) := by simpa using fun h => e h.symm
      cases h : fs.find? (fun f => f.1 == i) with
      | none => simp [List.find?, this]
      | some f => simp
def St.arm (s : St) (fs : List (Int × Int)) : St := { s with armed := s.acts, fates := firstOf fs }
/-- A slice of fates. -/
def FatesIn (w : World) (ao : Option Addr) (fs : List (Int × Int)) : Prop :=
  fs = [] ∨ ∃ b off, ao = some ⟨b, off, none⟩ ∧ b < w.heap.size ∧ ∀ j, j < fs.length → w.cell? ⟨b, off + j * 2, none⟩ = some (.int .i64 (fs.getD j (0, 0)).1) ∧ w.cell? ⟨b, off + j * 2 + 1, none⟩ = some (.int .i64 (fs.getD j (0, 0)).2)
/-- The arming so far. -/
structure ArmAt (w wr : World) (S : Nat → Prop) (b bm bf : Nat) (V : Lit → Option Value) (s : St) (fs : List (Int × Int)) : Prop where
  head : wr.heap[b]? = some (head { s with armed := s.acts } (some bf) bm)
  sb : S b
  sm : S bm
  ne : bf ≠ bm
  new : w.heap.size ≤ bf
  map : MapAt wr Try.prog 9 bm s.cnt V
  files : Files wr S V s.files (fun _ => False)
  fates : ∃ G, MapAt wr Try.prog 3 bf fs.length G ∧ ∀ i, G (.int .i64 i) = (firstOf fs i).map (Value.int .i64)
  chg : Chg S w wr
section
variable {w wr w' : World} {S : Nat → Prop} {b bm bf : Nat} {V : Lit → Option Value} {s : St} {fs : List (Int × Int)}
theorem ArmAt.bne (h : ArmAt w wr S b bm bf V s fs) : bf ≠ b := by
  obtain ⟨G, hG, _⟩ := h.fates
  rintro rfl
  exact hG.no_cells h.head
theorem ArmAt.keep (h : ArmAt w wr S b bm bf V s fs) (hk : ∀ k, k < wr.heap.size → w'.heap[k]? = wr.heap[k]?) (hc : Chg S wr w') : ArmAt w w' S b bm bf V s fs := by
  obtain ⟨G, hG, hGF⟩ := h.fates
  exact ⟨(hk b (lt_of_block h.head)).trans h.head, h.sb, h.sm, h.ne, h.new, h.map.keep (hk bm h.map.lt), h.files.keep (fun k _ hlt => hk k hlt), ⟨G, hG.keep (hk bf hG.lt), hGF⟩, h.chg.then hc⟩
theorem ArmAt.done (h : ArmAt w wr S b bm bf V s fs) : FSAt wr (New S w) b (s.arm fs) := by
  obtain ⟨G, hG, hGF⟩ := h.fates
  exact ⟨some bf, bm, V, h.head, .inl h.sb, .inl h.sm, .inr ⟨bf, _, rfl, h.ne, .inr h.new, G, hG, hGF⟩, h.map, h.files.mono fun k e => .inl e⟩
/-- Another fate that changes nothing. -/
theorem ArmAt.more (h : ArmAt w wr S b bm bf V s fs) (a k : Int) (hn : (firstOf fs a).isSome = true ∨ a < 0) : ArmAt w wr S b bm bf V s (fs ++ [(a, k)]) := by
  obtain ⟨G, ⟨D, hD, hV⟩, hGF⟩ := h.fates
  refine ⟨h.head, h.sb, h.sm, h.ne, h.new, h.map, h.files, ⟨G, ⟨D, hD.mono (by simp), hV⟩, fun i => ?_⟩, h.chg⟩
  rw [hGF, firstOf_snoc, if_neg]
  rintro ⟨h1, h2, _⟩
  rcases hn with q | q
  · rw [q] at h1; cases h1
  · omega
/-- A fate that is taken. -/
theorem ArmAt.take (h : ArmAt w wr S b bm bf V s fs) (a k : Int) (h1 : (firstOf fs a).isSome = false) (h2 : 0 ≤ a) (ha : a ≤ 9223372036854775807) (hl : fs.length < 9223372036854775807) :
    ∃ w3, (Instr.mapUpdate 38 (.map (some bf)) (.int .i64 a) (.int .i64 k)).run Try.prog wr = .ok () w3 ∧ ArmAt w w3 S b bm bf V s (fs ++ [(a, k)]) ∧ wr.mapTurned w3 bf := by
  have hne := h.bne
  obtain ⟨G, hG, hGF⟩ := h.fates
  have hkey : keyOf Try.prog 3 (.int .i64 a) = some (.int .i64 a) := keyOfI (by omega) ha
  obtain ⟨w3, hrun, h3, h4⟩ := hG.store (val := .int .i64 k) keyI Try.underlying38 (zeroInt wr) (by unfold maxLen; omega) hkey
  have hnone : G (.int .i64 a) = none := by
    rw [hGF]; cases e : firstOf fs a with
    | none => rfl
    | some x => rw [e] at h1; cases h1
  rw [hnone] at h3
  simp only [Option.isSome_none, Bool.false_eq_true, if_false] at h3
  have hg := h4.grown
  have hk : ∀ k, k < wr.heap.size → k ≠ bf → w3.heap[k]? = wr.heap[k]? := fun k hk hn => hg.block k hk (by simpa using hn)
  have hcells : ∀ {cs : Array Value} {t : TypeId} {fr : Nat × Nat} {k : Nat}, wr.heap[k]? = some (.cells cs t fr) → k ≠ bf := fun e e2 => by subst e2; exact hG.no_cells e
  refine ⟨w3, hrun, ⟨(hk b (lt_of_block h.head) hne.symm).trans h.head, h.sb, h.sm, h.ne, h.new, h.map.keep (hk bm h.map.lt h.ne.symm), ⟨h.files.dom, h.files.short, fun x f hs hf => ?_, h.files.apart⟩, ⟨_, by simpa using h3, fun i => ?_⟩, ?_⟩, h4⟩
  · obtain ⟨u, q1, q2, q3⟩ := h.files.some_ x f hs hf
    refine ⟨u, q1, ⟨own_keep q2.1 fun k e => hk k (q2.1.lt k e).2 ?_, q2.2⟩, q3⟩
    rcases q2.1.2 with ⟨rfl, _⟩ | ⟨g, cap, cur, rfl, _, hg', _⟩
    · simp [Value.ownBlock] at e
    · simp [Value.ownBlock] at e
      subst e
      exact hcells hg'
  · rw [firstOf_snoc]
    by_cases e : i = a
    · subst e
      rw [upd_same _ (k := .int .i64 i) trivial, if_pos ⟨h1, h2, rfl⟩]; rfl
    · rw [upd_other _ (by simpa using e), if_neg (fun q => e q.2.2), hGF]
  · exact h.chg.trans (Chg.grown hg fun k e => by cases e; exact .inr h.new)
end
theorem take_snoc (fs : List (Int × Int)) (k : Nat) (h : k < fs.length) : fs.take (k + 1) = fs.take k ++ [((fs.getD k (0, 0)).1, (fs.getD k (0, 0)).2)] := by
  rw [List.take_succ_eq_append_getElem h, getD_lt _ _ _ h]

set_option maxRecDepth 100000 in
set_option maxHeartbeats 1000000 in
theorem arm_any (S : Nat → Prop) (b : Nat) (s : St) (ao : Option Addr) (cap : Nat) (fs : List (Int × Int)) (w : World) (h : FSAt w S b s) (hc : FatesIn w ao fs) (hap : fs ≠ [] → ∀ ad, ao = some ad → ¬ S ad.block)
    (hl : fs.length ≤ 140737488355328) (hf : ∀ f ∈ fs, -9223372036854775808 ≤ f.1 ∧ f.1 ≤ 9223372036854775807) :
    Calls Try.prog 14 #[.pointer (some ⟨b, 0, none⟩), .slice ao fs.length cap] w fun e w' => e = .returned (.tuple #[]) ∧ FSAt w' (New S w) b (s.arm fs) ∧ Chg S w w' := by
  have hmm := @run_makeMap Try.prog
  obtain ⟨fo, bm, V, h1, h2, h3, h4, h5, h6⟩ := h
  have c0 : w.cell? ⟨b, 0, none⟩ = some (.int .i64 s.acts) := by rw [Joins.cell_of_block h1]; rfl
  have c1 : w.cell? ⟨b, 1, none⟩ = some (.int .i64 s.armed) := by rw [Joins.cell_of_block h1]; rfl
  have c2 : w.cell? ⟨b, 2, none⟩ = some (.map fo) := by rw [Joins.cell_of_block h1]; rfl
  have fz : ∀ i, w.frozen? ⟨b, i, none⟩ = false := fun i => by simp [World.frozen?, h1, head]
  have hlt := lt_of_block h1
  have HA : Hid (ArmAt w (((w.setCell ⟨b, 1, none⟩ (.int .i64 s.acts)).setCell ⟨b, 2, none⟩ (.map (some w.heap.size))).alloc (.map #[] 0)) S b bm w.heap.size V s []) := by
    have hb1 := Joins.block_setCell h1 (i := 1) (.int .i64 s.acts)
    have hb2 := Joins.block_setCell hb1 (i := 2) (.map (some w.heap.size))
    have hk : ∀ k, k < w.heap.size → k ≠ b → (((w.setCell ⟨b, 1, none⟩ (.int .i64 s.acts)).setCell ⟨b, 2, none⟩ (.map (some w.heap.size))).alloc (.map #[] 0)).heap[k]? = w.heap[k]? := fun k hk hn => by
      rw [Below.heap_alloc _ _ _ (by simpa [World.setCell] using hk), set_keep hn, set_keep hn]
    have hz : ((w.setCell ⟨b, 1, none⟩ (.int .i64 s.acts)).setCell ⟨b, 2, none⟩ (.map (some w.heap.size))).heap.size = w.heap.size := by simp [World.setCell]
    refine ⟨?_, h2, h3, ?_, Nat.le_refl _, h5.keep (hk bm h5.lt ?_), ⟨h6.dom, h6.short, fun x f hs hf => ?_, h6.apart⟩, ⟨fun _ => none, ?_, fun i => by rw [firstOf_nil]; rfl⟩, ?_⟩
    · rw [Below.heap_alloc _ _ _ (by rw [hz]; exact hlt), hb2]; rfl
    · have := h5.lt; omega
    · rintro rfl; exact h5.no_cells h1
    · obtain ⟨u, q1, q2, q3⟩ := h6.some_ x f hs hf
      refine ⟨u, q1, ⟨own_keep q2.1 fun k e => hk k (q2.1.lt k e).2 ?_, q2.2⟩, q3⟩
      rintro rfl
      exact row_ne q2 h1 (by simp [head]) e
    · have := MapAt.made ((w.setCell ⟨b, 1, none⟩ (.int .i64 s.acts)).setCell ⟨b, 2, none⟩ (.map (some w.heap.size))) Try.prog 3
      rw [hz] at this
      exact this
    · exact ((Chg.set _ _ _ _ h2).then (Chg.set _ _ _ _ h2)).then (Chg.alloc _ _ _)
  have HF : Hid (∀ f ∈ fs, -9223372036854775808 ≤ f.1 ∧ f.1 ≤ 9223372036854775807) := hf
  have hCk : Hid (∀ wr, Chg S w wr → FatesIn wr ao fs) := fun wr hcg => by
    rcases hc with hc | ⟨pb, off, rfl, hlt, hcell⟩
    · exact .inl hc
    · exact .inr ⟨pb, off, rfl, by have := hcg.size; omega, fun j hj => by
        have hq : ∀ o, wr.cell? ⟨pb, o, none⟩ = w.cell? ⟨pb, o, none⟩ := fun o => World.cell?_of_block (hcg.block pb hlt (hap (fun e => by rw [e] at hj; simp at hj) _ rfl))
        rw [hq, hq]; exact hcell j hj⟩
  clear h1 h2 h3 h4 h5 h6 hc hf
  go_enter Try.func14, Try.ntmps14
  go_wp2
  go_loopw [21] (fun i wr => ∃ (k : Nat), k ≤ fs.length ∧ i = .int .i64 k ∧ Hid (ArmAt w wr S b bm w.heap.size V s (fs.take k))) (fun i _ => fs.length - (intOf i).toNat)
  case atStart => exact ⟨0, by omega, rfl, HA.out⟩
  case round =>
    obtain ⟨k, hk, rfl, HW⟩ := hrel
    by_cases hlt : k < fs.length
    · rcases hCk.out wr HW.out.chg with h0 | ⟨pb, off, rfl, hbl, hcells⟩
      · subst h0; simp at hlt
      obtain ⟨k0, k1⟩ := hcells k hlt
      have HT : Hid _ := take_snoc fs k hlt
      have HR : Hid (-9223372036854775808 ≤ (fs.getD k (0, 0)).1 ∧ (fs.getD k (0, 0)).1 ≤ 9223372036854775807) := HF.out _ (by rw [getD_lt _ _ _ hlt]; exact List.getElem_mem hlt)
      generalize (fs.getD k (0, 0)).1 = at_ at *
      generalize (fs.getD k (0, 0)).2 = kd at *
      have d2 : wr.cell? ⟨b, 2, none⟩ = some (.map (some w.heap.size)) := by rw [Joins.cell_of_block HW.out.head]; rfl
      have hbw := lt_of_block HW.out.head
      have hkey : keyOf Try.prog 3 (.int .i64 at_) = some (.int .i64 at_) := keyOfI HR.out.1 HR.out.2
      obtain ⟨o, ho⟩ : ∃ o, o = Obj.cells #[.int .i64 at_, .int .i64 kd] 52 (0, 0) := ⟨_, rfl⟩
      have HW1 : Hid (∀ n, ArmAt w ((wr.alloc o).drewN n) S b bm w.heap.size V s (fs.take k)) := fun n => HW.out.keep (fun k hk => Below.heap_alloc _ _ _ hk) ((Chg.alloc _ _ _).then (Chg.drew _ _ _))
      have HG : Hid (∀ n, (Instr.lookup 38 (.map (some w.heap.size)) (.int .i64 at_) true).run Try.prog ((wr.alloc o).drewN n) = .ok (.tuple #[.int .i64 ((firstOf (fs.take k) at_).getD 0), .bool (firstOf (fs.take k) at_).isSome]) ((wr.alloc o).drewN n)) := fun n => by
        obtain ⟨G, hG, hGF⟩ := (HW1.out n).fates
        rw [hG.run_look_ok keyI Try.underlying38 (zeroInt _) hkey, hGF]
        cases firstOf (fs.take k) at_ <;> rfl
      have hlk := HG.out
      clear hcells hkey
      subst ho
      by_cases hs : (firstOf (fs.take k) at_).isSome = true
      · rw [hs] at hlk
        have HM : Hid (∀ n, ArmAt w ((wr.alloc (.cells #[.int .i64 at_, .int .i64 kd] 52)).drewN n) S b bm w.heap.size V s (fs.take (k + 1))) := fun n => by
          rw [HT.out]; exact (HW1.out n).more at_ kd (.inl hs)
        generalize (firstOf (fs.take k) at_).getD 0 = old at *
        clear HW1 HG HT hs HR
        go_wp2_with fail
        go_quiet (fail)
        go_wp2
        go_roundw
        case rel => exact ⟨k + 1, by omega, by go_num, HM.out nq⟩
        case measure => simp [intOf]; omega
      · have hs : (firstOf (fs.take k) at_).isSome = false := by simpa using hs
        rw [hs] at hlk
        by_cases ha : 0 ≤ at_
        · have HM : Hid (∀ n, ∃ w3, (Instr.mapUpdate 38 (.map (some w.heap.size)) (.int .i64 at_) (.int .i64 kd)).run Try.prog ((wr.alloc (.cells #[.int .i64 at_, .int .i64 kd] 52)).drewN n) = .ok () w3 ∧ Hid (ArmAt w w3 S b bm w.heap.size V s (fs.take (k + 1)))) := fun n => by
            obtain ⟨w3, q1, q2, q3⟩ := (HW1.out n).take at_ kd hs ha HR.out.2 (by rw [List.length_take]; omega)
            exact ⟨w3, q1, by rw [HT.out]; exact q2⟩
          generalize (firstOf (fs.take k) at_).getD 0 = old at *
          clear HW1 HG HT hs HR
          go_wp2_with fail
          go_quiet (fail)
          obtain ⟨F, hF⟩ := Classical.axiomOfChoice HM.out
          have hup := fun n => (hF n).1
          have HU : Hid _ := fun n => (hF n).2.out
          clear hF HM
          go_wp2_with fail
          go_region
          go_wp2
          go_roundw
          case rel => exact ⟨k + 1, by omega, by go_num, HU.out _⟩
          case measure => simp [intOf]; omega
        · have HM : Hid (∀ n, ArmAt w ((wr.alloc (.cells #[.int .i64 at_, .int .i64 kd] 52)).drewN n) S b bm w.heap.size V s (fs.take (k + 1))) := fun n => by
            rw [HT.out]; exact (HW1.out n).more at_ kd (.inr (by omega))
          have hd : decide (0 ≤ at_) = false := decide_eq_false ha
          generalize (firstOf (fs.take k) at_).getD 0 = old at *
          clear HW1 HG HT hs HR
          go_wp2_with fail
          go_quiet (fail)
          go_wp2
          go_roundw
          case rel => exact ⟨k + 1, by omega, by go_num, HM.out nq⟩
          case measure => simp [intOf]; omega
    · obtain rfl : k = fs.length := by omega
      have hD := HW.out.done
      rw [List.take_length] at hD
      have HD : Hid _ := hD
      clear hD
      go_wp2
      go_end0
      exact ⟨rfl, HD.out, HW.out.chg⟩
end Go.Proofs.Ytpiaegkeclmpgaa.Vf
