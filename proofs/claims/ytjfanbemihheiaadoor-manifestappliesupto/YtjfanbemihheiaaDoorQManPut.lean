/-
  Package manifest: files put on a shelf.
-/
import Derived.Test.YtjfanbemihheiaaDoorQManHeap
import Derived.Deep.RegionHeld3
import Derived.Deep.AppendLies
import Derived.Deep.DrawnRows
namespace Go.Proofs.YtjfanbemihheiaaDoor.Ma
open Go.RowKit Cm
attribute [local go_sem ↓] Go.wp_at_zero Go.wp_at_succ
set_option linter.unusedVariables false

def fiObj (f : Fi) : Obj := .cells #[.int .i64 f.1, .int .i64 f.2] 28 (0, 0)
/-- Files in a slice that lies outside S. -/
def FarFiles (w : World) (S : Nat → Prop) (ao : Option Addr) (fs : List Fi) : Prop :=
  fs = [] ∨ ∃ b off, ao = some ⟨b, off, none⟩ ∧ b < w.heap.size ∧ ¬ S b ∧ ∀ i (h : i < fs.length), w.cell? ⟨b, off + i * 2, none⟩ = some (.int .i64 fs[i].1) ∧ w.cell? ⟨b, off + i * 2 + 1, none⟩ = some (.int .i64 fs[i].2)
theorem FarFiles.of {w : World} {S : Nat → Prop} {ao : Option Addr} {fs : List Fi} (h : ElemsAt fiShape w ao fs) (hS : ∀ a, ao = some a → ¬ S a.block) : FarFiles w S ao fs := by
  rcases h with h | ⟨b, off, rfl, hlt, hc⟩
  · exact .inl h
  · exact .inr ⟨b, off, rfl, hlt, hS _ rfl, fun i hi => ⟨hc i hi 0 _ rfl, hc i hi 1 _ rfl⟩⟩
theorem FarFiles.keep {w w' : World} {S : Nat → Prop} {ao : Option Addr} {fs : List Fi} (h : FarFiles w S ao fs) (hk : ∀ k, k < w.heap.size → ¬ S k → w'.heap[k]? = w.heap[k]?) (hs : w.heap.size ≤ w'.heap.size) : FarFiles w' S ao fs := by
  rcases h with h | ⟨b, off, rfl, hlt, hn, hc⟩
  · exact .inl h
  · refine .inr ⟨b, off, rfl, by omega, hn, fun i hi => ?_⟩
    have hq : ∀ o, w'.cell? ⟨b, o, none⟩ = w.cell? ⟨b, o, none⟩ := fun o => World.cell?_of_block (hk b hlt hn)
    rw [hq, hq]
    exact hc i hi
theorem FarFiles.get {w wr : World} {S : Nat → Prop} {ao : Option Addr} {fs : List Fi} (h : FarFiles w S ao fs) (hc : Chg S w wr) {k : Nat} (hk : k < fs.length) :
    ∃ b off, ao = some ⟨b, off, none⟩ ∧ wr.cell? ⟨b, off + k * 2, none⟩ = some (.int .i64 (fs.getD k (0, 0)).1) ∧ wr.cell? ⟨b, off + k * 2 + 1, none⟩ = some (.int .i64 (fs.getD k (0, 0)).2) := by
  rw [getD_lt _ _ _ hk]
  rcases h.keep hc.block hc.size with rfl | ⟨b, off, rfl, _, _, hcell⟩
  · simp at hk
  · exact ⟨b, off, rfl, hcell k hk⟩
theorem take_at {α : Type} {xs : List α} {k : Nat} {d : α} (h : k < xs.length) : xs.take (k + 1) = xs.take k ++ [xs.getD k d] := by rw [getD_lt _ _ _ h]; exact List.take_succ_eq_append_getElem h

theorem lies_at {v : Value} {g n cap H : Nat} (h : v.ownBlock = some g ∨ g = H) : (Value.slice (some ⟨g, 0, none⟩) n cap).ownBlock = v.ownBlock ∨ (Value.slice (some ⟨g, 0, none⟩) n cap).ownBlock = some H := by
  rcases h with h | h
  · exact .inl h.symm
  · exact .inr (by rw [h]; rfl)

set_option maxRecDepth 100000 in
set_option maxHeartbeats 2000000 in
theorem put_any (S : Nat → Prop) (q : Nat) (v : Ve) (c : Nat) (ao : Option Addr) (cap : Nat) (fs : List Fi) (w : World) (h : ShelfAt w S q v c) (he : FarFiles w S ao fs) (hok : ∀ f ∈ fs, OkF f) (hc : c + fs.length ≤ 1000000000000) (hv : v.files.length + fs.length ≤ 1000000000000) :
    Calls Tryd.prog 19 #[.pointer (some ⟨q, 0, none⟩), .slice ao fs.length cap] w fun e w' => e = .returned (.tuple #[]) ∧ ShelfAt w' (New S w) q ⟨v.files ++ fs, v.wal, v.next, v.seq⟩ (c + fs.length) ∧ Chg S w w' := by
  obtain ⟨i0, hi, hz0, hz1, hz2⟩ := info_parts infoFi
  obtain ⟨m, hm⟩ : ∃ m, m = fs.length := ⟨_, rfl⟩
  have HM : Hid _ := hm
  rw [← hm] at hc hv ⊢
  have H0 : Hid (ShelfAt w S q v c) := h
  have HE : Hid (FarFiles w S ao fs) := he
  have HOk : Hid (∀ f ∈ fs, OkF f) := hok
  clear h he hok hm
  go_enter Tryd.func19, Tryd.ntmps19
  go_wp2
  go_loopw [8] (fun i wr => ∃ k : Nat, k ≤ m ∧ i = .int .i64 k ∧ Hid (ShelfAt wr (New S w) q ⟨v.files ++ fs.take k, v.wal, v.next, v.seq⟩ (c + k)) ∧ Hid (Chg S w wr)) (fun i _ => m - (intOf i).toNat)
  case atStart => exact ⟨0, by omega, rfl, by show ShelfAt _ _ _ _ _; rw [List.take_zero, List.append_nil]; exact H0.out.mono fun k e => .inl e, Chg.refl _ _⟩
  case round =>
    obtain ⟨k, hk, rfl, HS, HC⟩ := hrel
    by_cases hlt : k < m
    · obtain ⟨b, off, rfl, e0, e1⟩ := HE.out.get HC.out (k := k) (by have := HM.out; omega)
      have HT : Hid _ := take_at (xs := fs) (k := k) (d := (0, 0)) (by have := HM.out; omega)
      have hokf : OkF (fs.getD k (0, 0)) := by rw [getD_lt _ _ _ (by have := HM.out; omega)]; exact HOk.out _ (List.getElem_mem _)
      generalize hfe : fs.getD k (0, 0) = f at *
      clear hfe
      obtain ⟨bm, V, hP⟩ := HS.out
      obtain ⟨W0, hW0⟩ : ∃ W0, W0 = wr.alloc (fiObj f) := ⟨_, rfl⟩
      have hP0 : Parts W0 (New S w) q bm V ⟨v.files ++ fs.take k, v.wal, v.next, v.seq⟩ (c + k) := by rw [hW0]; exact hP.alloc _
      have hg0 : W0.heap[wr.heap.size]? = some (fiObj f) := by rw [hW0]; exact heap_alloc_new wr _
      have hs0 : W0.heap.size = wr.heap.size + 1 := by rw [hW0]; simp
      have HCa : Hid (Chg S w W0) := by show Chg _ _ _; rw [hW0]; exact HC.out.then (Chg.alloc _ _ _)
      obtain ⟨hq, hbm⟩ := hP0.lt
      have hrow := hP0.row f.2
      have hfar := hP0.far f.2
      obtain ⟨ao1, c1, hu, _, _⟩ := row_form hrow
      have hlk : ∀ n, (Instr.lookup 51 (.map (some bm)) (.int .i64 f.2) false).run Tryd.prog (W0.drewN n) = .ok (rowOf V f.2) (W0.drewN n) := fun n => (hP0.keep (w' := W0.drewN n) fun _ _ _ => rfl).look hokf.2
      have hgl : (grp (v.files ++ fs.take k) f.2).length ≤ 1000000000000 := by
        have := grp_le (v.files ++ fs.take k) f.2
        rw [List.length_append, List.length_take] at this
        have := HM.out
        omega
      have HK : Hid (∀ X : World, X.heap[q]? = W0.heap[q]? → X.heap[wr.heap.size]? = W0.heap[wr.heap.size]? → X.heap[bm]? = W0.heap[bm]? → X.cell? ⟨q, 0, none⟩ = some (.map (some bm)) ∧ X.cell? ⟨wr.heap.size, 0, none⟩ = some (.int .i64 f.1) ∧ X.cell? ⟨wr.heap.size, 1, none⟩ = some (.int .i64 f.2) ∧ (Instr.lookup 51 (.map (some bm)) (.int .i64 f.2) false).run Tryd.prog X = .ok (rowOf V f.2) X) := fun X x1 x2 x3 => by
        obtain ⟨n, _, hmp⟩ := hP0.map
        refine ⟨?_, ?_, ?_, (hmp.keep x3).run_look keyI Tryd.underlying51 (zeroFiles X) (keyOfI hokf.2)⟩
        · rw [Joins.cell_of_block (x1.trans hP0.head)]; rfl
        · rw [Joins.cell_of_block (x2.trans hg0)]; rfl
        · rw [Joins.cell_of_block (x2.trans hg0)]; rfl
      go_wp2_with fail
      have hW0' : wr.alloc (.cells #[.int .i64 f.1, .int .i64 f.2] 28) = W0 := hW0.symm
      rw [hW0']
      obtain ⟨c0, g0, g1, hlk0⟩ := HK.out W0 rfl rfl rfl
      have HR : Hid (RowF W0 (New S w) (rowOf V f.2) (grp (v.files ++ fs.take k) f.2)) := hrow
      have HFar : Hid _ := hfar
      have HP : Hid (Parts W0 (New S w) q bm V ⟨v.files ++ fs.take k, v.wal, v.next, v.seq⟩ (c + k)) := hP0
      have HG : Hid (W0.heap[wr.heap.size]? = some (fiObj f)) := hg0
      have HN : Hid (W0.heap.size = wr.heap.size + 1) := hs0
      have HU : Hid (rowOf V f.2 = .slice ao1 (grp (v.files ++ fs.take k) f.2).length c1) := hu
      let Held : World → Prop := fun X => X.cell? ⟨q, 0, none⟩ = some (.map (some bm)) ∧ X.cell? ⟨wr.heap.size, 0, none⟩ = some (.int .i64 f.1) ∧ X.cell? ⟨wr.heap.size, 1, none⟩ = some (.int .i64 f.2)
      have HKa : Hid (∀ X : World, X.heap[q]? = W0.heap[q]? → X.heap[wr.heap.size]? = W0.heap[wr.heap.size]? → Held X) := fun X x1 x2 => by
        refine ⟨?_, ?_, ?_⟩
        · rw [Joins.cell_of_block (x1.trans hP0.head)]; rfl
        · rw [Joins.cell_of_block (x2.trans hg0)]; rfl
        · rw [Joins.cell_of_block (x2.trans hg0)]; rfl
      have HPut : Hid (∀ (u : Value) (w1 : World), w1.ownsRow 0 28 2 u ((grp (v.files ++ fs.take k) f.2).length + 1) (fiShape.vals (grp (v.files ++ fs.take k) f.2) ++ fiShape.enc f) → (∃ n X, X = (W0.drewN n).alloc (fiObj f) ∧ X.grownBy w1 (rowOf V f.2).ownBlock ∧ (u.ownBlock = (rowOf V f.2).ownBlock ∨ u.ownBlock = some X.heap.size)) →
          ∃ w3, (Instr.mapUpdate 51 (.map (some bm)) (.int .i64 f.2) u).run Tryd.prog w1 = .ok () w3 ∧ Hid (ShelfAt w3 (New S w) q ⟨v.files ++ fs.take (k + 1), v.wal, v.next, v.seq⟩ (c + (k + 1)) ∧ Chg S w w3) ∧ Held w1 ∧ Held w3) := fun u w1 ho ⟨n, X, hX, hgr, hat⟩ => by
        have hPX : Parts X (New S w) q bm V ⟨v.files ++ fs.take k, v.wal, v.next, v.seq⟩ (c + k) := by
          rw [hX]; exact (HP.out.keep (w' := W0.drewN n) fun _ _ _ => rfl).alloc _
        have hCX : Chg S w X := by rw [hX]; exact (HCa.out.then (Chg.drew S W0 n)).then (Chg.alloc S _ _)
        obtain ⟨w3, V3, r1, r2, r3, r4⟩ := hPX.put f hokf.2 (by unfold maxLen; omega) ho hgr hat
        have hXq : X.heap[q]? = W0.heap[q]? := by rw [hX]; exact Below.heap_alloc _ _ _ hq
        have hXg : X.heap[wr.heap.size]? = W0.heap[wr.heap.size]? := by rw [hX]; exact Below.heap_alloc _ _ _ (by show _ < W0.heap.size; omega)
        have hXs : X.heap.size = W0.heap.size + 1 := by rw [hX]; simp
        have hf := hPX.far f.2
        have hgf : some wr.heap.size ≠ (rowOf V f.2).ownBlock := fun e => by have := ((hP.row f.2).1.lt _ e.symm).2; omega
        have hgm : wr.heap.size ≠ bm := by have := hP.lt.2; omega
        have hg1 : w1.heap[wr.heap.size]? = X.heap[wr.heap.size]? := hgr.block _ (by omega) hgf
        have hg3 : w3.heap[wr.heap.size]? = X.heap[wr.heap.size]? := r4 _ (by omega) hgm hgf
        refine ⟨w3, r1, ⟨?_, hCX.trans r3⟩, HKa.out w1 ((hgr.block q (by omega) fun e => hf.1 e.symm).trans hXq) (hg1.trans hXg), ?_, ?_, ?_⟩
        · rw [HT.out, ← List.append_assoc, ← Nat.add_assoc]
          exact ⟨bm, V3, r2.mono fun j e => New.new hCX.size e⟩
        · exact r2.cells.1
        · rw [Joins.cell_of_block ((hg3.trans hXg).trans hg0)]; rfl
        · rw [Joins.cell_of_block ((hg3.trans hXg).trans hg0)]; rfl
      clear hrow hfar hu hP0 hg0 hs0 hW0 hW0' hq hbm
      have HFd : Hid (∀ n : Nat, (W0.drewN n).ownsRow 0 28 2 (rowOf V f.2) (grp (v.files ++ fs.take k) f.2).length (fiShape.vals (grp (v.files ++ fs.take k) f.2))) := fun n => HR.out.1
      have HBig : Hid _ := hgl
      have hgl2 : (grp (v.files ++ fs.take k) f.2).length ≤ 1000000000000 := hgl
      generalize grp (v.files ++ fs.take k) f.2 = gs at *
      generalize hru : rowOf V f.2 = u0 at *
      clear hP hru
      have hlq : q < W0.heap.size := HP.out.lt.1
      have hlm : bm < W0.heap.size := HP.out.lt.2
      have hlg : wr.heap.size < W0.heap.size := by rw [HN.out]; omega
      have hlk1 : (Instr.lookup 51 (.map (some bm)) (.int .i64 f.2) false).run Tryd.prog W0.drew = .ok u0 W0.drew := hlk 1
      have hlk2 : (Instr.lookup 51 (.map (some bm)) (.int .i64 f.2) false).run Tryd.prog (W0.alloc (.cells #[.int .i64 f.1, .int .i64 f.2] 28)).drew = .ok u0 (W0.alloc (.cells #[.int .i64 f.1, .int .i64 f.2] 28)).drew := (HK.out (W0.alloc _).drew (Below.heap_alloc _ _ _ hlq) (Below.heap_alloc _ _ _ hlg) (Below.heap_alloc _ _ _ hlm)).2.2.2
      clear hlk
      go_region_held3 (fun w' => w'.cell? ⟨q, 0, none⟩ = some (.map (some bm)) ∧ w'.cell? ⟨wr.heap.size, 0, none⟩ = some (.int .i64 f.1) ∧ w'.cell? ⟨wr.heap.size, 1, none⟩ = some (.int .i64 f.2))
        (first | with_reducible exact HKa.out _ rfl rfl | exact HKa.out _ (Below.heap_alloc _ _ _ hlq) (Below.heap_alloc _ _ _ hlg) | exact hkw8 | exact hkw9)
        ((refine step_append_lies _ (by rfl) (.tmp 24) (.tmp 26) 22 (by rfl) 0 28 i0 (.agg #[.int .i64 0, .int .i64 0]) 2 16 Tryd.underlying22 hi hz0 hz1 hz2 rfl (by decide) u0 gs.length (fiShape.vals gs) (by rfl) ((HFd.out _).alloc _) ⟨W0.heap.size, 0, none⟩ 1 1 (fiShape.enc f) (by rfl) rfl (World.news_of_block (heap_alloc_new _ _)) (fiShape.one f) (by decide) (by unfold maxLen; omega) (by omega) (Nat.zero_le _) _ rfl ?_; intro g8 cap8 w8 hown8 hgrow8 hat8 hlt8; obtain ⟨w9, hup9, HQ9, hkw8, hkw9⟩ := HPut.out _ w8 hown8 ⟨_, _, rfl, hgrow8, lies_at hat8⟩))
      all_goals
        have hq1 := HQ9.out.1
        have hq2 := HQ9.out.2
        have H1 : Hid (ShelfAt w9 (New S w) q ⟨v.files ++ fs.take (k + 1), v.wal, v.next, v.seq⟩ (c + (k + 1))) := hq1
        have H2 : Hid (Chg S w w9) := hq2
        clear hq1 hq2 HQ9 hup9 hkw8 hkw9 hown8 hgrow8 hat8 hlt8 hlk1 hlk2 HK
        go_wp2
        go_roundw
        case rel => exact ⟨k + 1, by omega, by go_num, H1.out, H2.out⟩
        case measure => simp [intOf]; omega
    · obtain rfl : k = m := by omega
      have HT : Hid (fs.take k = fs) := by rw [HM.out]; show _ = _; rw [List.take_length]
      have hs := HS.out
      rw [HT.out] at hs
      have HS2 : Hid (ShelfAt wr (New S w) q ⟨v.files ++ fs, v.wal, v.next, v.seq⟩ (c + k)) := hs
      clear hs HS
      go_wp2
      go_end0
      exact ⟨rfl, HS2.out, HC.out⟩
end Go.Proofs.YtjfanbemihheiaaDoor.Ma
