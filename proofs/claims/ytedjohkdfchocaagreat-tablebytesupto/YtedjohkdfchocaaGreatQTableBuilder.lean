/-
  The texts TableBuilder.
-/
import Derived.Test.YtedjohkdfchocaaGreatPart1
import Derived.Lib.Builder
import Derived.Lib.UnsafeStr
import Derived.Lib.AppendStr
import Derived.Laws.Externs

/-
  The library's strings.Builder: what is written into it, how much that is, and its text; nothing else in memory turns.
-/
namespace Go.Proofs.YtedjohkdfchocaaGreat.Tb
open Go.RowKit Cm
open Pk (Step Kept)
set_option linter.unusedVariables false

def buObj (p v : Value) : Obj := .cells #[p, v] 78 (0, 0)
/-- Block b is a builder that holds these bytes; its slice's row is r. -/
def BuAt (w : World) (base b : Nat) (r : Option Nat) (bs : List UInt8) : Prop :=
  ∃ p v, (p = .pointer none ∨ p = .pointer (some ⟨b, 0, none⟩)) ∧ w.heap[b]? = some (buObj p v) ∧ w.ownsRow base 5 1 v bs.length (bs.map B8) ∧ v.ownBlock = r
section
variable {w w' : World} {base b : Nat} {r : Option Nat} {bs : List UInt8}
theorem BuAt.lt (h : BuAt w base b r bs) : b < w.heap.size := by
  obtain ⟨p, v, _, hb, _⟩ := h
  exact lt_of_block hb
theorem BuAt.row (h : BuAt w base b r bs) : ∀ k, r = some k → base ≤ k ∧ k < w.heap.size ∧ k ≠ b := by
  obtain ⟨p, v, _, hb, hown, rfl⟩ := h
  intro k hk
  refine ⟨(hown.lt k hk).1, (hown.lt k hk).2, fun e => ?_⟩
  rcases hown.2 with ⟨hv, _⟩ | ⟨g, cap, cur, hv, _, hcg, _⟩
  · rw [hv] at hk; cases hk
  · rw [hv] at hk
    cases hk
    have e' : g = b := e
    rw [e', hb] at hcg
    simp [buObj] at hcg
theorem BuAt.keep (h : BuAt w base b r bs) (hb : w'.heap[b]? = w.heap[b]?) (hr : ∀ k, r = some k → w'.heap[k]? = w.heap[k]?) : BuAt w' base b r bs := by
  obtain ⟨p, v, hp, h1, hown, e⟩ := h
  exact ⟨p, v, hp, hb.trans h1, rows_keep1 hown (fun k hk => hr k (e ▸ hk)), e⟩
where
  rows_keep1 {B n : Nat} {t : TypeId} {v : Value} {k : Nat} {vs : List Value} (h : w.ownsRow B t k v n vs) (hk : ∀ j, v.ownBlock = some j → w'.heap[j]? = w.heap[j]?) : w'.ownsRow B t k v n vs := by
    rcases h.2 with ⟨hv, h0⟩ | ⟨g, cap, cur, hv, h1, h2, h3⟩
    · exact ⟨h.1, .inl ⟨hv, h0⟩⟩
    · exact ⟨h.1, .inr ⟨g, cap, cur, hv, h1, (hk g (by rw [hv]; rfl)).trans h2, h3⟩⟩
end
theorem infoBuilder : (Tryz.prog.info? 78).map (fun i => i.size) = some 2 := by kernel_rfl
set_option maxHeartbeats 1000000 in
set_option maxRecDepth 100000 in
theorem check_used (b : Nat) (w : World) (h0 : w.cell? ⟨b, 0, none⟩ = some (.pointer (some ⟨b, 0, none⟩))) :
    Calls Tryz.prog 72 #[.pointer (some ⟨b, 0, none⟩)] w fun e w' => e = .returned (.tuple #[]) ∧ w' = w := by
  obtain ⟨j, hj, _⟩ := Option.map_eq_some_iff.1 infoBuilder
  go_enter Tryz.func72, Tryz.ntmps72
  go_wp2
  rw [Lib.run_neq_ptr_same w _ Tryz.underlying75 hj]
  go_wp2
  go_end0
  exact ⟨rfl, rfl⟩
set_option maxHeartbeats 1000000 in
set_option maxRecDepth 100000 in
theorem check_fresh (b : Nat) (w : World) (h0 : w.cell? ⟨b, 0, none⟩ = some (.pointer none)) (hsh : w.shape? b = some (78, 2)) (hfz : w.frozen? ⟨b, 0, none⟩ = false) :
    Calls Tryz.prog 72 #[.pointer (some ⟨b, 0, none⟩)] w fun e w' => e = .returned (.tuple #[]) ∧ w' = w.setCell ⟨b, 0, none⟩ (.pointer (some ⟨b, 0, none⟩)) := by
  obtain ⟨j, hj, hjs⟩ := Option.map_eq_some_iff.1 infoBuilder
  go_enter Tryz.func72, Tryz.ntmps72
  go_wp2
  rw [Lib.run_to_unsafe w ⟨b, 0, none⟩ Tryz.underlying75 Tryz.underlying154 hj (by rw [hjs]; decide) hsh (Nat.zero_lt_succ 1)]
  simp only [Result.andThen]
  rw [Oper.upon_value]
  go_wp2
  rw [run_callFunc_extern Tryz.func92 (by kernel_rfl) (by kernel_rfl) (by kernel_rfl) (e := Extern.AbiNoEscape.same) (by kernel_rfl)]
  rw [Lib.run_noEscape]
  simp only [Result.andThen]
  rw [Oper.upon_value]
  go_wp2
  rw [Lib.run_from_unsafe w ⟨b, 0, none⟩ Tryz.underlying154 Tryz.underlying75 hj hsh (by kernel_rfl)]
  simp only [Result.andThen]
  rw [Oper.upon_value]
  go_wp2
  go_end0
  exact ⟨rfl, rfl⟩
theorem check_any (base b : Nat) (v p : Value) (w : World) (hp : p = .pointer none ∨ p = .pointer (some ⟨b, 0, none⟩)) (hb : w.heap[b]? = some (buObj p v)) :
    Calls Tryz.prog 72 #[.pointer (some ⟨b, 0, none⟩)] w fun e w' => e = .returned (.tuple #[]) ∧ (w'.heap[b]? = some (buObj (.pointer (some ⟨b, 0, none⟩)) v) ∧ Kept b none w w') := by
  have c0 : w.cell? ⟨b, 0, none⟩ = some p := by rw [Lib.cell_of_heap hb]; rfl
  rcases hp with rfl | rfl
  · refine (check_fresh b w c0 (by simp [World.shape?, hb, buObj]) (Lib.frozen_of_heap hb 0)).mono ?_
    rintro e w' ⟨rfl, rfl⟩
    refine ⟨rfl, by rw [Joins.block_setCell hb]; rfl, ⟨rfl, rfl, rfl, by simp [World.setCell], fun k _ hk _ => Below.heap_setCell w ⟨b, 0, none⟩ _ k hk⟩⟩
  · refine (check_used b w c0).mono ?_
    rintro e w' ⟨rfl, rfl⟩
    exact ⟨rfl, hb, Kept.refl _ _ _⟩
set_option maxHeartbeats 2000000 in
set_option maxRecDepth 100000 in
theorem write_any (base b : Nat) (r : Option Nat) (bs : List UInt8) (s : ByteArray) (w : World) (h : BuAt w base b r bs) (hlen : bs.length + s.size ≤ 140737488355328) (hB : base ≤ w.heap.size) :
    Calls Tryz.prog 41 #[.pointer (some ⟨b, 0, none⟩), .string s] w fun e w' => e = .returned (.tuple #[.int .i64 s.size, .nilIface]) ∧ ∃ r', BuAt w' base b r' (bs ++ s.data.toList) ∧ Step b w r w' r' := by
  obtain ⟨i0, hi, hz0, hz1, hz2⟩ := info_parts info8
  obtain ⟨p, v, hp, hbk, hown, rfl⟩ := h
  have hne : v.ownBlock ≠ some b := fun e => (BuAt.row ⟨p, v, hp, hbk, hown, rfl⟩ b e).2.2 rfl
  have HC : Hid _ := check_any base b v p w hp hbk
  have HOW : Hid _ := hown
  have hbl := lt_of_block hbk
  clear hp hown hbk
  go_enter Tryz.func41, Tryz.ntmps41
  go_wp2_with fail
  refine (show Calls _ _ _ _ _ from HC.out).mono ?_
  rintro e w1 ⟨rfl, hb1, hk1⟩
  have hown1 : w1.ownsRow base 5 1 v bs.length (bs.map B8) := own_keep HOW.out (fun k hk => hk1.block k (World.ownsRow.lt HOW.out k hk).2 (fun e => hne (e ▸ hk)) (by simp))
  have c1 : w1.cell? ⟨b, 1, none⟩ = some v := by rw [Lib.cell_of_heap hb1]; rfl
  have hs1 := hk1.size
  clear HC
  go_wp2_with (at_builtin; refine wpList_append_str_at _ rfl _ _ 76 9 rfl base 5 i0 Tryz.underlying76 Tryz.underlying9 hi hz0 hz1 hz2 _ _ _ rfl hown1 s rfl ?c3 ?c4 ?c5 ?_)
  case c3 => unfold maxLen; omega
  case c4 => omega
  case c5 => omega
  intro v' w2 hown' hgrow hat
  have hb2 : w2.heap[b]? = some (buObj (.pointer (some ⟨b, 0, none⟩)) v) := (hgrow.block b (by omega) (fun e => hne e.symm)).trans hb1
  have d1 : w2.cell? ⟨b, 1, none⟩ = some v := by rw [Lib.cell_of_heap hb2]; rfl
  have f1 : w2.frozen? ⟨b, 1, none⟩ = false := Lib.frozen_of_heap hb2 1
  have HE : Hid (∃ r', BuAt (w2.setCell ⟨b, 1, none⟩ v') base b r' (bs ++ s.data.toList) ∧ Step b w v.ownBlock (w2.setCell ⟨b, 1, none⟩ v') r') := by
    have hset : ∀ k, k ≠ b → (w2.setCell ⟨b, 1, none⟩ v').heap[k]? = w2.heap[k]? := fun k hk => Below.heap_setCell w2 ⟨b, 1, none⟩ v' k hk
    have hne' : v'.ownBlock ≠ some b := fun e => by
      rcases hat with h1 | h1
      · exact hne (h1 ▸ e)
      · rw [h1] at e; cases e; omega
    refine ⟨v'.ownBlock, ⟨.pointer (some ⟨b, 0, none⟩), v', .inr rfl, ?_, ?_, rfl⟩, ⟨⟨?_, ?_, ?_, ?_, ?_⟩, ?_⟩⟩
    · rw [Joins.block_setCell hb2]; rfl
    · exact own_keep (own_bytes rfl hown') (fun k hk => hset k (fun e => hne' (e ▸ hk)))
    · exact hgrow.os.trans hk1.os
    · exact hgrow.tape.trans hk1.tape
    · exact hgrow.output.trans hk1.output
    · have := hgrow.size; simp [World.setCell]; omega
    · intro k hk hkb hkr
      exact (hset k hkb).trans ((hgrow.block k (by omega) hkr).trans (hk1.block k hk hkb (by simp)))
    · rcases hat with h1 | h1
      · exact .inl h1
      · exact .inr ⟨_, h1, hs1⟩
  obtain ⟨ao, n', cap, rfl⟩ : ∃ ao n' cap, v' = .slice ao n' cap := by
    rcases hown'.2 with ⟨hv, _⟩ | ⟨g, cap, cur, hv, _⟩
    · exact ⟨_, _, _, hv⟩
    · exact ⟨_, _, _, hv⟩
  clear hown' hgrow hat hown1 hb1 hk1
  go_wp2
  go_ret2
  exact ⟨rfl, HE.out⟩
theorem own_slice {w : World} {B n : Nat} {v : Value} {vs : List Value} (h : w.ownsRow B 5 1 v n vs) : ∃ ao cap, v = .slice ao n cap := by
  rcases h.2 with ⟨hv, h0⟩ | ⟨g, cap, cur, hv, _⟩
  · exact ⟨none, 0, by rw [hv, h0]⟩
  · exact ⟨_, _, hv⟩
set_option maxRecDepth 100000 in
theorem len_any (base b : Nat) (r : Option Nat) (bs : List UInt8) (w : World) (h : BuAt w base b r bs) :
    Calls Tryz.prog 40 #[.pointer (some ⟨b, 0, none⟩)] w fun e w' => e = .returned (.int .i64 (bs.length : Nat)) ∧ w' = w := by
  obtain ⟨p, v, hp, hbk, hown, rfl⟩ := h
  obtain ⟨ao, cap, rfl⟩ := own_slice hown
  have c1 : w.cell? ⟨b, 1, none⟩ = some (.slice ao bs.length cap) := by rw [Lib.cell_of_heap hbk]; rfl
  clear hown hbk
  go_enter Tryz.func40, Tryz.ntmps40
  go_wp2
  go_ret
  exact ⟨rfl, rfl⟩
/-- All but the row lies as it lay. -/
def Rest (r : Option Nat) (w w' : World) : Prop := w'.os = w.os ∧ w'.tape = w.tape ∧ w'.output = w.output ∧ w.heap.size ≤ w'.heap.size ∧ ∀ k, k < w.heap.size → some k ≠ r → w'.heap[k]? = w.heap[k]?
set_option maxHeartbeats 2000000 in
set_option maxRecDepth 100000 in
theorem string_any (base b : Nat) (r : Option Nat) (bs : List UInt8) (w : World) (h : BuAt w base b r bs) (hl : bs.length ≤ 140737488355328) :
    Calls Tryz.prog 42 #[.pointer (some ⟨b, 0, none⟩)] w fun e w' => e = .returned (.string ⟨bs.toArray⟩) ∧ Rest r w w' := by
  obtain ⟨p, v, hp, hbk, hown, rfl⟩ := h
  have hbk' : w.drew.heap[b]? = some (buObj p v) := hbk
  rcases hown.2 with ⟨rfl, h0⟩ | ⟨g, cap, cur, rfl, hbg, hg, hnc, hcm, hcs, htake⟩
  · have : bs = [] := List.eq_nil_of_length_eq_zero h0
    subst this
    have c1 : w.drew.cell? ⟨b, 1, none⟩ = some (.slice none 0 0) := by rw [Lib.cell_of_heap hbk']; rfl
    have hUS : ∀ (q : Option Addr) (W : World), (Builtin.unsafeString_ #[128, 3] 9 #[.pointer q, .int .i64 0]).run Tryz.prog W = .ok (.string .empty) W := fun q W => Lib.run_unsafeString_none W _ _ _ q
    have hSD : (Builtin.unsafeSliceData_ #[76] 128 #[.slice none 0 0]).run Tryz.prog w.drew = .ok (.pointer none) w.drew := Lib.run_unsafeSliceData_nil _ _ _ _ _
    clear hown hbk hbk'
    go_enter Tryz.func42, Tryz.ntmps42
    go_wp2
    go_region
    all_goals (go_wp2; go_ret; exact ⟨rfl, rfl, rfl, rfl, Nat.le_refl _, fun _ _ _ => rfl⟩)
  · by_cases hb0 : bs = []
    · subst hb0
      have hg' : w.drew.heap[g]? = some (.cells cur 5 (0, 0)) := hg
      have c1 : w.drew.cell? ⟨b, 1, none⟩ = some (.slice (some ⟨g, 0, none⟩) 0 cap) := by rw [Lib.cell_of_heap hbk']; rfl
      have hUS : ∀ (q : Option Addr) (W : World), (Builtin.unsafeString_ #[128, 3] 9 #[.pointer q, .int .i64 0]).run Tryz.prog W = .ok (.string .empty) W := fun q W => Lib.run_unsafeString_none W _ _ _ q
      by_cases hc0 : cap = 0
      · subst hc0
        have hSD : (Builtin.unsafeSliceData_ #[76] 128 #[.slice (some ⟨g, 0, none⟩) 0 0]).run Tryz.prog w.drew = .ok (.pointer (some ⟨w.drew.heap.size, 0, none⟩)) (w.drew.alloc (.view ⟨g, 0, none⟩ 5)) := Lib.run_unsafeSliceData_zero w.drew _ _ 5 Tryz.underlying128 ⟨g, 0, none⟩ 0 (5, cur.size) (by simp [World.shape?, hg'])
        have c2 : (w.drew.alloc (.view ⟨g, 0, none⟩ 5)).cell? ⟨b, 1, none⟩ = some (.slice (some ⟨g, 0, none⟩) 0 0) := (World.cell?_of_block (Below.heap_alloc _ _ _ (lt_of_block hbk'))).trans c1
        have c3 : (w.alloc (.view ⟨g, 0, none⟩ 5)).cell? ⟨b, 1, none⟩ = some (.slice (some ⟨g, 0, none⟩) 0 0) := c2
        have c4 : (w.alloc (.view ⟨g, 0, none⟩ 5)).drew.cell? ⟨b, 1, none⟩ = some (.slice (some ⟨g, 0, none⟩) 0 0) := c2
        have HR : Hid (Rest (some g) w (w.drew.alloc (.view ⟨g, 0, none⟩ 5))) := ⟨rfl, rfl, rfl, by simp, fun k hk _ => Below.heap_alloc _ _ _ hk⟩
        clear hown hbk hbk' hg hg'
        go_enter Tryz.func42, Tryz.ntmps42
        go_wp2
        go_region
        all_goals (go_wp2; go_ret; exact ⟨rfl, HR.out⟩)
      · have hSD : (Builtin.unsafeSliceData_ #[76] 128 #[.slice (some ⟨g, 0, none⟩) 0 cap]).run Tryz.prog w.drew = .ok (.pointer (some ⟨g, 0, none⟩)) w.drew := Lib.run_unsafeSliceData_row _ _ _ _ _ _ hc0
        clear hown hbk hbk' hg hg'
        go_enter Tryz.func42, Tryz.ntmps42
        go_wp2
        go_region
        all_goals (go_wp2; go_ret; exact ⟨rfl, rfl, rfl, rfl, Nat.le_refl _, fun _ _ _ => rfl⟩)
    · have hl0 : bs.length ≠ 0 := by simpa using hb0
      have c1 : w.drew.cell? ⟨b, 1, none⟩ = some (.slice (some ⟨g, 0, none⟩) bs.length cap) := by rw [Lib.cell_of_heap hbk']; rfl
      have hSD : (Builtin.unsafeSliceData_ #[76] 128 #[.slice (some ⟨g, 0, none⟩) bs.length cap]).run Tryz.prog w.drew = .ok (.pointer (some ⟨g, 0, none⟩)) w.drew := Lib.run_unsafeSliceData_row _ _ _ _ _ _ (by omega)
      have hUS : (Builtin.unsafeString_ #[128, 3] 9 #[.pointer (some ⟨g, 0, none⟩), .int .i64 bs.length]).run Tryz.prog w.drew = .ok (.string ⟨bs.toArray⟩) (w.drew.freeze ⟨g, 0, none⟩ bs.length) := by
        refine Lib.run_unsafeString_row w.drew 128 3 9 5 Tryz.underlying128 (by kernel_rfl) g cur.size (by have hg' : w.drew.heap[g]? = some (.cells cur 5 (0, 0)) := hg; simp [World.shape?, hg']) bs hb0 (by omega) (by omega) ?_
        intro j x hx
        exact hown.cells (g := g) rfl j (.int .u8 x.toNat) (by simp [hx, B8])
      have HR : Hid (Rest (some g) w (w.drew.freeze ⟨g, 0, none⟩ bs.length)) := by
        have hne : ¬ bs.length = 0 := hl0
        unfold World.freeze Rest
        rw [if_neg hne]
        refine ⟨rfl, rfl, rfl, by simp, fun k hk hkr => ?_⟩
        simp only [Array.getElem?_modify]
        rw [if_neg (fun e => hkr (by rw [← e]))]
        rfl
      clear hown hbk hbk' hg htake hcs
      go_enter Tryz.func42, Tryz.ntmps42
      go_wp2
      go_region
      all_goals (go_wp2; go_ret; exact ⟨rfl, HR.out⟩)
end Go.Proofs.YtedjohkdfchocaaGreat.Tb
