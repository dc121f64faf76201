/-
  Package order: 'Key' answers the parts' key, or that a part isn't right.
-/
import Derived.Test.YtceghgbkiafklaaDoorOrderWrite
namespace Go.Proofs.YtceghgbkiafklaaDoor.Od
open Go.RowKit
open Go.Proofs.YtceghgbkiafklaaDoor.Cm
attribute [local go_sem ↓] Go.wp_at_zero Go.wp_at_succ
set_option linter.unusedVariables false

def tot (ps : List Pt) : Nat := (ps.map fun p => p.s.size).sum
def room (ps : List Pt) : Prop := 16 * ps.length + 2 * tot ps ≤ 4294967000
theorem room_of {ps : List Pt} (h : 4 * ps.length + tot ps ≤ 1048576) : room ps := by unfold room; omega
theorem partB_length (p : Pt) : (partB p).length ≤ 2 * p.s.size + 9 ∧ 3 ≤ (partB p).length := by
  unfold partB
  have h := esc_length p.t
  have h2 : p.t.length = p.s.size := by rw [Lib.size_eq]; rfl
  split
  · simp [numB, be_length]
  · simp; omega
theorem tot_cons (p : Pt) (ps : List Pt) : tot (p :: ps) = p.s.size + tot ps := by simp [tot]
theorem tot_append (a b : List Pt) : tot (a ++ b) = tot a + tot b := by simp [tot]
theorem keyOf_length (ps : List Pt) : (keyOf ps).length ≤ 9 * ps.length + 2 * tot ps := by
  induction ps with
  | nil => simp [keyOf]
  | cons p ps ih =>
    rw [keyOf_cons, List.length_append, tot_cons, List.length_cons]
    have := partB_length p
    omega
theorem take_snoc (ps : List Pt) (k : Nat) (h : k < ps.length) : ps.take (k + 1) = ps.take k ++ [ps.getD k Pt.zero] := by
  rw [List.take_add_one]; simp [h]
theorem room_take {ps : List Pt} (h : room ps) (k : Nat) (hk : k < ps.length) : (keyOf (ps.take k)).length + 2 * (ps.getD k Pt.zero).s.size + 9 ≤ 4294967000 := by
  have h1 := keyOf_length (ps.take k)
  have h2 : tot (ps.take (k + 1)) ≤ tot ps := by
    conv => rhs; rw [← List.take_append_drop (k + 1) ps, tot_append]
    omega
  rw [take_snoc ps k hk, tot_append, tot_cons] at h2
  simp only [List.length_take] at h1
  unfold room at h
  omega

set_option maxRecDepth 100000 in
set_option maxHeartbeats 500000 in
theorem putPart_any (base b : Nat) (r : Option Nat) (bs : List UInt8) (p : Pt) (ty : TypeId) (tail : List Value) (w : World) (hw : GAt w base b ty tail r bs) (hm : MaxOk w) (hb0 : 0 < base) (hbb : 0 ≠ b) (hr : right p) (ho : p.ok)
    (hsz : bs.length + 2 * p.s.size + 9 ≤ 4294967000) (hbase : base ≤ w.heap.size) :
    Calls Tryd.prog 22 #[.pointer (some ⟨b, 0, none⟩), pv p] w fun e w' => e = .returned (.tuple #[]) ∧ ∃ r', GAt w' base b ty tail r' (bs ++ partB p) ∧ Step b w r w' r' := by
  have HW : Hid (GAt w base b ty tail r bs) := hw
  obtain ⟨k, n, s⟩ := p
  unfold pv
  simp only at hsz
  rcases hr with ⟨h1, h2⟩ | ⟨h1, h2⟩
  · simp only at h1
    subst h1
    have HB : Hid (partB ⟨1, n, s⟩ = 1 :: numB n) := rfl
    clear hw
    go_enter Tryd.func22, Tryd.ntmps22
    go_wp2_with fail
    refine (putInt_any base b r bs n ty tail _ (HW.out.alloc _) ho.2 (by omega) (by simp; omega)).mono ?_
    rintro e w1 ⟨rfl, r1, hw1, st1⟩
    go_wp2
    go_end0
    exact ⟨rfl, r1, by rw [HB.out]; exact hw1, (Step.alloc b r w _).trans st1⟩
  · simp only at h1
    subst h1
    have HB : Hid (partB ⟨2, n, s⟩ = 2 :: (esc s.data.toList ++ [0, 0])) := rfl
    clear hw
    go_enter Tryd.func22, Tryd.ntmps22
    go_wp2_with fail
    refine (putTxt_any base b r bs s ty tail _ (HW.out.alloc _) (hm.below ((Below.refl _ _).alloc (Nat.le_refl _) _)) hb0 hbb (by omega) (by omega) (by simp; omega)).mono ?_
    rintro e w1 ⟨rfl, r1, hw1, st1⟩
    go_wp2
    go_end0
    exact ⟨rfl, r1, by rw [HB.out]; exact hw1, (Step.alloc b r w _).trans st1⟩

/-- The parts lie in memory from that address on. -/
def PartsAt (w : World) (ao : Option Addr) (ps : List Pt) : Prop :=
  ps = [] ∨ ∃ b off, ao = some ⟨b, off, none⟩ ∧ b < w.heap.size ∧ ∀ j, j < ps.length →
    w.cell? ⟨b, off + j * 3, none⟩ = some (.int .i64 (ps.getD j Pt.zero).k) ∧ w.cell? ⟨b, off + j * 3 + 1, none⟩ = some (.int .i64 (ps.getD j Pt.zero).n) ∧ w.cell? ⟨b, off + j * 3 + 2, none⟩ = some (.string (ps.getD j Pt.zero).s)
theorem PartsAt.keep {w w' : World} {ao : Option Addr} {ps : List Pt} (h : PartsAt w ao ps) (hb : ∀ a, ao = some a → a.block < w.heap.size → w'.heap[a.block]? = w.heap[a.block]?) (hs : w.heap.size ≤ w'.heap.size) : PartsAt w' ao ps := by
  rcases h with h | ⟨b, off, rfl, hlt, hc⟩
  · exact .inl h
  · refine .inr ⟨b, off, rfl, by omega, fun j hj => ?_⟩
    have e : ∀ o, w'.cell? ⟨b, o, none⟩ = w.cell? ⟨b, o, none⟩ := fun o => World.cell?_of_block (hb ⟨b, off, none⟩ rfl hlt)
    rw [e, e, e]
    exact hc j hj
theorem PartsAt.below {w w' : World} {ao : Option Addr} {ps : List Pt} (h : PartsAt w ao ps) (hb : Below w.heap.size w w') : PartsAt w' ao ps := h.keep (fun a _ ha => hb.block _ ha) hb.size
theorem PartsAt.take {w : World} {ao : Option Addr} {ps : List Pt} (h : PartsAt w ao ps) (n : Nat) : PartsAt w ao (ps.take n) := by
  rcases h with rfl | ⟨b, off, rfl, hlt, hc⟩
  · exact .inl (by simp)
  · refine .inr ⟨b, off, rfl, hlt, fun j hj => ?_⟩
    simp only [List.length_take] at hj
    have := hc j (by omega)
    have e : (ps.take n).getD j Pt.zero = ps.getD j Pt.zero := by
      rw [List.getD_eq_getElem?_getD, List.getD_eq_getElem?_getD, List.getElem?_take_of_lt (by omega)]
    rw [e]; exact this

def keyAns (ps : List Pt) : Value := if rights ps then .tuple #[.string ⟨(keyOf ps).toArray⟩, .int .i64 0] else .tuple #[.string ⟨#[]⟩, .int .i64 3]
theorem keyAns_right {ps : List Pt} (h : rights ps) : keyAns ps = .tuple #[.string ⟨(keyOf ps).toArray⟩, .int .i64 0] := if_pos h
theorem keyAns_wrong {ps : List Pt} (h : ¬ rights ps) : keyAns ps = .tuple #[.string ⟨#[]⟩, .int .i64 3] := if_neg h
theorem rights_snoc {ps : List Pt} {k : Nat} (h : rights (ps.take k)) (hk : k < ps.length) (hr : right (ps.getD k Pt.zero)) : rights (ps.take (k + 1)) := by
  rw [take_snoc ps k hk]
  intro p hp
  rcases List.mem_append.1 hp with hp | hp
  · exact h p hp
  · simp only [List.mem_singleton] at hp; rw [hp]; exact hr
theorem not_rights {ps : List Pt} {k : Nat} (hk : k < ps.length) (hr : ¬ right (ps.getD k Pt.zero)) : ¬ rights ps := fun h => hr (by
  rw [getD_lt _ _ _ hk]; exact h _ (List.getElem_mem hk))
theorem new_G (w : World) (ty : TypeId) (tail : List Value) : GAt (w.alloc (.cells (Value.slice none 0 0 :: tail).toArray ty)) w.heap.size w.heap.size ty tail none [] :=
  ⟨.slice none 0 0, heap_alloc_new w _, ⟨rfl, .inl ⟨rfl, rfl⟩⟩, rfl, by simp [Value.ownBlock]⟩

set_option maxRecDepth 100000 in
set_option maxHeartbeats 500000 in
theorem Key_any (ao : Option Addr) (cap : Nat) (ps : List Pt) (w : World) (hp : PartsAt w ao ps) (ho : oks ps) (hm : MaxOk w) (hR : room ps) :
    Calls Tryd.prog 10 #[.slice ao ps.length cap] w fun e w' => e = .returned (keyAns ps) ∧ Below w.heap.size w w' := by
  have hlen : ps.length ≤ 4294967000 := by unfold room at hR; omega
  have hw0 := hm.lt
  have HR : Hid (room ps) := hR
  clear hR
  go_enter Tryd.func10, Tryd.ntmps10
  go_wp2_with fail
  go_loopw [9] (fun i wr => ∃ (k : Nat) (r : Option Nat), k ≤ ps.length ∧ i = .int .i64 k ∧ Hid (rights (ps.take k)) ∧ Hid (GAt wr w.heap.size w.heap.size 47 [] r (keyOf (ps.take k))) ∧ Hid (Below w.heap.size w wr)) (fun i _ => ps.length - (intOf i).toNat)
  case atStart => exact ⟨0, none, by omega, rfl, (fun p hp => by simp at hp), new_G w _ [], (Below.refl _ _).alloc (Nat.le_refl _) _⟩
  case round =>
    obtain ⟨k, r, hk, rfl, HK, HG, HB⟩ := hrel
    have hsr := HB.out.size
    have hltr := HG.out.lt
    by_cases hlt : k < ps.length
    · rcases hp.below HB.out with h0 | ⟨b, off, rfl, hbl, hcells⟩
      · simp [h0] at hlt
      have hc := hcells k hlt
      have HL : Hid ((keyOf (ps.take k)).length + 2 * (ps.getD k Pt.zero).s.size + 9 ≤ 4294967000) := room_take HR.out k hlt
      have HN : Hid (keyOf (ps.take (k + 1)) = keyOf (ps.take k) ++ partB (ps.getD k Pt.zero)) := by show _ = _; rw [take_snoc ps k hlt, keyOf_snoc]
      have HO : Hid (ps.getD k Pt.zero).ok := ho _ (by rw [getD_lt _ _ _ hlt]; exact List.getElem_mem hlt)
      have HY : Hid (right (ps.getD k Pt.zero) → rights (ps.take (k + 1))) := fun h => rights_snoc HK.out hlt h
      have HZ : Hid (¬ right (ps.getD k Pt.zero) → ¬ rights ps) := fun h => not_rights hlt h
      generalize ps.getD k Pt.zero = p at *
      obtain ⟨hc0, hc1, hc2⟩ := hc
      have hrg := fun i hi => (HG.out.row_ge i hi)
      clear hcells
      by_cases hr : right p
      · have hd : decide (right p) = true := decide_eq_true hr
        go_wp2_with fail
        refine (right_any p _).mono ?_
        rintro e w3 ⟨rfl, hb3⟩
        rw [hd]
        have hblk : w3.heap[wr.heap.size]? = some (.cells #[.int .i64 p.k, .int .i64 p.n, .string p.s] 25 (0, 0)) := (hb3.block _ (by simp)).trans (heap_alloc_new wr _)
        have hd0 : w3.cell? ⟨wr.heap.size, 0, none⟩ = some (.int .i64 p.k) := by rw [Joins.cell_of_block hblk]; rfl
        have hd1 : w3.cell? ⟨wr.heap.size, 1, none⟩ = some (.int .i64 p.n) := by rw [Joins.cell_of_block hblk]; rfl
        have hd2 : w3.cell? ⟨wr.heap.size, 2, none⟩ = some (.string p.s) := by rw [Joins.cell_of_block hblk]; rfl
        have HB3 : Hid (Below wr.heap.size wr w3) := ((Below.refl _ wr).alloc (Nat.le_refl _) _).trans (hb3.mono (by simp))
        have hs3 := HB3.out.size
        clear hblk hb3
        go_wp2_with fail
        refine (putPart_any w.heap.size w.heap.size r _ p 47 [] _ (HG.out.below HB3.out) (hm.below (HB.out.trans (HB3.out.mono hsr))) hw0 (by omega) hr HO.out HL.out (by omega)).mono ?_
        rintro e w4 ⟨rfl, r4, hw4, st4⟩
        have HG4 : Hid (GAt w4 w.heap.size w.heap.size 47 [] r4 (keyOf (ps.take (k + 1)))) := by rw [HN.out]; exact hw4
        have HB4 : Hid (Below w.heap.size w w4) := (HB.out.trans (HB3.out.mono hsr)).trans (st4.below (Nat.le_refl _) (fun i hi => (hrg i hi).1) (by omega))
        have HK4 := HY.out hr
        clear hw4 st4 HG HB3 hd0 hd1 hd2 hd HY HZ
        go_wp2
        go_roundw
        case rel => exact ⟨k + 1, r4, by omega, by go_num, HK4, HG4, HB4⟩
        case measure => simp [intOf]; omega
      · have hd : decide (right p) = false := decide_eq_false hr
        have HA : Hid (keyAns ps = .tuple #[.string ⟨#[]⟩, .int .i64 3]) := keyAns_wrong (HZ.out hr)
        go_wp2_with fail
        refine (right_any p _).mono ?_
        rintro e w3 ⟨rfl, hb3⟩
        rw [hd]
        have HB3 : Hid (Below wr.heap.size wr w3) := ((Below.refl _ wr).alloc (Nat.le_refl _) _).trans (hb3.mono (by simp))
        go_wp2
        go_ret2
        exact ⟨by rw [HA.out]; rfl, HB.out.trans (HB3.out.mono hsr)⟩
    · obtain rfl : k = ps.length := by omega
      have HA : Hid (keyAns ps = .tuple #[.string ⟨(keyOf ps).toArray⟩, .int .i64 0]) := by
        have h := HK.out
        rw [List.take_length] at h
        exact keyAns_right h
      have HG2 : Hid (GAt wr w.heap.size w.heap.size 47 [] r (keyOf ps)) := by
        have h := HG.out
        rw [List.take_length] at h
        exact h
      go_wp2_with fail
      refine (all_any _ _ _ _ _ _ _ HG2.out).mono ?_
      rintro e w3 ⟨rfl, rfl⟩
      go_wp2
      go_ret2
      exact ⟨by rw [HA.out]; rfl, HB.out⟩
end Go.Proofs.YtceghgbkiafklaaDoor.Od
