/-
  The walk of the statement MemOrder.
-/
import Derived.Test.YtbbncfgiimkpnaaMemKeys
import Derived.Carry
namespace Go.Proofs.Ytbbncfgiimkpnaa.Mm
open Go.RowKit Cm
set_option linter.unusedVariables false

/-- Those that came for the first time: the row, the map of their places. -/
structure Once (w w1 : World) (bm : Nat) (v : Value) (xs os : List En) (k : Nat) (X : World) : Prop where
  row : X.ownsRow (w1.heap.size + 1) 31 4 v os.length (enShape.vals os)
  keys : KeysAt X bm (os.map place)
  sub : os.Sublist (xs.take k)
  nod : (os.map place).Nodup
  bel : Below w.heap.size w X
theorem Once.below {w w1 X Y : World} {bm : Nat} {v : Value} {xs os : List En} {k : Nat} (h : Once w w1 bm v xs os k X) (hb : Below X.heap.size X Y) : Once w w1 bm v xs os k Y :=
  ⟨rows_keep h.row fun j hj => hb.block j (h.row.lt j hj).2, h.keys.keep (hb.block bm h.keys.lt), h.sub, h.nod, h.bel.trans (hb.mono h.bel.size)⟩
theorem sub_take {xs os : List En} {k : Nat} (hk : k < xs.length) (h : os.Sublist (xs.take k)) : os.Sublist (xs.take (k + 1)) ∧ (os ++ [xs.getD k En.zero]).Sublist (xs.take (k + 1)) := by
  rw [take_at hk]
  exact ⟨h.trans (List.sublist_append_left _ _), h.append (List.Sublist.refl _)⟩
theorem bytes_sub {a b : List En} (h : a.Sublist b) : a.length ≤ b.length ∧ bytesE a ≤ bytesE b := by
  refine ⟨h.length_le, ?_⟩
  induction h with
  | slnil => exact Nat.le_refl _
  | cons x _ ih => rw [bytesE_cons]; omega
  | cons_cons x _ ih => rw [bytesE_cons, bytesE_cons]; omega

set_option maxRecDepth 100000 in
set_option maxHeartbeats 4000000 in
theorem order_walk (aa ab ao : Option Addr) (c1 c2 ca : Nat) (ha hb' : List Int) (xs : List En) (w : World) (hca : CellsAt w aa (ha.map (Value.int .i64))) (hoka : ∀ h ∈ ha, -9223372036854775808 ≤ h ∧ h ≤ 9223372036854775807) (hcb : CellsAt w ab (hb'.map (Value.int .i64))) (hokb : ∀ h ∈ hb', -9223372036854775808 ≤ h ∧ h ≤ 9223372036854775807) (hx : ElemsAt enShape w ao xs) (hxo : AllOk xs)
    (hla : ha.length ≤ 10000000) (hlb : hb'.length ≤ 10000000) (hbx : xs.length + bytesE xs ≤ 10000000) :
    Calls Try.prog 4 #[.slice aa ha.length c1, .slice ab hb'.length c2, .slice ao xs.length ca] w fun e w' => e = .returned (.bool true) ∧ Below w.heap.size w w' := by
  obtain ⟨i4, hi4, hy0, hy1, hy2⟩ := info_parts infoEn4
  have HNa : Hid (∀ wr, Below w.heap.size w wr → _) := fun wr hb => newS aa c1 ha wr (hca.below hb) hoka (by omega)
  have HNb : Hid (∀ wr, Below w.heap.size w wr → _) := fun wr hb => newS ab c2 hb' wr (hcb.below hb) hokb (by omega)
  have HX : Hid (∀ wr, Below w.heap.size w wr → ElemsAt enShape wr ao xs) := fun wr hb => hx.later hb
  have HOk : Hid (AllOk xs) := hxo
  have hxl : xs.length ≤ 10000000 := by omega
  have hxb : bytesE xs ≤ 10000000 := by omega
  clear hca hoka hcb hokb hx hxo hbx
  go_enter Try.func4, Try.ntmps4
  go_wp2_with fail
  refine (lives_any _).mono ?_
  rintro e w1 ⟨rfl, hb1⟩
  have hs1 := hb1.size
  have HO1 : Hid (Once w w1 w1.heap.size (.slice none 0 0) xs [] 0 (w1.alloc (.map #[] 0))) := ⟨World.ownsRow_nil _ _ _ _, KeysAt.made w1, List.nil_sublist _, List.nodup_nil, hb1.alloc hs1 _⟩
  clear hb1
  have hmm := @run_makeMap Try.prog
  go_wp2
  clear hmm
  go_loopw [20, 7] (fun i v wr => ∃ (k : Nat) (os : List En) (oo : Option Addr) (oc : Nat), k ≤ xs.length ∧ i = .int .i64 k ∧ v = .slice oo os.length oc ∧ w1.heap.size + 1 ≤ wr.heap.size ∧ Hid (Once w w1 w1.heap.size (.slice oo os.length oc) xs os k wr)) (fun i _ _ => xs.length - (intOf i).toNat)
  case atStart => exact ⟨0, [], none, 0, by omega, rfl, rfl, by simp, HO1⟩
  case round =>
    clear HO1
    obtain ⟨k, os, oo, oc, hk, rfl, rfl, hsr, HOn⟩ := hrel
    by_cases hlt : k < xs.length
    · obtain ⟨pb, off, rfl, c0, c1', c2', c3⟩ := elem_cells (HX.out wr HOn.out.bel) hlt
      obtain ⟨hsubA, hsubB⟩ := sub_take hlt HOn.out.sub
      have HSA : Hid (os.Sublist (xs.take (k + 1))) := hsubA
      have HSB : Hid ((os ++ [xs.getD k En.zero]).Sublist (xs.take (k + 1))) := hsubB
      have hol : os.length ≤ 10000000 := by have := (bytes_sub HOn.out.sub).1; have h2 : (xs.take k).length ≤ xs.length := by { rw [List.length_take]; omega }; omega
      generalize xs.getD k En.zero = y at *
      have hbW : Below wr.heap.size wr ((wr.alloc (entObj y)).alloc (.cells #[.string y.key, .int .i64 y.seq, .bool false, .string ⟨#[]⟩] 31)) := ((Below.refl _ _).alloc (Nat.le_refl _) _).alloc (by simp) _
      have HOw : Hid (Once w w1 w1.heap.size (.slice oo os.length oc) xs os k ((wr.alloc (entObj y)).alloc (.cells #[.string y.key, .int .i64 y.seq, .bool false, .string ⟨#[]⟩] 31))) := HOn.out.below hbW
      have hk0 : (0 : Int) ≤ (k : Int) := by omega
      have hk1 : (k : Int) < (xs.length : Int) := by omega
      have hrl : ∀ j, (Value.slice oo os.length oc).ownBlock = some j → j < wr.heap.size := fun j hj => (HOn.out.row.lt j hj).2
      have HRl : Hid _ := hrl
      clear hrl hsubA hsubB hbW HOn
      unfold entObj at HOw
      rcases HOw.out.keys.look (place y) with ⟨hno, hrun⟩ | ⟨hyes, hrun⟩
      · have HNo : Hid (place y ∉ os.map place) := hno
        unfold kv place at hrun
        simp only at hrun
        clear hno
        have hWs : ((wr.alloc (.cells #[.string y.key, .int .i64 y.seq, .bool y.dead, .string y.val] 31)).alloc (.cells #[.string y.key, .int .i64 y.seq, .bool false, .string ⟨#[]⟩] 31)).heap.size = wr.heap.size + 2 := by simp
        have HBx : Hid (((wr.alloc (.cells #[.string y.key, .int .i64 y.seq, .bool y.dead, .string y.val] 31)).alloc (.cells #[.string y.key, .int .i64 y.seq, .bool false, .string ⟨#[]⟩] 31)).heap[wr.heap.size]? = some (entObj y) ∧ ((wr.alloc (.cells #[.string y.key, .int .i64 y.seq, .bool y.dead, .string y.val] 31)).alloc (.cells #[.string y.key, .int .i64 y.seq, .bool false, .string ⟨#[]⟩] 31)).heap[wr.heap.size + 1]? = some (entObj ⟨y.key, y.seq, false, ⟨#[]⟩⟩)) := by
          refine ⟨by rw [Below.heap_alloc _ _ _ (by simp)]; exact heap_alloc_new wr _, ?_⟩
          rw [show wr.heap.size + 1 = (wr.alloc (.cells #[.string y.key, .int .i64 y.seq, .bool y.dead, .string y.val] 31)).heap.size by simp]
          exact heap_alloc_new _ _
        have HWs : Hid _ := hWs
        have helm : ElemsAt enShape (((wr.alloc (.cells #[.string y.key, .int .i64 y.seq, .bool y.dead, .string y.val] 31)).alloc (.cells #[.string y.key, .int .i64 y.seq, .bool false, .string ⟨#[]⟩] 31)).alloc (.cells #[.string y.key, .int .i64 y.seq, .bool y.dead, .string y.val] 31)) (some ⟨wr.heap.size + 2, 0, none⟩) [y] := by
          have := elems1 (w := ((wr.alloc (.cells #[.string y.key, .int .i64 y.seq, .bool y.dead, .string y.val] 31)).alloc (.cells #[.string y.key, .int .i64 y.seq, .bool false, .string ⟨#[]⟩] 31))) y
          rw [hWs] at this
          exact this
        clear hWs
        go_wp2_with (at_builtin; refine wpList_append_rows (F := enShape) _ rfl _ _ 23 rfl (w1.heap.size + 1) 31 i4 _ 48 Try.underlying23 hi4 hy0 hy1 hy2 rfl _ os.length os rfl (World.ownsRow.alloc HOw.out.row _) (some ⟨wr.heap.size + 2, 0, none⟩) 1 1 [y] rfl (by simp) rfl helm ?e1 ?e2 ?e3 ?_)
        case e1 => unfold maxLen; omega
        case e2 => omega
        case e3 => simp; omega
        intro v5 w5 hown5 hgrow5 hat5
        have hG : ∀ j, j < wr.heap.size + 2 → (Value.slice oo os.length oc).ownBlock ≠ some j → w5.heap[j]? = ((wr.alloc (.cells #[.string y.key, .int .i64 y.seq, .bool y.dead, .string y.val] 31)).alloc (.cells #[.string y.key, .int .i64 y.seq, .bool false, .string ⟨#[]⟩] 31)).heap[j]? := fun j hj hn => (hgrow5.block j (by simp; omega) (fun e => hn e.symm)).trans (Below.heap_alloc _ _ _ (by simp; omega))
        have hkeys5 : KeysAt w5 w1.heap.size (os.map place) := HOw.out.keys.keep (hG _ (by omega) (fun e => by have := (HOw.out.row.lt _ e).1; omega))
        have hB5 : w5.heap[wr.heap.size + 1]? = some (entObj ⟨y.key, y.seq, false, ⟨#[]⟩⟩) := (hG _ (by omega) (fun e => by have := HRl.out _ e; omega)).trans HBx.out.2
        obtain ⟨q0, q1, q2, q3, _⟩ := ent_cells hB5
        have hbel5 : Below w.heap.size w w5 := (HOw.out.bel.alloc HOw.out.bel.size _).grown hgrow5 (by have := HOw.out.bel.size; simp; omega) (fun j hj => by have := (HOw.out.row.lt j hj).1; omega)
        have e1 : os.length + 1 = (os ++ [y]).length := by simp
        have hrow5 : w5.ownsRow (w1.heap.size + 1) 31 4 v5 (os ++ [y]).length (enShape.vals (os ++ [y])) := by rw [← e1]; exact hown5
        obtain ⟨o5, c5, rfl, _, _, _, _⟩ := own_rows (F := enShape) hrow5
        obtain ⟨w6, hrun6, hkeys6, hgrow6⟩ := hkeys5.store (place y) HNo.out
        have hon6 : Once w w1 w1.heap.size (.slice o5 (os ++ [y]).length c5) xs (os ++ [y]) (k + 1) w6 := by
          refine ⟨rows_keep hrow5 fun j hj => hgrow6.block j (hrow5.lt j hj).2 (fun e => by cases e; have := (hrow5.lt _ hj).1; omega), by rw [List.map_append]; exact hkeys6, HSB.out, ?_, hbel5.grown hgrow6 hbel5.size (fun j hj => by cases hj; exact hs1)⟩
          rw [List.map_append]
          exact ((List.perm_append_comm).nodup_iff).1 (List.nodup_cons.2 ⟨HNo.out, HOw.out.nod⟩)
        have HO6 : Hid _ := hon6
        have hsz6 : w1.heap.size + 1 ≤ w6.heap.size := by have h1 := hgrow5.size; have h2 := hgrow6.size; simp at h1; omega
        unfold kv place at hrun6
        simp only at hrun6
        rw [← e1]
        rw [← e1] at HO6
        have HE1 : Hid (os.length + 1 = (os ++ [y]).length) := e1
        clear hown5 hgrow5 hat5 hG hkeys5 hB5 hbel5 hrow5 hkeys6 hgrow6 hon6 HOw HBx helm e1 HRl hrun HWs HSA HNo
        go_wp2
        go_roundw
        case rel => exact ⟨k + 1, os ++ [y], o5, c5, by omega, by go_num, by rw [← HE1.out], hsz6, by rw [← HE1.out]; exact HO6⟩
        case measure => simp [intOf]; omega
      · have HOn2 : Hid _ := HOw.out
        unfold kv place at hrun
        simp only at hrun
        have hsz6 : w1.heap.size + 1 ≤ ((wr.alloc (.cells #[.string y.key, .int .i64 y.seq, .bool y.dead, .string y.val] 31)).alloc (.cells #[.string y.key, .int .i64 y.seq, .bool false, .string ⟨#[]⟩] 31)).heap.size := by simp; omega
        have HO6 : Hid (Once w w1 w1.heap.size (.slice oo os.length oc) xs os (k + 1) ((wr.alloc (.cells #[.string y.key, .int .i64 y.seq, .bool y.dead, .string y.val] 31)).alloc (.cells #[.string y.key, .int .i64 y.seq, .bool false, .string ⟨#[]⟩] 31))) := ⟨HOn2.out.row, HOn2.out.keys, HSA.out, HOn2.out.nod, HOn2.out.bel⟩
        clear hyes HOw HOn2 HRl HSA HSB
        go_wp2
        go_roundw
        case rel => exact ⟨k + 1, os, oo, oc, by omega, by go_num, rfl, hsz6, HO6⟩
        case measure => simp [intOf]; omega
    · obtain rfl : k = xs.length := by omega
      have hsub : os.Sublist xs := by have := HOn.out.sub; rwa [List.take_length] at this
      obtain ⟨hol, hob⟩ := bytes_sub hsub
      have HOo : Hid (AllOk os) := fun e he => HOk.out e (hsub.subset he)
      have HRv : Hid _ := all_reverse HOn.out.nod
      obtain ⟨_, _, e7, _, hblk, _, hel⟩ := own_rows (F := enShape) HOn.out.row
      cases e7
      have HEl : Hid (∀ Y, Below wr.heap.size wr Y → ElemsAt enShape Y oo os) := fun Y hY => hel.later hY
      have HBk : Hid (∀ ad, oo = some ad → ad.block < wr.heap.size) := fun ad e => (hblk ad e).2.2
      have HBw : Hid (Below w.heap.size w wr) := HOn.out.bel
      have hsw := HOn.out.bel.size
      clear hsub hblk hel HOn HX HOk hlt
      generalize wr = X at *
      have HN1 : Hid _ := HNa.out X HBw.out
      go_wp2_with fail
      refine (show Calls _ _ _ _ _ from HN1.out).mono ?_
      rintro e w2 ⟨rfl, T2, hb2⟩
      have hs2 := hb2.size
      have HT2 : Hid (Tab w2 (fun k => X.heap.size ≤ k) (X.heap.size + 1) []) := T2
      have HB2 : Hid _ := hb2
      have HN2 : Hid _ := HNb.out w2 (HBw.out.trans (hb2.mono hsw))
      clear T2 hb2 HN1 HNa HNb
      go_wp2_with fail
      refine (show Calls _ _ _ _ _ from HN2.out).mono ?_
      rintro e w3 ⟨rfl, T3, hb3⟩
      have hs3 := hb3.size
      have hBX : Below X.heap.size X w3 := HB2.out.trans (hb3.mono hs2)
      have HTs : Hid (Tab w3 (Cut (fun k => X.heap.size ≤ k) w2 w3) (X.heap.size + 1) []) := Tab.cutTo HT2.out hb3
      have HTt : Hid (Tab w3 (fun k => w2.heap.size ≤ k) (w2.heap.size + 1) []) := T3
      have HLo : Hid (∀ j, Cut (fun k => X.heap.size ≤ k) w2 w3 j → X.heap.size ≤ j) := fun j e => Cut.lo (fun k e => e) (by omega) e
      have HDj : Hid (∀ j, w2.heap.size ≤ j → j < w3.heap.size → ¬ Cut (fun k => X.heap.size ≤ k) w2 w3 j) := fun j h1 h2 => Cut.out h1 h2
      have HAd : Hid _ := addS oo oc os w3 HTs.out (fun k hk => Cut.new hk) (HEl.out w3 hBX) (fun _ ad e h => by have h1 := HLo.out _ h; have h2 := HBk.out ad e; omega) HOo.out (by simp; omega) (by simp [bytesE] at *; omega)
      have HB3 : Hid (Below X.heap.size X w3) := hBX
      generalize Cut (fun k => X.heap.size ≤ k) w2 w3 = S at *
      generalize X.heap.size + 1 = sb at *
      generalize w2.heap.size + 1 = tb at *
      clear T3 hb3 hBX HT2 HB2 HN2 HTs
      go_wp2_with fail
      refine (show Calls _ _ _ _ _ from HAd.out).mono ?_
      rintro e w4 ⟨rfl, T4, hc4⟩
      have hs4 := hc4.size
      have HTs4 : Hid (Tab w4 (fun j => S j ∧ j < w4.heap.size) sb (addAll [] os)) := T4.mono fun j e hj => ⟨e, hj⟩
      have HTt4 : Hid (Tab w4 (fun j => (w2.heap.size ≤ j ∧ j < w3.heap.size) ∨ w4.heap.size ≤ j) tb []) :=
        (((Tab.mono HTt.out fun j e hj => ⟨e, hj⟩ : Tab w3 (fun j => w2.heap.size ≤ j ∧ j < w3.heap.size) tb []).chg hc4 (fun j e => HDj.out j e.1 e.2)).mono fun j e _ => .inl e)
      have HBX4 : Hid (Below X.heap.size X w4) := HB3.out.trans (hc4.below HLo.out (by omega))
      have HS4 : Hid (∀ j, ((w2.heap.size ≤ j ∧ j < w3.heap.size) ∨ w4.heap.size ≤ j) → X.heap.size ≤ j ∧ ¬ (S j ∧ j < w4.heap.size)) := fun j e => by
        rcases e with e | e
        · exact ⟨by omega, fun h => HDj.out j e.1 e.2 h.1⟩
        · exact ⟨by omega, fun h => by omega⟩
      generalize hP : (fun j => S j ∧ j < w4.heap.size) = P at *
      have HP4 : Hid (∀ j, P j → j < w4.heap.size) := fun j e => by rw [← hP] at e; exact e.2
      have HS4' : Hid (∀ j, ((w2.heap.size ≤ j ∧ j < w3.heap.size) ∨ w4.heap.size ≤ j) → X.heap.size ≤ j ∧ ¬ P j) := fun j e => by rw [← hP]; exact HS4.out j e
      have HRd : Hid (os.drop os.length = []) := by show _ = _; simp
      clear T4 hc4 HAd HTt HLo HDj HB3 HS4 hP
      have hvl := addAll_len [] os
      simp only [List.length_nil, Nat.zero_add] at hvl
      have hb0 : bytesE [] = 0 := rfl
      go_wp2
      go_loopw [14] (fun i wr => ∃ (m : Nat) (S' : Nat → Prop), m ≤ os.length ∧ i = .int .i64 ((m : Int) - 1) ∧ w4.heap.size ≤ wr.heap.size ∧ Hid (Tab wr S' tb (addAll [] (os.drop m).reverse)) ∧ Hid (∀ j, S' j → X.heap.size ≤ j ∧ ¬ P j) ∧ Hid (∀ j, wr.heap.size ≤ j → S' j) ∧ Hid (Tab wr P sb (addAll [] os)) ∧ Hid (Below X.heap.size X wr)) (fun i _ => (intOf i + 1).toNat)
      case atStart => exact ⟨os.length, _, Nat.le_refl _, by go_num, Nat.le_refl _, by rw [HRd.out]; exact HTt4, HS4', (fun j e => .inr e), HTs4, HBX4⟩
      case round =>
        clear HTt4 HS4' HTs4 HBX4 HRd
        obtain ⟨m, S', hm, rfl, hsr', HTt, HSd, HNw, HTs, HBX⟩ := hrel
        cases m with
        | succ m =>
          have hml : m < os.length := hm
          obtain ⟨pb, off, e8, d0, d1, d2, d3⟩ := elem_cells (HEl.out wr HBX.out) hml
          subst e8
          have hrev : (os.drop m).reverse = (os.drop (m + 1)).reverse ++ [os.getD m En.zero] := by
            rw [getD_lt _ _ _ hml, List.drop_eq_getElem_cons hml, List.reverse_cons]
          have HRe : Hid (addAll [] (os.drop m).reverse = addAll (addAll [] (os.drop (m + 1)).reverse) [os.getD m En.zero]) := by
            show _ = _
            rw [hrev]; unfold addAll; rw [List.foldl_append]
          have hyok : (os.getD m En.zero).ok := HOo.out _ (by rw [getD_lt _ _ _ hml]; exact List.getElem_mem hml)
          have hlen := addAll_len [] (os.drop (m + 1)).reverse
          have hdl : (os.drop (m + 1)).length ≤ os.length := by rw [List.length_drop]; omega
          have hdb : bytesE (os.drop (m + 1)).reverse + sizeE (os.getD m En.zero) ≤ bytesE os := by
            have e1 : bytesE (os.drop (m + 1)).reverse = bytesE (os.drop (m + 1)) := by unfold bytesE; rw [List.map_reverse, List.sum_reverse]
            have e2 := congrArg bytesE (List.take_append_drop m os)
            rw [bytesE_append, List.drop_eq_getElem_cons hml, bytesE_cons] at e2
            rw [e1, getD_lt _ _ _ hml]
            omega
          rw [List.length_reverse] at hlen
          generalize os.getD m En.zero = y at *
          have hbA : Below wr.heap.size wr (wr.alloc (entObj y)) := (Below.refl _ _).alloc (Nat.le_refl _) _
          have TA := Tab.cutTo HTt.out hbA
          have HAd : Hid _ := addS (some ⟨wr.heap.size, 0, none⟩) 1 [y] _ TA (fun j e => Cut.new e) (elems1 y) (fun _ ad e => by cases e; exact Cut.out (Nat.le_refl _) (by simp)) (fun e he => by simp at he; subst he; exact hyok) (by simp at hlen ⊢; omega) (by rw [bytesE_cons]; show _ + (sizeE y + bytesE []) ≤ _; simp [bytesE] at *; omega)
          have HAf : Hid (∀ w5, Chg (Cut S' wr (wr.alloc (entObj y))) (wr.alloc (entObj y)) w5 → Tab w5 P sb (addAll [] os) ∧ Below X.heap.size X w5 ∧ wr.heap.size ≤ w5.heap.size) := fun w5 h5 => by
            have h5s := h5.size
            simp at h5s
            refine ⟨Tab.keep (Tab.below HTs.out hbA) fun j hj hl => h5.block j hl ?_, (HBX.out.trans (hbA.mono HBX.out.size)).trans (h5.below (fun j e => Cut.lo (fun k e => (HSd.out k e).1) (by simp; have := HBX.out.size; omega) e) (by simp; have := HBX.out.size; omega)), by omega⟩
            rintro (e | e)
            · exact (HSd.out j e.1).2 hj
            · have := HP4.out j hj; simp at e; omega
          have HSd' : Hid (∀ j, Cut S' wr (wr.alloc (entObj y)) j → X.heap.size ≤ j ∧ ¬ P j) := fun j e => by
            rcases e with e | e
            · exact HSd.out j e.1
            · simp at e
              exact ⟨by have := HBX.out.size; omega, fun h => by have := HP4.out j h; omega⟩
          have HNw' : Hid (∀ j, (wr.alloc (entObj y)).heap.size ≤ j → Cut S' wr (wr.alloc (entObj y)) j) := fun j e => Cut.new e
          generalize Cut S' wr (wr.alloc (entObj y)) = S5 at *
          unfold entObj at HAd HAf HNw'
          have e1 : (((m + 1 : Nat) : Int) - 1) = (m : Int) := by omega
          rw [e1]
          clear e1 hbA TA HTt HSd HNw HTs HBX hyok hrev hlen hdb
          have hk0 : (0 : Int) ≤ (m : Int) := by omega
          have hk1 : (m : Int) < (os.length : Int) := by omega
          go_wp2_with fail
          refine (show Calls _ _ _ _ _ from HAd.out).mono ?_
          rintro e w5 ⟨rfl, T5, hc5⟩
          obtain ⟨q1, q2, q3⟩ := HAf.out w5 hc5
          have HT5 : Hid (Tab w5 S5 tb (addAll [] (os.drop m).reverse)) := by rw [HRe.out]; exact T5
          have HTs5 : Hid _ := q1
          have HBX5 : Hid _ := q2
          have HN5 : Hid (∀ j, w5.heap.size ≤ j → S5 j) := fun j e => HNw'.out j (Nat.le_trans hc5.size e)
          have hsr5 : w4.heap.size ≤ w5.heap.size := by omega
          clear T5 hc5 q1 q2 HAd HAf HNw' HRe
          go_wp2
          go_roundw
          case rel => exact ⟨m, S5, by omega, by go_num, hsr5, HT5, HSd', HN5, HTs5, HBX5⟩
          case measure => simp [intOf]
        | zero =>
          rw [List.drop_zero, HRv.out.1] at HTt
          have hl1 := HRv.out.2
          have HL1 : Hid ((addAll [] os).length = os.length) := hl1
          have HSo : Hid (Sorted (addAll [] os)) := sorted_nil.addAll os
          have hvl2 : (addAll [] os).length ≤ 10000000 := by omega
          generalize addAll [] os = vs at *
          clear HSd HNw hl1 HRv HOo HEl HBk HP4
          generalize wr = Y at *
          have HAs : Hid (∀ Z, Below Y.heap.size Y Z → Calls Try.prog 17 #[.pointer (some ⟨sb, 0, none⟩)] Z fun e Z' => ∃ ao c, e = .returned (.slice ao vs.length c) ∧ ElemsAt enShape Z' ao vs ∧ Below Z.heap.size Z Z' ∧ Below Y.heap.size Y Z') := fun Z hZ => by
            refine (allS Z (Tab.below HTs.out hZ) (by omega)).mono ?_
            rintro e Z' ⟨v, rfl, ho, hb⟩
            obtain ⟨a1, c1, rfl, _, _, _, he⟩ := own_rows (F := enShape) ho
            exact ⟨a1, c1, rfl, he, hb, hZ.trans (hb.mono hZ.size)⟩
          have HAt : Hid (∀ Z, Below Y.heap.size Y Z → Calls Try.prog 17 #[.pointer (some ⟨tb, 0, none⟩)] Z fun e Z' => ∃ ao c, e = .returned (.slice ao vs.length c) ∧ ElemsAt enShape Z' ao vs ∧ Below Z.heap.size Z Z' ∧ Below Y.heap.size Y Z') := fun Z hZ => by
            refine (allS Z (Tab.below HTt.out hZ) (by omega)).mono ?_
            rintro e Z' ⟨v, rfl, ho, hb⟩
            obtain ⟨a1, c1, rfl, _, _, _, he⟩ := own_rows (F := enShape) ho
            exact ⟨a1, c1, rfl, he, hb, hZ.trans (hb.mono hZ.size)⟩
          have HSm : Hid (∀ Z a1 a2 k1 k2, Below Y.heap.size Y Z → ElemsAt enShape Z a1 vs → ElemsAt enShape Z a2 vs → Calls Try.prog 16 #[.slice a1 vs.length k1, .slice a2 vs.length k2] Z fun e Z' => e = .returned (.bool true) ∧ Below Y.heap.size Y Z') := fun Z a1 a2 k1 k2 hZ h1 h2 => by
            refine (same_any a1 a2 k1 k2 vs Z h1 h2 (by omega)).mono ?_
            rintro e Z' ⟨rfl, n, rfl⟩
            exact ⟨rfl, hZ.os, hZ.tape, hZ.output, hZ.size, hZ.block⟩
          have HRi : Hid (∀ Z a1 k1, Below Y.heap.size Y Z → ElemsAt enShape Z a1 vs → Calls Try.prog 20 #[.slice a1 vs.length k1] Z fun e Z' => e = .returned (.bool true) ∧ Below Y.heap.size Y Z') := fun Z a1 k1 hZ h1 => by
            refine (rising_any a1 k1 vs Z h1 HSo.out (by omega)).mono ?_
            rintro e Z' ⟨rfl, hb⟩
            exact ⟨rfl, hZ.trans (hb.mono hZ.size)⟩
          have HLs : Hid (∀ Z, Below Y.heap.size Y Z → Calls Try.prog 9 #[.pointer (some ⟨sb, 0, none⟩)] Z fun e Z' => e = .returned (.int .i64 os.length) ∧ Z' = Z) := fun Z hZ => by
            have h := len_any sb vs.length Z (Tab.below HTs.out hZ).cells.1
            rw [HL1.out] at h
            exact h
          have HBt : Hid (∀ Z, Below Y.heap.size Y Z → Calls Try.prog 14 #[.pointer (some ⟨tb, 0, none⟩)] Z fun e Z' => e = .returned (.int .i64 (bytesE vs : Nat)) ∧ Z' = Z) := fun Z hZ => bytes_any tb (bytesE vs) Z (Tab.below HTt.out hZ).cells.2.1
          have HBs : Hid (∀ Z, Below Y.heap.size Y Z → Calls Try.prog 14 #[.pointer (some ⟨sb, 0, none⟩)] Z fun e Z' => e = .returned (.int .i64 (bytesE vs : Nat)) ∧ Z' = Z) := fun Z hZ => bytes_any sb (bytesE vs) Z (Tab.below HTs.out hZ).cells.2.1
          have HB0 : Hid (Below Y.heap.size Y Y.drew) := (Below.refl _ _).drew
          have HBW : Hid (Below w.heap.size w Y) := HBw.out.trans (HBX.out.mono hsw)
          have hsY := HBW.out.size
          clear HTs HTt HBX HBw HSo HL1 hvl
          generalize bytesE vs = nb at *
          go_wp2_with fail
          go_region_held3 (fun w' => True) (trivial)
            ((first
              | (go_at_call_of 17 (Value.pointer (some ⟨sb, 0, none⟩)); refine (HAs.out _ HB0.out).mono ?_; rintro e z1 ⟨a1, k1, rfl, he1, hb1, hB1⟩)
              | (go_at_call_of 17 (Value.pointer (some ⟨tb, 0, none⟩)); refine (HAt.out _ hB1).mono ?_; rintro e z2 ⟨a2, k2, rfl, he2, hb2, hB2⟩)
              | (go_at_call 16; refine (HSm.out _ a1 a2 k1 k2 hB2 (he1.later hb2) he2).mono ?_; rintro e z3 ⟨rfl, hB3⟩)
              | (go_at_call_of 17 (Value.pointer (some ⟨sb, 0, none⟩)); refine (HAs.out _ hB3).mono ?_; rintro e z4 ⟨a4, k4, rfl, he4, hb4, hB4⟩)
              | (go_at_call 20; refine (HRi.out _ a4 k4 hB4 he4).mono ?_; rintro e z5 ⟨rfl, hB5⟩)
              | (go_at_call 9; refine (HLs.out _ hB5).mono ?_; rintro e z6 ⟨rfl, rfl⟩)
              | (go_at_call_of 14 (Value.pointer (some ⟨tb, 0, none⟩)); refine (HBt.out _ hB5).mono ?_; rintro e z7 ⟨rfl, rfl⟩)
              | (go_at_call_of 14 (Value.pointer (some ⟨sb, 0, none⟩)); refine (HBs.out _ hB5).mono ?_; rintro e z8 ⟨rfl, rfl⟩)))
          have HBF : Hid (∀ Z, Below Y.heap.size Y Z → Below w.heap.size w Z) := fun Z hZ => HBW.out.trans (hZ.mono hsY)
          have HBZ : Hid _ := HBF.out _ hB5
          clear he1 he2 he4 hb1 hb2 hb4 hB1 hB2 hB3 hB4 hB5 HAs HAt HSm HRi HLs HBt HBs HB0 HBW HBF
          go_wp2
          go_ret
          exact ⟨rfl, HBZ.out⟩
end Go.Proofs.Ytbbncfgiimkpnaa.Mm
