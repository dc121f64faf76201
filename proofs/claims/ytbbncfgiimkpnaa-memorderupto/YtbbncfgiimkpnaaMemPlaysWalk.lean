/-
  The walk of the statement MemPlays.
-/
import Derived.Test.YtbbncfgiimkpnaaMemFindsWalk
import Derived.Test.YtbbncfgiimkpnaaMemRefNil
namespace Go.Proofs.Ytbbncfgiimkpnaa.Mm
open Go.RowKit Cm
set_option linter.unusedVariables false

/-- A table and the document's list, of one content. -/
structure Both (w : World) (S : Nat → Prop) (b : Nat) (vs : List En) (ao : Option Addr) (c : Nat) (X : World) : Prop where
  tab : Tab X S b vs
  lo : ∀ j, S j → w.heap.size ≤ j
  new : ∀ j, X.heap.size ≤ j → S j
  els : ElemsAt enShape X ao vs
  nil : ao = none → c = 0
  cap : vs.length ≤ c
  out : ∀ ad, ao = some ad → ¬ S ad.block ∧ ad.block < X.heap.size
  bel : Below w.heap.size w X
section
variable {w X Y : World} {S : Nat → Prop} {b c : Nat} {vs : List En} {ao : Option Addr}
theorem Both.below (h : Both w S b vs ao c X) (hb : Below X.heap.size X Y) : Both w (Cut S X Y) b vs ao c Y :=
  ⟨h.tab.cutTo hb, fun j e => Cut.lo h.lo (Nat.le_trans h.bel.size hb.size) e, fun j e => Cut.new e, h.els.later hb, h.nil, h.cap, fun ad e => ⟨Cut.not (h.out ad e).1 (Nat.lt_of_lt_of_le (h.out ad e).2 hb.size), Nat.lt_of_lt_of_le (h.out ad e).2 hb.size⟩, h.bel.trans (hb.mono h.bel.size)⟩
/-- One more in the table. -/
theorem Both.added {vs' : List En} (h : Both w S b vs ao c X) (ht : Tab Y S b vs') (hc : Chg S X Y) : Tab Y S b vs' ∧ ElemsAt enShape Y ao vs ∧ Below w.heap.size w Y ∧ X.heap.size ≤ Y.heap.size :=
  ⟨ht, h.els.keep (fun a e hl => hc.block _ hl (h.out a e).1) hc.size, h.bel.trans (hc.below h.lo h.bel.size), hc.size⟩
/-- .. and in the list. -/
theorem Both.listed {vs' : List En} {v : Value} (hlo : ∀ j, S j → w.heap.size ≤ j) (hnew : ∀ j, X.heap.size ≤ j → S j) (hbel : Below w.heap.size w X) (ht : Tab X S b vs') (hb : Below X.heap.size X Y) (ho : Y.ownsRow X.heap.size 31 4 v vs'.length (enShape.vals vs')) :
    ∃ ao' c', v = .slice ao' vs'.length c' ∧ Both w (Cut S X Y) b vs' ao' c' Y := by
  obtain ⟨ao', c', rfl, q1, q2, q3, q4⟩ := own_rows (F := enShape) ho
  refine ⟨ao', c', rfl, Tab.cutTo ht hb, fun j e => Cut.lo hlo (Nat.le_trans hbel.size hb.size) e, fun j e => Cut.new e, q4, q1, q3, fun ad e => ?_, hbel.trans (hb.mono hbel.size)⟩
  obtain ⟨_, r1, r2⟩ := q2 ad e
  exact ⟨Cut.out r1 r2, r2⟩
end

set_option maxRecDepth 100000 in
set_option maxHeartbeats 4000000 in
theorem plays_walk (ah ao : Option Addr) (ch ca : Nat) (hs : List Int) (xs : List En) (K : ByteArray) (w : World) (hh : CellsAt w ah (hs.map (Value.int .i64))) (hok : ∀ h ∈ hs, -9223372036854775808 ≤ h ∧ h ≤ 9223372036854775807) (hx : ElemsAt enShape w ao xs) (hxo : AllOk xs)
    (hhl : hs.length ≤ 10000000) (hb : xs.length + bytesE xs ≤ 10000000) :
    Calls Try.prog 3 #[.slice ah hs.length ch, .slice ao xs.length ca, .string K] w fun e w' => e = .returned (.bool true) ∧ Below w.heap.size w w' := by
  have HN : Hid (∀ wr, Below w.heap.size w wr → _) := fun wr hb => newS ah ch hs wr (hh.below hb) hok (by omega)
  have HX : Hid (∀ wr, Below w.heap.size w wr → ElemsAt enShape wr ao xs) := fun wr hb => hx.later hb
  have HLen : Hid (∀ k, (addAll [] (xs.take k)).length ≤ 10000000 ∧ bytesE (addAll [] (xs.take k)) ≤ 10000000) := fun k => by
    have h1 := addAll_len [] (xs.take k)
    have h2 := bytes_take xs k
    have h3 : (xs.take k).length ≤ xs.length := by rw [List.length_take]; omega
    simp [bytesE] at h1 h2 hb ⊢
    omega
  have hxl : xs.length ≤ 10000000 := by omega
  have HSn : Hid (∀ k, k < xs.length → addAll [] (xs.take (k + 1)) = addOne (addAll [] (xs.take k)) (xs.getD k En.zero) ∧ (xs.getD k En.zero).ok ∧ sizeE (xs.getD k En.zero) ≤ 10000000) := fun k hk => by
    have h2 := bytes_at hk
    refine ⟨by rw [take_at hk, addAll_snoc], hxo _ (by rw [getD_lt _ _ _ hk]; exact List.getElem_mem hk), by omega⟩
  clear hh hok hx hxo hb
  go_enter Try.func3, Try.ntmps3
  go_wp2_with fail
  refine (lives_any _).mono ?_
  rintro e w1 ⟨rfl, hb1⟩
  have hs1 := hb1.size
  go_wp2_with fail
  refine (show Calls _ _ _ _ _ from HN.out w1 hb1).mono ?_
  rintro e w2 ⟨rfl, T2, hb2⟩
  have hs2 := hb2.size
  have HB2 : Hid (Both w (fun j => w1.heap.size ≤ j) (w1.heap.size + 1) [] none 0 w2) := ⟨T2, fun j e => Nat.le_trans hs1 e, fun j e => Nat.le_trans hs2 e, .inl rfl, fun _ => rfl, Nat.le_refl _, (fun ad e => by cases e), hb1.trans (hb2.mono hs1)⟩
  clear T2 hb2 hb1 HN
  generalize w1.heap.size + 1 = b at *
  have c0 := HB2.out.tab.cells.1
  go_wp2_with fail
  refine (len_any b 0 _ c0).mono ?_
  rintro e w3 ⟨rfl, rfl⟩
  clear c0
  go_wp2
  go_loopw [31, 8] (fun i m wr => ∃ (k : Nat) (mo : Option Addr) (c : Nat) (S : Nat → Prop), k ≤ xs.length ∧ i = .int .i64 k ∧ m = .slice mo (addAll [] (xs.take k)).length c ∧ Hid (Both w S b (addAll [] (xs.take k)) mo c wr)) (fun i _ _ => xs.length - (intOf i).toNat)
  case atStart => exact ⟨0, none, 0, _, by omega, rfl, rfl, HB2⟩
  case round =>
    obtain ⟨k, mo, c, S, hk, rfl, rfl, HBo⟩ := hrel
    by_cases hlt : k < xs.length
    · obtain ⟨hv1, hv2⟩ := HLen.out k
      obtain ⟨hv3, hv4⟩ := HLen.out (k + 1)
      obtain ⟨hstep, hyo, hyz⟩ := HSn.out k hlt
      obtain ⟨pb, off, rfl, c0, c1, c2, c3⟩ := elem_cells (HX.out wr HBo.out.bel) hlt
      have HSt : Hid _ := hstep
      rw [hstep] at hv3 hv4
      generalize hvs : addAll [] (xs.take k) = vs at *
      generalize xs.getD k En.zero = y at *
      clear hvs hstep
      have hk0 : (0 : Int) ≤ (k : Int) := by omega
      have hk1 : (k : Int) < (xs.length : Int) := by omega
      -- the table
      have hbA : Below wr.heap.size wr ((wr.alloc (entObj y)).alloc (entObj y)) := ((Below.refl _ _).alloc (Nat.le_refl _) _).alloc (by simp) _
      have HBa : Hid _ := HBo.out.below hbA
      have helA : ElemsAt enShape ((wr.alloc (entObj y)).alloc (entObj y)) (some ⟨wr.heap.size + 1, 0, none⟩) [y] := by
        have := elems1 (w := wr.alloc (entObj y)) y
        simpa using this
      have HAd : Hid _ := addS (some ⟨wr.heap.size + 1, 0, none⟩) 1 [y] _ HBa.out.tab HBa.out.new helA (fun _ ad e => by cases e; exact Cut.out (by show wr.heap.size ≤ wr.heap.size + 1; omega) (by simp)) (fun e he => by simp at he; subst he; exact hyo) (by simp; omega) (by rw [bytesE_cons]; show _ + (sizeE y + 0) ≤ _; omega)
      have HBx : Hid (∀ w3, Chg (Cut S wr ((wr.alloc (entObj y)).alloc (entObj y))) ((wr.alloc (entObj y)).alloc (entObj y)) w3 → w3.heap[wr.heap.size]? = some (entObj y)) := fun w3 h3 =>
        (h3.block _ (by simp; omega) (Cut.out (Nat.le_refl _) (by simp; omega))).trans (by rw [Below.heap_alloc _ _ _ (by simp)]; exact heap_alloc_new wr _)
      have HBb : Hid (∀ w3 vs', Tab w3 (Cut S wr ((wr.alloc (entObj y)).alloc (entObj y))) b vs' → Chg (Cut S wr ((wr.alloc (entObj y)).alloc (entObj y))) ((wr.alloc (entObj y)).alloc (entObj y)) w3 → _) := fun w3 vs' ht hc => HBa.out.added ht hc
      have HLo : Hid _ := HBa.out.lo
      have HNw : Hid _ := HBa.out.new
      have hnilm := HBo.out.nil
      have hcapm := HBo.out.cap
      generalize Cut S wr ((wr.alloc (entObj y)).alloc (entObj y)) = S1 at *
      unfold entObj at HAd HBx HBb HNw
      clear hbA HBa helA HBo HX hyo
      go_wp2_with fail
      refine (show Calls _ _ _ _ _ from HAd.out).mono ?_
      rintro e w3 ⟨rfl, T3, hc3⟩
      obtain ⟨T3', E3, B3, hs3⟩ := HBb.out w3 _ T3 hc3
      obtain ⟨x0, x1, x2, x3, _⟩ := ent_cells (HBx.out w3 hc3)
      have HT3 : Hid (Tab w3 S1 b (addOne vs y)) := T3
      have HN3 : Hid (∀ j, w3.heap.size ≤ j → S1 j) := fun j e => HNw.out j (Nat.le_trans hs3 e)
      have HX3 : Hid _ := HBx.out w3 hc3
      have HRA : Hid _ := addR_any mo c vs y w3 E3 hnilm (by omega) hcapm
      have HB3 : Hid _ := B3
      clear HAd HBx HBb HNw T3 T3' E3 B3 hc3 hs3
      unfold env at HRA
      go_wp2_with fail
      refine (show Calls _ _ _ _ _ from HRA.out).mono ?_
      rintro e w4 ⟨v4, rfl, ho4, hb4⟩
      obtain ⟨mo4, c4, rfl, B4⟩ := Both.listed HLo.out HN3.out HB3.out HT3.out hb4 ho4
      have hbox4 := (hb4.block _ (lt_of_block HX3.out)).trans HX3.out
      obtain ⟨y0, y1, y2, y3, _⟩ := ent_cells hbox4
      generalize Cut S1 w3 w4 = S4 at *
      have HB4 : Hid _ := B4
      have HX4 : Hid _ := hbox4
      clear ho4 hb4 B4 hbox4 HX3 HT3 HN3 HB3 HLo HRA x0 x1 x2 x3
      by_cases h40 : k < 40
      · have h40i : (k : Int) < 40 := by omega
        generalize addOne vs y = vs' at *
        go_wp2_with fail
        generalize wrap64 (max y.seq (-4611686018427387904) - 1) = at_ at *
        have HG : Hid _ := getS y.key at_ w4 HB4.out.tab
        have HR : Hid (∀ wq, Below w4.heap.size w4 wq → _) := fun wq hq => getR_any mo4 c4 vs' y.key at_ wq (HB4.out.els.later hq) (by omega)
        have HXq : Hid (∀ wq, Below w4.heap.size w4 wq → wq.heap[wr.heap.size]? = some (entObj y)) := fun wq hq => (hq.block _ (lt_of_block HX4.out)).trans HX4.out
        unfold foundV env at HG HR
        generalize (getE vs' y.key at_).getD En.zero = E at *
        generalize (getE vs' y.key at_).isSome = F at *
        refine (show Calls _ _ _ _ _ from HG.out).mono ?_
        rintro e w5 ⟨rfl, hb5⟩
        have hs5 := hb5.size
        have hbA5 : Below w4.heap.size w4 (w5.alloc (entObj E)) := hb5.alloc hs5 _
        have HE5 : (w5.alloc (entObj E)).heap[w5.heap.size]? = some (entObj E) := heap_alloc_new w5 _
        obtain ⟨z0, z1, z2, z3, _⟩ := ent_cells (HXq.out _ hbA5)
        have HR5 : Hid _ := HR.out _ hbA5
        have HQ : Hid (∀ w6, Below (w5.alloc (entObj E)).heap.size (w5.alloc (entObj E)) w6 → Below w4.heap.size w4 (w6.alloc (entObj E)) ∧ (w6.alloc (entObj E)).heap[w5.heap.size]? = some (entObj E)) := fun w6 h6 => by
          have hB : Below (w5.alloc (entObj E)).heap.size (w5.alloc (entObj E)) (w6.alloc (entObj E)) := h6.alloc h6.size _
          exact ⟨hbA5.trans (hB.mono hbA5.size), (hB.block _ (lt_of_block HE5)).trans HE5⟩
        unfold entObj at z0 z1 z2 z3 HR5 HQ
        clear hb5 hbA5 HE5 HG HR HXq HX4 y0 y1 y2 y3
        go_wp2_with fail
        refine (show Calls _ _ _ _ _ from HR5.out).mono ?_
        rintro e w6 ⟨rfl, hb6⟩
        obtain ⟨hB6, hE6⟩ := HQ.out w6 hb6
        obtain ⟨a0, a1, a2, a3, _⟩ := ent_cells (e := E) hE6
        have hl56 : w5.heap.size < w6.heap.size := by have := hb6.size; simp at this; omega
        have HB6 : Hid _ := HB4.out.below hB6
        have t0 := HB6.out.tab.cells.1
        have t1 := HB6.out.tab.cells.2.1
        have HBy : Hid _ := bytesR_any mo4 c4 vs' _ HB6.out.els (by omega) (by omega)
        have hns := neq_self
        have hgd := guardEn
        clear hb6 hB6 hE6 HQ HR5 HB4 z0 z1 z2 z3
        generalize Cut S4 w4 (w6.alloc (.cells #[.string E.key, .int .i64 E.seq, .bool E.dead, .string E.val] 31)) = S6 at *
        go_wp2_with fail
        refine (len_any b vs'.length _ t0).mono ?_
        rintro e w7 ⟨rfl, rfl⟩
        go_wp2_with fail
        refine (bytes_any b (bytesE vs') _ t1).mono ?_
        rintro e w7 ⟨rfl, rfl⟩
        go_wp2_with fail
        refine (show Calls _ _ _ _ _ from HBy.out).mono ?_
        rintro e w8 ⟨rfl, hb8⟩
        have HB8 : Hid _ := HB6.out.below hb8
        clear HB6 hb8 HBy t0 t1 a0 a1 a2 a3
        go_wp2
        go_roundw
        case rel => exact ⟨k + 1, mo4, c4, _, by omega, by go_num, by rw [HSt.out], by rw [HSt.out]; exact HB8⟩
        case measure => simp [intOf]; omega
      · have h40i : decide ((k : Int) < 40) = false := by simp; omega
        go_wp2
        go_roundw
        case rel => exact ⟨k + 1, mo4, c4, S4, by omega, by go_num, by rw [HSt.out], by rw [HSt.out]; exact HB4⟩
        case measure => simp [intOf]; omega
    · obtain rfl : k = xs.length := by omega
      obtain ⟨hv1, hv2⟩ := HLen.out xs.length
      rw [List.take_length] at *
      generalize addAll [] xs = vs at *
      have HAl : Hid _ := allS wr HBo.out.tab (by omega)
      have hm1 := HBo.out.cap
      go_wp2_with fail
      refine (show Calls _ _ _ _ _ from HAl.out).mono ?_
      rintro e w3 ⟨v3, rfl, ho3, hb3⟩
      obtain ⟨o3, c3, rfl, _, _, _, he3⟩ := own_rows (F := enShape) ho3
      have HB3 : Hid _ := HBo.out.below hb3
      have HS3 : Hid _ := same_any o3 mo c3 c vs w3 he3 HB3.out.els (by omega)
      clear ho3 hb3 HAl HBo he3
      generalize Cut S wr w3 = S3 at *
      go_wp2_with fail
      refine (show Calls _ _ _ _ _ from HS3.out).mono ?_
      rintro e w4 ⟨rfl, n4, rfl⟩
      have HB4 : Hid _ := HB3.out.below (Y := w3.drewN n4) ⟨rfl, rfl, rfl, Nat.le_refl _, fun _ _ => rfl⟩
      have HF : Hid _ := fromS K (w3.drewN n4) HB4.out.tab (by omega)
      clear HS3 HB3
      generalize Cut S3 w3 (w3.drewN n4) = S4 at *
      generalize w3.drewN n4 = w4 at *
      go_wp2_with fail
      refine (show Calls _ _ _ _ _ from HF.out).mono ?_
      rintro e w5 ⟨v5, rfl, ho5, hb5⟩
      have hs5 := hb5.size
      have HB5 : Hid _ := HB4.out.below hb5
      have HFr : Hid _ := fromR_any mo c vs K w5 HB5.out.els (by omega) hm1
      have HO5 : Hid (w5.ownsRow w4.heap.size 31 4 v5 (fromE vs K).length (enShape.vals (fromE vs K))) := ho5
      have hBw := HB5.out.bel
      have HBw : Hid _ := hBw
      have hlf : (fromE vs K).length ≤ vs.length := (List.dropWhile_sublist _).length_le
      clear HF HB4 ho5 hb5 HB5 hBw
      go_wp2_with fail
      refine (show Calls _ _ _ _ _ from HFr.out).mono ?_
      rintro e w6 ⟨o6, c6, rfl, he6, hb6⟩
      have HO6 : w6.ownsRow w4.heap.size 31 4 v5 (fromE vs K).length (enShape.vals (fromE vs K)) := rows_keep HO5.out fun j hj => hb6.block j (HO5.out.lt j hj).2
      obtain ⟨o5, c5, rfl, _, _, _, he5⟩ := own_rows (F := enShape) HO6
      have HS6 : Hid _ := same_any o5 o6 c5 c6 (fromE vs K) w6 he5 he6 (by omega)
      have HB6 : Hid (∀ j, Below w.heap.size w (w6.drewN j)) := fun j => by
        have h : Below w.heap.size w w6 := HBw.out.trans (hb6.mono HBw.out.size)
        exact ⟨h.os, h.tape, h.output, h.size, h.block⟩
      clear HO6 HO5 he5 he6 hb6 HFr HBw
      go_wp2_with fail
      refine (show Calls _ _ _ _ _ from HS6.out).mono ?_
      rintro e w7 ⟨rfl, n7, rfl⟩
      go_wp2
      go_ret
      exact ⟨rfl, HB6.out _⟩
end Go.Proofs.Ytbbncfgiimkpnaa.Mm
