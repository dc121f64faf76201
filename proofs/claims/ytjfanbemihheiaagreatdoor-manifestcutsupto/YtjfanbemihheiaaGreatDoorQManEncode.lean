/-
  Package manifest: an edit's bytes, written.
-/
import Derived.Test.YtjfanbemihheiaaGreatDoorQManApply
import Derived.Test.YtjfanbemihheiaaGreatDoorQManText
import Derived.Test.YtjfanbemihheiaaGreatDoorPart1
namespace Go.Proofs.YtjfanbemihheiaaGreatDoor.Ma
open Go.RowKit Cm
open Pk (WrAt RdAt Step enc enc_len fold)
set_option linter.unusedVariables false

theorem wr_far {w : World} {base b k : Nat} {r : Option Nat} {bytes : List UInt8} {o : Obj} (h : WrAt w base b r bytes) (hk : w.heap[k]? = some o) (ho : ∀ cs, o ≠ .cells cs 5 (0, 0)) (ho' : ∀ cs, o ≠ .cells cs 115 (0, 0)) : k ≠ b ∧ some k ≠ r := by
  obtain ⟨v, hb, hown, rfl⟩ := h
  refine ⟨?_, ?_⟩
  · rintro rfl
    rw [hk] at hb
    exact ho' _ (by simpa using hb)
  · intro e
    exact rows_far hown hk ho e.symm
theorem wr_alloc {w : World} {base b : Nat} {r : Option Nat} {bs : List UInt8} (h : WrAt w base b r bs) (o : Obj) : WrAt (w.alloc o) base b r bs :=
  h.keep (Below.heap_alloc _ _ _ h.lt) fun k hk => Below.heap_alloc _ _ _ (h.row_ge k hk).2.1
theorem wr_row_new {w : World} {base b : Nat} {r : Option Nat} {bytes : List UInt8} (h : WrAt w base b r bytes) : some w.heap.size ≠ r := fun e => by
  have := (h.row_ge _ e.symm).2.1; omega
theorem wr_step_alloc {b : Nat} {w w' : World} {r r' : Option Nat} {o : Obj} (h : Step b (w.alloc o) r w' r') : Step b w r w' r' := (Step.alloc b r w o).trans h
theorem ints_is (l : List Int) : Pk.ints l = intsB l := rfl

section
variable {base b : Nat} {r : Option Nat} {bytes : List UInt8} (W : World)
theorem putN (n : Nat) (hw : WrAt W base b r bytes) (hn : n < 18446744073709551616) (hsz : bytes.length + 10 ≤ 140737488355328) (hbase : base ≤ W.heap.size) :
    Calls Tryz.prog 30 #[.pointer (some ⟨b, 0, none⟩), .slice (some ⟨W.heap.size, 0, none⟩) 1 1] (W.alloc (.cells #[.int .u64 n] 62)) fun e w' => e = .returned (.tuple #[]) ∧ ∃ r', WrAt w' base b r' (bytes ++ enc n) ∧ Step b W r w' r' := by
  have hc : ∀ j, j < [n].length → (W.alloc (.cells #[.int .u64 n] 62)).cell? ⟨W.heap.size, 0 + j, none⟩ = some (.int .u64 ([n].getD j 0)) := fun j hj => by
    obtain rfl : j = 0 := by simpa using hj
    rw [Joins.cell_of_block (heap_alloc_new W _)]; rfl
  refine (Pk.wNum_any base b W.heap.size 0 1 r bytes [n] _ (wr_alloc hw _) (by simpa using hn) hc (by have := hw.lt; omega) (wr_row_new hw) (by simp) (by simpa using hsz) (by simp; omega)).mono ?_
  rintro e w' ⟨rfl, r', h1, h2⟩
  exact ⟨rfl, r', by simpa [Pk.nums] using h1, wr_step_alloc h2⟩
/-- Whole numbers of a fresh array. -/
theorem putIs (xs : List Int) (hw : WrAt W base b r bytes) (hx : ∀ x ∈ xs, OkI x) (hsz : bytes.length + 10 * xs.length ≤ 140737488355328) (hbase : base ≤ W.heap.size) :
    Calls Tryz.prog 31 #[.pointer (some ⟨b, 0, none⟩), .slice (some ⟨W.heap.size, 0, none⟩) xs.length xs.length] (W.alloc (.cells (xs.map (Value.int .i64)).toArray 3)) fun e w' => e = .returned (.tuple #[]) ∧ ∃ r', WrAt w' base b r' (bytes ++ intsB xs) ∧ Step b W r w' r' := by
  have hc : ∀ j, j < xs.length → (W.alloc (.cells (xs.map (Value.int .i64)).toArray 3)).cell? ⟨W.heap.size, 0 + j, none⟩ = some (.int .i64 (xs.getD j 0)) := fun j hj => by
    rw [Joins.cell_of_block (heap_alloc_new W _)]; simp [hj]
  refine (Pk.wInt_any base b W.heap.size 0 xs.length r bytes xs _ (wr_alloc hw _) hx hc (by have := hw.lt; omega) (wr_row_new hw) (by simp) hsz (by simp; omega)).mono ?_
  rintro e w' ⟨rfl, r', h1, h2⟩
  exact ⟨rfl, r', by rwa [ints_is] at h1, wr_step_alloc h2⟩
set_option maxRecDepth 100000 in
theorem wInt_none (v : Value) (ao : Option Addr) (c : Nat) : Calls Tryz.prog 31 #[.pointer (some ⟨b, 0, none⟩), .slice ao 0 c] W fun e w' => e = .returned (.tuple #[]) ∧ w' = W := by
  go_enter Tryz.func31, Tryz.ntmps31
  go_wp2
  go_loop [8] (fun i => i = .int .i64 0) (fun i => 0)
  case atStart => rfl
  case round =>
    subst hrel
    go_wp2
    go_end0
    exact ⟨rfl, rfl⟩
/-- Whole numbers of a slice that was there. -/
theorem putDel (w : World) (ns : List Int) (ao : Option Addr) (c : Nat) (hw : WrAt W base b r bytes) (h : FarNums w (fun _ => False) ao ns) (hb : Below w.heap.size w W) (hx : ∀ x ∈ ns, OkI x) (hsz : bytes.length + 10 * ns.length ≤ 140737488355328) (hbase : base ≤ W.heap.size) (hwb : w.heap.size ≤ base) (hbb : w.heap.size ≤ b) :
    Calls Tryz.prog 31 #[.pointer (some ⟨b, 0, none⟩), .slice ao ns.length c] W fun e w' => e = .returned (.tuple #[]) ∧ ∃ r', WrAt w' base b r' (bytes ++ intsB ns) ∧ Step b W r w' r' := by
  rcases h with rfl | ⟨g, off, rfl, hlt, _, hc⟩
  · refine (wInt_none W (.bool false) ao c).mono ?_
    rintro e w' ⟨rfl, rfl⟩
    exact ⟨rfl, r, by simpa [intsB] using hw, Step.refl _ _ _⟩
  · refine (Pk.wInt_any base b g off c r bytes ns W hw hx (fun j hj => ?_) (by omega) (fun e => by have := (hw.row_ge g e.symm).1; omega) (by have := hb.size; omega) hsz hbase).mono ?_
    · rw [World.cell?_of_block (hb.block g hlt), hc j hj]; simp [hj]
    · rintro e w' ⟨rfl, r', h1, h2⟩
      exact ⟨rfl, r', by rwa [ints_is] at h1, h2⟩
end

/-- A writer of an edit: the edit's box at base, pack's writer b behind it. -/
structure WE (w : World) (base b : Nat) (a d : Value) (e : Ed) (r : Option Nat) (bytes : List UInt8) (X : World) : Prop where
  hg : X.heap[base]? = some (edObj a d e)
  wr : WrAt X base b r bytes
  bel : Below base w X
section
variable {w X Y : World} {base b : Nat} {a d : Value} {e : Ed} {r r' : Option Nat} {bytes bytes' : List UInt8}
theorem WE.step (h : WE w base b a d e r bytes X) (hb : base ≤ b) (hB : base ≤ w.heap.size) (hs : Step b X r Y r') (hw : WrAt Y base b r' bytes') : WE w base b a d e r' bytes' Y := by
  have f := wr_far h.wr h.hg (fun cs e => by simp [edObj] at e) (fun cs e => by simp [edObj] at e)
  exact ⟨(hs.kept.block base (lt_of_block h.hg) f.1 f.2).trans h.hg, hw, h.bel.trans (hs.below (Nat.le_trans hB h.bel.size) hb (fun k hk => (h.wr.row_ge k hk).1))⟩
theorem WE.alloc (h : WE w base b a d e r bytes X) (hB : base ≤ w.heap.size) (o : Obj) : WE w base b a d e r bytes (X.alloc o) :=
  ⟨(Below.heap_alloc _ _ _ (lt_of_block h.hg)).trans h.hg, wr_alloc h.wr o, h.bel.alloc (Nat.le_trans hB h.bel.size) o⟩
end
/-- What is answered: the bytes, or that the edit isn't right. -/
def encA (e : Ed) : Value := if right e then .tuple #[.string ⟨(encE e).toArray⟩, .int .i64 0] else .tuple #[.string ⟨#[]⟩, .int .i64 11]
theorem encE_start (e : Ed) : encE e = (enc e.add.length ++ filesB e.add) ++ enc e.del.length ++ intsB e.del ++ intsB [e.wal, e.next, e.seq] := by
  unfold encE
  simp only [List.append_assoc, intsB, List.flatMap_cons, List.flatMap_nil, List.append_nil]
theorem filesB_snoc (l : List Fi) (k : Nat) (h : k < l.length) : filesB (l.take (k + 1)) = filesB (l.take k) ++ intsB [(l.getD k (0, 0)).1, (l.getD k (0, 0)).2] := by
  rw [take_at h (d := (0, 0))]
  simp [filesB, fiB, intsB]
theorem filesB_take (l : List Fi) (k : Nat) : (filesB (l.take k)).length ≤ 20 * k := by
  have := (filesB_len (l.take k)).2
  rw [List.length_take] at this
  omega
set_option maxRecDepth 100000 in
set_option maxHeartbeats 2000000 in
theorem encode_any (aa : Option Addr) (ca : Nat) (ad : Option Addr) (cd : Nat) (e : Ed) (w : World) (h : EdAt w (fun _ => False) aa ca ad cd e) (hok : e.Ok') :
    Calls Tryz.prog 9 #[edV (.slice aa e.add.length ca) (.slice ad e.del.length cd) e] w fun x w' => x = .returned (encA e) ∧ Below w.heap.size w w' := by
  obtain ⟨m, hm⟩ : ∃ m, m = e.add.length := ⟨_, rfl⟩
  obtain ⟨n, hn⟩ : ∃ n, n = e.del.length := ⟨_, rfl⟩
  have hfew := h.few
  have HM : Hid (m = e.add.length) := hm
  have HN : Hid (n = e.del.length) := hn
  have HE : Hid (EdAt w (fun _ => False) aa ca ad cd e) := h
  have HOk : Hid e.Ok' := hok
  obtain ⟨W0, hW0⟩ : ∃ W0, W0 = w.alloc (edObj (.slice aa m ca) (.slice ad n cd) e) := ⟨_, rfl⟩
  have hb0 : Below w.heap.size w W0 := by rw [hW0]; exact (Below.refl _ _).alloc (Nat.le_refl _) _
  have hg0 : W0.heap[w.heap.size]? = some (edObj (.slice aa m ca) (.slice ad n cd) e) := by rw [hW0]; exact heap_alloc_new w _
  have hR := right_any aa ca ad cd e W0 (h.keep (fun k hk _ => hb0.block k hk) hb0.size)
  rw [← hm, ← hn] at hfew hR ⊢
  have HR : Hid _ := hR
  have HB0 : Hid (Below w.heap.size w W0) := hb0
  have HG0 : Hid (W0.heap[w.heap.size]? = some (edObj (.slice aa m ca) (.slice ad n cd) e)) := hg0
  have hW0' : w.alloc (.cells #[.slice aa m ca, .slice ad n cd, .int .i64 e.wal, .int .i64 e.next, .int .i64 e.seq] 30) = W0 := hW0.symm
  obtain ⟨y0, y1, y2, y3, y4⟩ := ed_cells hg0
  unfold edV at HR ⊢
  clear h hm hn hok hb0 hg0 hR hW0
  go_enter Tryz.func9, Tryz.ntmps9
  go_wp2_with fail
  refine (show Calls _ _ _ _ _ from HR.out).mono ?_
  rintro x w1 ⟨rfl, hb1⟩
  have HB1 : Hid (Below w.heap.size w w1) := HB0.out.trans (hb1.mono HB0.out.size)
  have HG1 : Hid (w1.heap[w.heap.size]? = some (edObj (.slice aa m ca) (.slice ad n cd) e)) := (hb1.block _ (lt_of_block HG0.out)).trans HG0.out
  clear hb1 HB0 HG0 HR hW0' y0 y1 y2 y3 y4
  cases hr : right e
  · have HA : Hid (encA e = .tuple #[.string ⟨#[]⟩, .int .i64 11]) := by show _ = _; unfold encA; rw [hr]; rfl
    go_wp2
    refine bodyPost_ret (v := .tuple #[.string ⟨#[]⟩, .int .i64 11]) (by simp [results, Tryz.results9, go_sem]) rfl ?_
    exact ⟨by rw [HA.out], HB1.out⟩
  · have HA : Hid (encA e = .tuple #[.string ⟨(encE e).toArray⟩, .int .i64 0]) := by show _ = _; unfold encA; rw [hr]; rfl
    have hbs := HB1.out.size
    have hlg := lt_of_block HG1.out
    have HW2 : Hid (WE w w.heap.size w1.heap.size (.slice aa m ca) (.slice ad n cd) e none [] (w1.alloc (.cells #[.slice none 0 0] 115))) :=
      ⟨(Below.heap_alloc _ _ _ hlg).trans HG1.out, Pk.new_wr w1 w.heap.size, HB1.out.alloc (by omega) _⟩
    go_wp2_with fail
    refine (Pk.new_any _ 0 (Nat.zero_le _)).mono ?_
    rintro x w2 ⟨rfl, rfl⟩
    obtain ⟨w2, hw2⟩ : ∃ w2, w2 = w1.alloc (.cells #[.slice none 0 0] 115) := ⟨_, rfl⟩
    rw [← hw2] at HW2 ⊢
    obtain ⟨b, hb⟩ : ∃ b, b = w1.heap.size := ⟨_, rfl⟩
    rw [← hb] at HW2 ⊢
    have hbb : w.heap.size ≤ b := by omega
    obtain ⟨y0, y1, y2, y3, y4⟩ := ed_cells HW2.out.hg
    have hP := putN w2 m HW2.out.wr (by omega) (by simp) HW2.out.bel.size
    have HP : Hid _ := hP
    clear hP hw2 hb hlg HG1 HB1 hbs
    go_wp2_with fail
    refine (show Calls _ _ _ _ _ from HP.out).mono ?_
    rintro x w3 ⟨rfl, r3, hw3, hs3⟩
    have HW3 : Hid (WE w w.heap.size b (.slice aa m ca) (.slice ad n cd) e r3 (enc m) w3) := by
      have := HW2.out.step hbb (Nat.le_refl _) hs3 hw3
      show WE _ _ _ _ _ _ _ _ _
      simpa using this
    clear hw3 hs3 HP HW2 y0 y1 y2 y3 y4
    obtain ⟨y0, y1, y2, y3, y4⟩ := ed_cells HW3.out.hg
    go_wp2
    go_loopw [21] (fun i wr => ∃ (k : Nat) (r : Option Nat), k ≤ m ∧ i = .int .i64 k ∧ Hid (WE w w.heap.size b (.slice aa m ca) (.slice ad n cd) e r (enc m ++ filesB (e.add.take k)) wr)) (fun i _ => m - (intOf i).toNat)
    case atStart => exact ⟨0, r3, by omega, rfl, by simpa [Hid, filesB] using HW3.out⟩
    case round =>
      clear y0 y1 y2 y3 y4
      obtain ⟨k, r, hk, rfl, HW⟩ := hrel
      by_cases hlt : k < m
      · have hka : k < e.add.length := by have := HM.out; omega
        obtain ⟨pb, off, rfl, e0, e1⟩ := HE.out.add.get (Chg.of_below HW.out.bel) hka
        have hof := HOk.out.add (e.add.getD k (0, 0)) (by rw [getD_lt _ _ _ hka]; exact List.getElem_mem _)
        have HS : Hid (filesB (e.add.take (k + 1)) = filesB (e.add.take k) ++ intsB [(e.add.getD k (0, 0)).1, (e.add.getD k (0, 0)).2]) := filesB_snoc _ _ hka
        have hlf := filesB_take e.add k
        have hle := (enc_len m).2
        generalize e.add.getD k (0, 0) = f at *
        obtain ⟨W1, hW1⟩ : ∃ W1, W1 = wr.alloc (.cells #[.int .i64 f.1, .int .i64 f.2] 53) := ⟨_, rfl⟩
        have HW1 : Hid (WE w w.heap.size b (.slice (some ⟨pb, off, none⟩) m ca) (.slice ad n cd) e r (enc m ++ filesB (e.add.take k)) W1) := by rw [hW1]; exact HW.out.alloc (Nat.le_refl _) _
        have hf1 : W1.heap[wr.heap.size]? = some (.cells #[.int .i64 f.1, .int .i64 f.2] 53 (0, 0)) := by rw [hW1]; exact heap_alloc_new wr _
        have f0 : W1.cell? ⟨wr.heap.size, 0, none⟩ = some (.int .i64 f.1) := by rw [Joins.cell_of_block hf1]; rfl
        have f1 : W1.cell? ⟨wr.heap.size, 1, none⟩ = some (.int .i64 f.2) := by rw [Joins.cell_of_block hf1]; rfl
        have hP := putIs W1 [f.1, f.2] HW1.out.wr (by intro x hx; simp at hx; rcases hx with rfl | rfl; exact hof.1; exact hof.2) (by simp; omega) HW1.out.bel.size
        have HP : Hid _ := hP
        have hW1' := hW1.symm
        clear hP hW1 hf1 hka hof
        go_wp2_with fail
        refine (show Calls _ _ _ _ _ from HP.out).mono ?_
        rintro x w4 ⟨rfl, r4, hw4, hs4⟩
        have HW4 : Hid (WE w w.heap.size b (.slice (some ⟨pb, off, none⟩) m ca) (.slice ad n cd) e r4 (enc m ++ filesB (e.add.take (k + 1))) w4) := by
          rw [HS.out, ← List.append_assoc]
          exact HW1.out.step hbb (Nat.le_refl _) hs4 hw4
        clear hw4 hs4 HP HW1 HW f0 f1 hW1' e0 e1
        go_wp2
        go_roundw
        case rel => exact ⟨k + 1, r4, by omega, by go_num, HW4⟩
        case measure => simp [intOf]; omega
      · obtain rfl : k = m := by omega
        have HW5 : Hid (WE w w.heap.size b (.slice aa k ca) (.slice ad n cd) e r (enc k ++ filesB e.add) wr) := by
          have := HW.out
          rwa [show e.add.take k = e.add by rw [HM.out, List.take_length]] at this
        have hfl := (filesB_len e.add).2
        rw [← HM.out] at hfl
        have hl5 : (enc k ++ filesB e.add).length ≤ 20 * k + 10 := by have := (enc_len k).2; rw [List.length_append]; omega
        clear hlt HW HW3 hfl
        obtain ⟨y0, y1, y2, y3, y4⟩ := ed_cells HW5.out.hg
        have hP := putN wr n HW5.out.wr (by omega) (by omega) HW5.out.bel.size
        have HP : Hid _ := hP
        clear hP
        go_wp2_with fail
        refine (show Calls _ _ _ _ _ from HP.out).mono ?_
        rintro x w6 ⟨rfl, r6, hw6, hs6⟩
        have HW6 : Hid (WE w w.heap.size b (.slice aa k ca) (.slice ad n cd) e r6 (enc k ++ filesB e.add ++ enc n) w6) := HW5.out.step hbb (Nat.le_refl _) hs6 hw6
        have hl6 : (enc k ++ filesB e.add ++ enc n).length ≤ 20 * k + 20 := by have := (enc_len n).2; rw [List.length_append]; omega
        clear hw6 hs6 HP HW5 y0 y1 y2 y3 y4 hl5
        obtain ⟨y0, y1, y2, y3, y4⟩ := ed_cells HW6.out.hg
        have hP := putDel w6 w e.del ad cd HW6.out.wr HE.out.del HW6.out.bel HOk.out.del (by rw [← HN.out]; omega) HW6.out.bel.size (Nat.le_refl _) hbb
        rw [← HN.out] at hP
        have HP : Hid _ := hP
        clear hP
        go_wp2_with fail
        refine (show Calls _ _ _ _ _ from HP.out).mono ?_
        rintro x w7 ⟨rfl, r7, hw7, hs7⟩
        have HW7 : Hid (WE w w.heap.size b (.slice aa k ca) (.slice ad n cd) e r7 (enc k ++ filesB e.add ++ enc n ++ intsB e.del) w7) := HW6.out.step hbb (Nat.le_refl _) hs7 hw7
        have hl7 : (enc k ++ filesB e.add ++ enc n ++ intsB e.del).length ≤ 20 * k + 20 + 10 * n := by have := (intsB_len e.del).2; rw [← HN.out] at this; rw [List.length_append]; omega
        clear hw7 hs7 HP HW6 y0 y1 y2 y3 y4 hl6
        obtain ⟨y0, y1, y2, y3, y4⟩ := ed_cells HW7.out.hg
        have hP := putIs w7 [e.wal, e.next, e.seq] HW7.out.wr (by intro x hx; simp at hx; rcases hx with rfl | rfl | rfl; exact HOk.out.wal; exact HOk.out.next; exact HOk.out.seq) (by show _ + 10 * 3 ≤ _; omega) HW7.out.bel.size
        have HP : Hid _ := hP
        clear hP
        go_wp2_with fail
        refine (show Calls _ _ _ _ _ from HP.out).mono ?_
        rintro x w8 ⟨rfl, r8, hw8, hs8⟩
        have HW8 : Hid (WE w w.heap.size b (.slice aa k ca) (.slice ad n cd) e r8 (encE e) w8) := by
          have := HW7.out.step hbb (Nat.le_refl _) hs8 hw8
          show WE _ _ _ _ _ _ _ _ _
          have hE : enc k ++ filesB e.add ++ enc n ++ intsB e.del ++ intsB [e.wal, e.next, e.seq] = encE e := by rw [encE_start, ← HM.out, ← HN.out]
          rwa [hE] at this
        clear hw8 hs8 HP HW7 y0 y1 y2 y3 y4 hl7
        go_wp2_with fail
        refine (Pk.wBytes_any _ _ _ _ _ HW8.out.wr).mono ?_
        rintro x w9 ⟨rfl, rfl⟩
        go_wp2
        refine bodyPost_ret (v := .tuple #[.string ⟨(encE e).toArray⟩, .int .i64 0]) (by simp [results, Tryz.results9, go_sem]) rfl ?_
        exact ⟨by rw [HA.out], HW8.out.bel⟩
end Go.Proofs.YtjfanbemihheiaaGreatDoor.Ma
