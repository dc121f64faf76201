/-
  The texts BlockPut.
-/
import Derived.Test.YtedjohkdfchocaaGreatQBlockShare
import Derived.Test.YtedjohkdfchocaaGreatPart2

/-
  Package block's writer: one number, whole number or text put by pack's writer; a version put.
-/
namespace Go.Proofs.YtedjohkdfchocaaGreat.Bk
open Go.RowKit Cm Mm
open Pk (WrAt RdAt Step enc enc_len fold text)
set_option linter.unusedVariables false

theorem same_quiet {f : Nat} {args : Array Value} {w : World} {n : Nat} {v : Value} (h : Calls Tryz.prog f args (w.drewN n) fun e w' => e = .returned v ∧ ∃ m, w' = (w.drewN n).drewN m) : Calls Tryz.prog f args (w.drewN n) fun e w' => e = .returned v ∧ ∃ m, w' = w.drewN m :=
  h.mono fun e w' ⟨h1, m, h2⟩ => ⟨h1, n + m, by rw [h2, World.drewN_drewN]⟩
theorem far {w : World} {base b k : Nat} {r : Option Nat} {bytes : List UInt8} {o : Obj} (h : WrAt w base b r bytes) (hk : w.heap[k]? = some o) (ho : ∀ cs, o ≠ .cells cs 5 (0, 0)) (ho' : ∀ cs, o ≠ .cells cs 125 (0, 0)) : k ≠ b ∧ some k ≠ r := by
  obtain ⟨v, hb, hown, rfl⟩ := h
  refine ⟨?_, ?_⟩
  · rintro rfl
    rw [hk] at hb
    exact ho' _ (by simpa using hb)
  · intro e
    exact rows_far hown hk ho e.symm
theorem row_new {w : World} {base b : Nat} {r : Option Nat} {bytes : List UInt8} (h : WrAt w base b r bytes) : some w.heap.size ≠ r := fun e => by
  have := (h.row_ge _ e.symm).2.1; omega
theorem step_alloc {b : Nat} {w w' : World} {r r' : Option Nat} {o : Obj} (h : Step b (w.alloc o) r w' r') : Step b w r w' r' := (Step.alloc b r w o).trans h

section
variable {base b : Nat} {r : Option Nat} {bytes : List UInt8} (W : World)
theorem put_num (n : Nat) (hw : WrAt W base b r bytes) (hn : n < 18446744073709551616) (hsz : bytes.length + 10 ≤ 140737488355328) (hbase : base ≤ W.heap.size) :
    Calls Tryz.prog 38 #[.pointer (some ⟨b, 0, none⟩), .slice (some ⟨W.heap.size, 0, none⟩) 1 1] (W.alloc (.cells #[.int .u64 n] 59)) fun e w' => e = .returned (.tuple #[]) ∧ ∃ r', WrAt w' base b r' (bytes ++ enc n) ∧ Step b W r w' r' := by
  have hc : ∀ j, j < [n].length → (W.alloc (.cells #[.int .u64 n] 59)).cell? ⟨W.heap.size, 0 + j, none⟩ = some (.int .u64 ([n].getD j 0)) := fun j hj => by
    obtain rfl : j = 0 := by simpa using hj
    rw [Joins.cell_of_block (heap_alloc_new W _)]; rfl
  refine (Pk.wNum_any base b W.heap.size 0 1 r bytes [n] _ (hw.alloc _) (by simpa using hn) hc (by have := hw.lt; omega) (row_new hw) (by simp) (by simpa using hsz) (by simp; omega)).mono ?_
  rintro e w' ⟨rfl, r', h1, h2⟩
  exact ⟨rfl, r', by simpa [Pk.nums] using h1, step_alloc h2⟩
theorem put_int (n : Int) (hw : WrAt W base b r bytes) (h1 : -9223372036854775808 ≤ n) (h2 : n ≤ 9223372036854775807) (hsz : bytes.length + 10 ≤ 140737488355328) (hbase : base ≤ W.heap.size) :
    Calls Tryz.prog 91 #[.pointer (some ⟨b, 0, none⟩), .slice (some ⟨W.heap.size, 0, none⟩) 1 1] (W.alloc (.cells #[.int .i64 n] 3)) fun e w' => e = .returned (.tuple #[]) ∧ ∃ r', WrAt w' base b r' (bytes ++ enc (fold n)) ∧ Step b W r w' r' := by
  have hc : ∀ j, j < [n].length → (W.alloc (.cells #[.int .i64 n] 3)).cell? ⟨W.heap.size, 0 + j, none⟩ = some (.int .i64 ([n].getD j 0)) := fun j hj => by
    obtain rfl : j = 0 := by simpa using hj
    rw [Joins.cell_of_block (heap_alloc_new W _)]; rfl
  refine (Pk.wInt_any base b W.heap.size 0 1 r bytes [n] _ (hw.alloc _) (by simpa using ⟨h1, h2⟩) hc (by have := hw.lt; omega) (row_new hw) (by simp) (by simpa using hsz) (by simp; omega)).mono ?_
  rintro e w' ⟨rfl, r', h1, h2⟩
  exact ⟨rfl, r', by simpa [Pk.ints] using h1, step_alloc h2⟩
theorem put_text (s : ByteArray) (hw : WrAt W base b r bytes) (hsz : bytes.length + s.size + 10 ≤ 140737488355328) (hbase : base ≤ W.heap.size) :
    Calls Tryz.prog 39 #[.pointer (some ⟨b, 0, none⟩), .slice (some ⟨W.heap.size, 0, none⟩) 1 1] (W.alloc (.cells #[.string s] 9)) fun e w' => e = .returned (.tuple #[]) ∧ ∃ r', WrAt w' base b r' (bytes ++ text (bs s)) ∧ Step b W r w' r' := by
  have hc : ∀ j, j < [s].length → (W.alloc (.cells #[.string s] 9)).cell? ⟨W.heap.size, 0 + j, none⟩ = some (.string ([s].getD j ByteArray.empty)) := fun j hj => by
    obtain rfl : j = 0 := by simpa using hj
    rw [Joins.cell_of_block (heap_alloc_new W _)]; rfl
  have hl := (text_len (bs s)).1
  rw [bs_len] at hl
  refine (Pk.wText_any base b W.heap.size 0 1 r bytes [s] _ (hw.alloc _) hc (by have := hw.lt; omega) (row_new hw) (by simp) ?_ ?_ (by simp [maxLen]) (by simp; omega)).mono ?_
  · intro k hk
    match k, hk with
    | 0, _ => simp [Pk.texts]; omega
    | 1, _ => simp [Pk.texts]; unfold bs at hl; omega
  · intro k hk
    match k, hk with
    | 0, _ => simp; omega
    | 1, _ => simp
  rintro e w' ⟨rfl, r', h1, h2⟩
  exact ⟨rfl, r', by simpa [Pk.texts, bs] using h1, step_alloc h2⟩
end

def bwObj (b : Nat) (L : ByteArray) : Obj := .cells #[.pointer (some ⟨b, 0, none⟩), .string L] 118 (0, 0)
/-- A writer of versions, block q over pack's writer b; a version's box g beside it; all from base on is its own. -/
structure VS (w : World) (base q b g : Nat) (L : ByteArray) (e : En) (r : Option Nat) (bytes : List UInt8) (X : World) : Prop where
  hq : X.heap[q]? = some (bwObj b L)
  hg : X.heap[g]? = some (entObj e)
  wr : WrAt X base b r bytes
  bel : Below base w X
section
variable {w X Y : World} {base q b g : Nat} {L : ByteArray} {e : En} {r r' : Option Nat} {bytes bytes' : List UInt8}
theorem VS.step (h : VS w base q b g L e r bytes X) (hb : base ≤ b) (hB : base ≤ w.heap.size) (hs : Step b X r Y r') (hw : WrAt Y base b r' bytes') : VS w base q b g L e r' bytes' Y := by
  have fq := far h.wr h.hq (fun cs e => by simp [bwObj] at e) (fun cs e => by simp [bwObj] at e)
  have fg := far h.wr h.hg (fun cs e => by simp [entObj] at e) (fun cs e => by simp [entObj] at e)
  refine ⟨(hs.kept.block q (lt_of_block h.hq) fq.1 fq.2).trans h.hq, (hs.kept.block g (lt_of_block h.hg) fg.1 fg.2).trans h.hg, hw, h.bel.trans (hs.below (Nat.le_trans hB h.bel.size) hb (fun k hk => (h.wr.row_ge k hk).1))⟩
theorem VS.drewN (h : VS w base q b g L e r bytes X) (n : Nat) : VS w base q b g L e r bytes (X.drewN n) := by
  refine ⟨h.hq, h.hg, h.wr.keep rfl (fun _ _ => rfl), ⟨h.bel.os, h.bel.tape, h.bel.output, h.bel.size, h.bel.block⟩⟩
theorem VS.cells (h : VS w base q b g L e r bytes X) : X.cell? ⟨q, 0, none⟩ = some (.pointer (some ⟨b, 0, none⟩)) ∧ X.cell? ⟨q, 1, none⟩ = some (.string L) ∧ X.cell? ⟨g, 0, none⟩ = some (.string e.key) ∧ X.cell? ⟨g, 1, none⟩ = some (.int .i64 e.seq) ∧ X.cell? ⟨g, 2, none⟩ = some (.bool e.dead) ∧ X.cell? ⟨g, 3, none⟩ = some (.string e.val) ∧ X.frozen? ⟨q, 1, none⟩ = false := by
  obtain ⟨h0, h1, h2, h3, _⟩ := ent_cells h.hg
  refine ⟨by rw [Joins.cell_of_block h.hq]; rfl, by rw [Joins.cell_of_block h.hq]; rfl, h0, h1, h2, h3, by simp [World.frozen?, h.hq, bwObj]⟩
theorem VS.size (h : VS w base q b g L e r bytes X) : w.heap.size ≤ X.heap.size := h.bel.size
end
/-- The writer alone. -/
structure WS (w : World) (base q b : Nat) (L : ByteArray) (r : Option Nat) (bytes : List UInt8) (X : World) : Prop where
  hq : X.heap[q]? = some (bwObj b L)
  wr : WrAt X base b r bytes
  bel : Below base w X
theorem VS.stored {w X : World} {base q b g : Nat} {L : ByteArray} {e : En} {r : Option Nat} {bytes : List UInt8} (h : VS w base q b g L e r bytes X) (hq : base ≤ q) (K : ByteArray) : WS w base q b K r bytes (X.setCell ⟨q, 1, none⟩ (.string K)) := by
  have fq := far h.wr h.hq (fun cs e => by simp [bwObj] at e) (fun cs e => by simp [bwObj] at e)
  refine ⟨?_, h.wr.keep (Below.heap_setCell _ _ _ _ (by simpa using fq.1.symm)) (fun k hk => Below.heap_setCell _ _ _ _ (by simp; rintro rfl; exact fq.2 hk.symm)), h.bel.setCell (by simpa using hq) _⟩
  have := Joins.block_setCell h.hq (i := 1) (.string K)
  simpa [bwObj] using this

theorem bs_rest (s : ByteArray) (k : Nat) : bs (s.extract k s.size) = (bs s).drop k := by
  unfold bs
  rw [Lib.extract_data, Lib.size_eq, List.take_of_length_le]
  simp
theorem enc0 : enc 0 = [0] := by decide +kernel
theorem enc1 : enc 1 = [1] := by decide +kernel
theorem piece_bytes {L : ByteArray} {e : En} {k : Nat} {R : ByteArray} {bytes : List UInt8} (hk : k = share (bs L) (bs e.key)) (hR : bs R = (bs e.key).drop k) :
    bytes ++ piece (bs L) e = (((bytes ++ enc k) ++ text (bs R)) ++ enc (fold e.seq)) ++ mark e.dead (bs e.val) := by
  subst hk
  have : bs (pc (bs L) e).rest = bs R := by rw [hR]; exact bs_mk _
  unfold piece Pc.bytes
  rw [this]
  simp only [List.append_assoc]
  rfl

set_option maxRecDepth 100000 in
set_option maxHeartbeats 2000000 in
theorem version_any (base q b : Nat) (L : ByteArray) (e : En) (r : Option Nat) (bytes : List UInt8) (w : World) (hq : w.heap[q]? = some (bwObj b L)) (hw : WrAt w base b r bytes) (hok : e.ok) (hL : L.size ≤ 1000000000000) (hK : e.key.size ≤ 1000000000000) (hV : e.val.size ≤ 1000000000000)
    (hsz : bytes.length + e.key.size + e.val.size + 60 ≤ 140737488355328) (hbase : base ≤ w.heap.size) (hbq : base ≤ q) (hbb : base ≤ b) :
    Calls Tryz.prog 70 #[.pointer (some ⟨q, 0, none⟩), env e] w fun x w' => x = .returned (.tuple #[]) ∧ ∃ r', WS w base q b e.key r' (bytes ++ piece (bs L) e) w' := by
  obtain ⟨k, hk⟩ : ∃ k, k = share (bs L) (bs e.key) := ⟨_, rfl⟩
  have hkl : k ≤ e.key.size := by have := (share_le (bs L) (bs e.key)).2; rw [bs_len] at this; omega
  obtain ⟨R, hR⟩ : ∃ R, R = e.key.extract k e.key.size := ⟨_, rfl⟩
  have hRb : bs R = (bs e.key).drop k := by rw [hR, bs_rest]
  have hRs : R.size ≤ e.key.size := by rw [← bs_len, hRb, List.length_drop, bs_len]; omega
  have HF : Hid _ := piece_bytes (bytes := bytes) hk hRb
  have HSh : Hid (∀ wq, Calls Tryz.prog 90 #[.string L, .string e.key] wq fun x w' => x = .returned (.int .i64 (k : Nat)) ∧ ∃ n, w' = wq.drewN n) := fun wq => by rw [hk]; exact shared_any L e.key wq hL hK
  have HR : Hid (e.key.extract k e.key.size = R) := hR.symm
  have hlq := lt_of_block hq
  have V0 : VS w base q b w.heap.size L e r bytes (w.alloc (entObj e)) := ⟨(Below.heap_alloc _ _ _ hlq).trans hq, heap_alloc_new w _, hw.alloc _, (Below.refl _ _).alloc hbase _⟩
  have HV0 : Hid _ := V0
  unfold entObj at HV0
  have he1 := hok.1
  have he2 := hok.2
  have hel := (enc_len k).2
  have htl := (text_len (bs R)).1
  rw [bs_len] at htl
  have hfl := (enc_len (fold e.seq)).2
  have hkr1 : (0 : Int) ≤ (k : Int) := by omega
  have hkr2 : (k : Int) ≤ (e.key.size : Int) := by omega
  clear hk hR hRb V0
  unfold env
  go_enter Tryz.func70, Tryz.ntmps70
  obtain ⟨c0, c1, d0, d1, d2, d3, _⟩ := HV0.out.cells
  go_wp2_with fail
  go_quiet ((go_at_call 90; exact same_quiet (HSh.out _)))
  obtain ⟨w1, hw1⟩ : ∃ w1, w1 = (w.alloc (.cells #[.string e.key, .int .i64 e.seq, .bool e.dead, .string e.val] 25)).drewN nq := ⟨_, rfl⟩
  have HV1 : Hid (VS w base q b w.heap.size L e r bytes w1) := by rw [hw1]; exact HV0.out.drewN nq
  rw [← hw1]
  clear hw1 HV0 c0 c1 d0 d1 d2 d3 HSh
  obtain ⟨c0, c1, d0, d1, d2, d3, _⟩ := HV1.out.cells
  go_wp2_with fail
  refine (put_num _ k HV1.out.wr (by omega) (by omega) (Nat.le_trans hbase HV1.out.size)).mono ?_
  rintro x w2 ⟨rfl, r2, hw2, hs2⟩
  have HV2 : Hid (VS w base q b w.heap.size L e r2 (bytes ++ enc k) w2) := HV1.out.step hbb hbase hs2 hw2
  clear hw2 hs2 HV1 c0 c1 d0 d1 d2 d3
  obtain ⟨c0, c1, d0, d1, d2, d3, _⟩ := HV2.out.cells
  go_wp2_with fail
  have HP3 : Hid (Calls Tryz.prog 39 #[.pointer (some ⟨b, 0, none⟩), .slice (some ⟨w2.heap.size, 0, none⟩) 1 1] (w2.drew.alloc (.cells #[.string (e.key.extract k e.key.size)] 9)) fun x w' => x = .returned (.tuple #[]) ∧ ∃ r', VS w base q b w.heap.size L e r' (bytes ++ enc k ++ text (bs R)) w') := by
    rw [HR.out]
    exact (put_text w2.drew R (HV2.out.drewN 1).wr (by simp; omega) (Nat.le_trans hbase HV2.out.size)).mono fun x w' ⟨h1, r', h2, h3⟩ => ⟨h1, r', (HV2.out.drewN 1).step hbb hbase h3 h2⟩
  go_region_held3 (fun w' => w'.cell? ⟨q, 0, none⟩ = some (.pointer (some ⟨b, 0, none⟩)) ∧ w'.cell? ⟨w.heap.size, 0, none⟩ = some (.string e.key)) (first | with_reducible exact ⟨c0, d0⟩ | exact ⟨c0, d0⟩ | exact ⟨hv3.cells.1, hv3.cells.2.2.1⟩ | go_keep)
    ((go_at_call 39; refine (show Calls _ _ _ _ _ from HP3.out).mono ?_; rintro x w3 ⟨rfl, r3, hv3⟩))
  have HV3 : Hid _ := hv3
  clear hv3 HP3 HV2 HR c0 c1 d0 d1 d2 d3
  obtain ⟨c0, c1, d0, d1, d2, d3, _⟩ := HV3.out.cells
  go_wp2_with fail
  have HP4 : Hid (Calls Tryz.prog 91 #[.pointer (some ⟨b, 0, none⟩), .slice (some ⟨w3.heap.size, 0, none⟩) 1 1] (w3.drew.alloc (.cells #[.int .i64 e.seq] 3)) fun x w' => x = .returned (.tuple #[]) ∧ ∃ r', VS w base q b w.heap.size L e r' (bytes ++ enc k ++ text (bs R) ++ enc (fold e.seq)) w') :=
    (put_int w3.drew e.seq (HV3.out.drewN 1).wr he1 he2 (by simp; omega) (Nat.le_trans hbase HV3.out.size)).mono fun x w' ⟨h1, r', h2, h3⟩ => ⟨h1, r', (HV3.out.drewN 1).step hbb hbase h3 h2⟩
  go_region_held3 (fun w' => w'.cell? ⟨q, 0, none⟩ = some (.pointer (some ⟨b, 0, none⟩)) ∧ w'.cell? ⟨w.heap.size, 1, none⟩ = some (.int .i64 e.seq)) (first | with_reducible exact ⟨c0, d1⟩ | exact ⟨c0, d1⟩ | exact ⟨hv4.cells.1, hv4.cells.2.2.2.1⟩ | go_keep)
    ((go_at_call 91; refine (show Calls _ _ _ _ _ from HP4.out).mono ?_; rintro x w4 ⟨rfl, r4, hv4⟩))
  have HV4 : Hid _ := hv4
  have hl4 : (bytes ++ enc k ++ text (bs R) ++ enc (fold e.seq)).length ≤ bytes.length + e.key.size + 30 := by simp; omega
  generalize bytes ++ enc k ++ text (bs R) ++ enc (fold e.seq) = bytes4 at *
  clear hv4 HP4 HV3 c0 c1 d0 d1 d2 d3
  obtain ⟨c0, c1, d0, d1, d2, d3, _⟩ := HV4.out.cells
  cases hd : e.dead
  · rw [hd] at d2 HF
    go_wp2_with fail
    refine (put_num _ 0 HV4.out.wr (by omega) (by omega) (Nat.le_trans hbase HV4.out.size)).mono ?_
    rintro x w5 ⟨rfl, r5, hw5, hs5⟩
    have HV5 : Hid (VS w base q b w.heap.size L e r5 (bytes4 ++ enc 0) w5) := HV4.out.step hbb hbase hs5 hw5
    clear hw5 hs5 HV4 c0 c1 d0 d1 d2 d3
    obtain ⟨c0, c1, d0, d1, d2, d3, _⟩ := HV5.out.cells
    have HP6 : Hid (Calls Tryz.prog 39 #[.pointer (some ⟨b, 0, none⟩), .slice (some ⟨w5.heap.size, 0, none⟩) 1 1] (w5.drew.alloc (.cells #[.string e.val] 9)) fun x w' => x = .returned (.tuple #[]) ∧ ∃ r', VS w base q b w.heap.size L e r' (bytes4 ++ enc 0 ++ text (bs e.val)) w') :=
      (put_text w5.drew e.val (HV5.out.drewN 1).wr (by rw [enc0]; simp; omega) (Nat.le_trans hbase HV5.out.size)).mono fun x w' ⟨h1, r', h2, h3⟩ => ⟨h1, r', (HV5.out.drewN 1).step hbb hbase h3 h2⟩
    go_wp2_with fail
    go_region_held3 (fun w' => w'.cell? ⟨q, 0, none⟩ = some (.pointer (some ⟨b, 0, none⟩)) ∧ w'.cell? ⟨w.heap.size, 3, none⟩ = some (.string e.val)) (first | with_reducible exact ⟨c0, d3⟩ | exact ⟨c0, d3⟩ | exact ⟨hv6.cells.1, hv6.cells.2.2.2.2.2.1⟩ | go_keep)
      ((go_at_call 39; refine (show Calls _ _ _ _ _ from HP6.out).mono ?_; rintro x w6 ⟨rfl, r6, hv6⟩))
    have HE : Hid _ := hv6.stored hbq e.key
    obtain ⟨c0, c1, d0, d1, d2, d3, f1⟩ := hv6.cells
    clear hv6 HP6 HV5
    go_wp2
    go_end0
    refine ⟨rfl, r6, ?_⟩
    rw [HF.out]
    have := HE.out
    rw [List.append_assoc, enc0] at this
    exact this
  · rw [hd] at d2 HF
    go_wp2_with fail
    refine (put_num _ 1 HV4.out.wr (by omega) (by omega) (Nat.le_trans hbase HV4.out.size)).mono ?_
    rintro x w5 ⟨rfl, r5, hw5, hs5⟩
    have hv5 : VS w base q b w.heap.size L e r5 (bytes4 ++ enc 1) w5 := HV4.out.step hbb hbase hs5 hw5
    clear hw5 hs5 HV4 c0 c1 d0 d1 d2 d3
    have HE : Hid _ := hv5.stored hbq e.key
    obtain ⟨c0, c1, d0, d1, d2, d3, f1⟩ := hv5.cells
    clear hv5
    go_wp2
    go_end0
    refine ⟨rfl, r5, ?_⟩
    rw [HF.out]
    have := HE.out
    rw [enc1] at this
    exact this

end Go.Proofs.YtedjohkdfchocaaGreat.Bk
