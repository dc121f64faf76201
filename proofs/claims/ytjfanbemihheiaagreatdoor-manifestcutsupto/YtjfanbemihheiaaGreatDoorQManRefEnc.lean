/-
  The reference: an edit's bytes.
-/
import Derived.Test.YtjfanbemihheiaaGreatDoorQManRow
import Derived.Test.YtjfanbemihheiaaGreatDoorQManRef
import Derived.Test.YtjfanbemihheiaaGreatDoorQManRefPut
import Derived.Test.YtjfanbemihheiaaGreatDoorPart2
import Derived.Deep.RegionHeld3
namespace Go.Proofs.YtjfanbemihheiaaGreatDoor.Ma
open Go.RowKit Cm
open Pk (enc enc_len fold)
set_option linter.unusedVariables false

/-- The bytes so far; the edit's box at the base. -/
structure EB (w : World) (a d : Value) (e : Ed) (v : Value) (l : List UInt8) (X : World) : Prop where
  row : RowZ X w.heap.size v l
  box : X.heap[w.heap.size]? = some (edObj a d e)
  bel : Below w.heap.size w X
/-- A file's box beside them. -/
structure EF (w : World) (a d : Value) (e : Ed) (g : Nat) (f : Fi) (v : Value) (l : List UInt8) (X : World) : Prop where
  eb : EB w a d e v l X
  fbox : X.heap[g]? = some (fiObj f)
section
variable {w X Y : World} {g : Nat} {e : Ed} {f : Fi} {a d v v' : Value} {l l' : List UInt8}
theorem EB.below (h : EB w a d e v l X) (hb : Below X.heap.size X Y) : EB w a d e v l Y := ⟨h.row.below hb, (hb.block _ (lt_of_block h.box)).trans h.box, h.bel.trans (hb.mono h.bel.size)⟩
theorem EB.alloc (h : EB w a d e v l X) (o : Obj) : EB w a d e v l (X.alloc o) := h.below ((Below.refl _ _).alloc (Nat.le_refl _) _)
theorem EB.drew (h : EB w a d e v l X) : EB w a d e v l X.drew := ⟨h.row.keep (fun _ _ => rfl), h.box, ⟨h.bel.os, h.bel.tape, h.bel.output, h.bel.size, h.bel.block⟩⟩
theorem EB.grow (h : EB w a d e v l X) (hr : RowZ Y w.heap.size v' l') (hg : X.grownBy Y v.ownBlock) : EB w a d e v' l' Y :=
  ⟨hr, (hg.block _ (lt_of_block h.box) (fun q => h.row.far h.box (fun cs fz q => by simp [edObj] at q) q.symm)).trans h.box, h.bel.grown hg h.bel.size (fun k hk => (h.row.lt k hk).1)⟩
theorem EF.below (h : EF w a d e g f v l X) (hb : Below X.heap.size X Y) : EF w a d e g f v l Y := ⟨h.eb.below hb, (hb.block _ (lt_of_block h.fbox)).trans h.fbox⟩
theorem EF.drew (h : EF w a d e g f v l X) : EF w a d e g f v l X.drew := ⟨h.eb.drew, h.fbox⟩
theorem EF.grow (h : EF w a d e g f v l X) (hr : RowZ Y w.heap.size v' l') (hg : X.grownBy Y v.ownBlock) : EF w a d e g f v' l' Y :=
  ⟨h.eb.grow hr hg, (hg.block _ (lt_of_block h.fbox) (fun q => h.eb.row.far h.fbox (fun cs fz q => by simp [fiObj] at q) q.symm)).trans h.fbox⟩
theorem EF.cells (h : EF w a d e g f v l X) : X.cell? ⟨g, 0, none⟩ = some (.int .i64 f.1) ∧ X.cell? ⟨g, 1, none⟩ = some (.int .i64 f.2) := fb_cells h.fbox
end
theorem intB_ba (n : Int) : (⟨(enc (fold n)).toArray⟩ : ByteArray).size ≤ 10 := by
  rw [← bs_len, bs_mk]; exact (enc_len _).2
theorem enc_sum (l : List UInt8) (a b c : Int) : (⟨l.toArray⟩ : ByteArray) ++ ⟨(enc (fold a)).toArray⟩ ++ ⟨(enc (fold b)).toArray⟩ ++ ⟨(enc (fold c)).toArray⟩ = ⟨(l ++ intsB [a, b, c]).toArray⟩ := by
  apply ByteArray.ext
  simp [intsB, intB]
set_option maxRecDepth 100000 in
set_option maxHeartbeats 4000000 in
theorem encodeR_any (aa : Option Addr) (ca : Nat) (ad : Option Addr) (cd : Nat) (e : Ed) (w : World) (h : EdAt w (fun _ => False) aa ca ad cd e) (hok : e.Ok') :
    Calls Tryz.prog 13 #[edV (.slice aa e.add.length ca) (.slice ad e.del.length cd) e] w fun x w' => x = .returned (encA e) ∧ Below w.heap.size w w' := by
  obtain ⟨m, hm⟩ : ∃ m, m = e.add.length := ⟨_, rfl⟩
  obtain ⟨n, hn⟩ : ∃ n, n = e.del.length := ⟨_, rfl⟩
  have hfew := h.few
  have HM : Hid (m = e.add.length) := hm
  have HN : Hid (n = e.del.length) := hn
  have HE : Hid (EdAt w (fun _ => False) aa ca ad cd e) := h
  have HOk : Hid e.Ok' := hok
  obtain ⟨W0, hW0⟩ : ∃ W0, W0 = w.alloc (edObj (.slice aa m ca) (.slice ad n cd) e) := ⟨_, rfl⟩
  have hb0 : Below w.heap.size w W0 := by rw [hW0]; exact (Below.refl _ _).alloc (Nat.le_refl _) _
  have hg0 : W0.heap[w.heap.size]? = some (edObj (.slice aa m ca) (.slice ad n cd) e) := by rw [hW0]; exact heap_alloc_new w _
  have hR := rightR_any aa ca ad cd e W0 (h.keep (fun k hk _ => hb0.block k hk) hb0.size)
  rw [← hm, ← hn] at hfew hR ⊢
  have HR : Hid _ := hR
  have HB0 : Hid (Below w.heap.size w W0) := hb0
  have HG0 : Hid (W0.heap[w.heap.size]? = some (edObj (.slice aa m ca) (.slice ad n cd) e)) := hg0
  have hW0' : w.alloc (.cells #[.slice aa m ca, .slice ad n cd, .int .i64 e.wal, .int .i64 e.next, .int .i64 e.seq] 30) = W0 := hW0.symm
  obtain ⟨y0, y1, y2, y3, y4⟩ := ed_cells hg0
  unfold edV at HR ⊢
  clear h hm hn hok hb0 hg0 hR hW0
  go_enter Tryz.func13, Tryz.ntmps13
  go_wp2_with fail
  refine (show Calls _ _ _ _ _ from HR.out).mono ?_
  rintro x w1 ⟨rfl, hb1⟩
  have HB1 : Hid (Below w.heap.size w w1) := HB0.out.trans (hb1.mono HB0.out.size)
  have HG1 : Hid (w1.heap[w.heap.size]? = some (edObj (.slice aa m ca) (.slice ad n cd) e)) := (hb1.block _ (lt_of_block HG0.out)).trans HG0.out
  clear hb1 HB0 HG0 HR hW0' y0 y1 y2 y3 y4
  cases hr : right e
  · have HA : Hid (encA e = .tuple #[.string ⟨#[]⟩, .int .i64 11]) := by show _ = _; unfold encA; rw [hr]; rfl
    go_wp2
    refine bodyPost_ret (v := .tuple #[.string ⟨#[]⟩, .int .i64 11]) (by simp [results, Tryz.results13, go_sem]) rfl ?_
    exact ⟨by rw [HA.out], HB1.out⟩
  · have HA : Hid (encA e = .tuple #[.string ⟨(encE e).toArray⟩, .int .i64 0]) := by show _ = _; unfold encA; rw [hr]; rfl
    have hbs := HB1.out.size
    obtain ⟨y0, y1, y2, y3, y4⟩ := ed_cells HG1.out
    go_wp2_with fail
    refine (Pk.refNum_any m _ (by omega)).mono ?_
    rintro x w2 ⟨rfl, hb2⟩
    have HB2 : Hid (Below w.heap.size w w2) := HB1.out.trans (hb2.mono HB1.out.size)
    have HG2 : Hid (w2.heap[w.heap.size]? = some (edObj (.slice aa m ca) (.slice ad n cd) e)) := (hb2.block _ (lt_of_block HG1.out)).trans HG1.out
    have hsz : (⟨(enc m).toArray⟩ : ByteArray).size ≤ 10 := by rw [← bs_len, bs_mk]; exact (enc_len _).2
    have hcv := Lib.run_convert_string_bytes (P := Tryz.prog) w2 9 65 5 ⟨(enc m).toArray⟩ Tryz.underlying9 Tryz.underlying65 Tryz.underlying5
    have HZ : Hid (RowZ (Lib.bytesWorld w2 5 ⟨(enc m).toArray⟩) w.heap.size (.slice (some ⟨w2.heap.size, 0, none⟩) (⟨(enc m).toArray⟩ : ByteArray).size (grownCap w2 (⟨(enc m).toArray⟩ : ByteArray).size 0 5)) (enc m)) := by
      have := RowZ.made w2 ⟨(enc m).toArray⟩ w.heap.size HB2.out.size (by unfold maxLen; omega)
      rw [bs_mk] at this
      exact this
    have hmb := made_below w2 ⟨(enc m).toArray⟩
    have HEB : Hid (EB w (.slice aa m ca) (.slice ad n cd) e _ (enc m) (Lib.bytesWorld w2 5 ⟨(enc m).toArray⟩)) := ⟨HZ.out, (hmb.block _ (lt_of_block HG2.out)).trans HG2.out, HB2.out.trans (hmb.mono HB2.out.size)⟩
    clear hb2 HB1 HG1 HZ hmb y0 y1 y2 y3 y4 HB2 HG2 hbs
    generalize Lib.bytesWorld w2 5 ⟨(enc m).toArray⟩ = w3 at *
    obtain ⟨y0, y1, y2, y3, y4⟩ := ed_cells HEB.out.box
    go_wp2
    clear hcv y0 y1 y2 y3 y4
    go_loopw [4, 21] (fun bv i wr => ∃ k : Nat, k ≤ m ∧ i = .int .i64 k ∧ Hid (EB w (.slice aa m ca) (.slice ad n cd) e bv (enc m ++ filesB (e.add.take k)) wr)) (fun _ i _ => m - (intOf i).toNat)
    case atStart =>
      refine ⟨0, by omega, rfl, ?_⟩
      have h1 : (⟨(enc m).toArray⟩ : ByteArray).size = (enc m).length := by rw [← bs_len, bs_mk]
      have h2 := HEB.out
      rw [h1] at h2
      show EB _ _ _ _ _ (enc m ++ filesB (e.add.take 0)) _
      rw [List.take_zero, show enc m ++ filesB [] = enc m by simp [filesB]]
      exact h2
    case round =>
      clear HEB hsz
      obtain ⟨k, hk, rfl, HW⟩ := hrel
      by_cases hlt : k < m
      · have hka : k < e.add.length := by have := HM.out; omega
        obtain ⟨pb, off, rfl, e0, e1⟩ := HE.out.add.get (Chg.of_below HW.out.bel) hka
        have hof := HOk.out.add (e.add.getD k (0, 0)) (by rw [getD_lt _ _ _ hka]; exact List.getElem_mem _)
        have HS : Hid (enc m ++ filesB (e.add.take (k + 1)) = enc m ++ filesB (e.add.take k) ++ intB (e.add.getD k (0, 0)).1 ++ intB (e.add.getD k (0, 0)).2) := by show _ = _; rw [filesB_snoc _ _ hka]; simp [intsB]
        have hlf := filesB_take e.add k
        have hle := (enc_len m).2
        generalize e.add.getD k (0, 0) = f at *
        have hlen : (enc m ++ filesB (e.add.take k)).length ≤ 20 * k + 10 := by rw [List.length_append]; omega
        have HF0 : Hid (EF w (.slice (some ⟨pb, off, none⟩) m ca) (.slice ad n cd) e wr.heap.size f u4 (enc m ++ filesB (e.add.take k)) (wr.alloc (fiObj f))) := ⟨HW.out.alloc _, heap_alloc_new wr _⟩
        have HI1 : Hid (∀ X, Calls Tryz.prog 38 #[.int .i64 f.1] X fun x w' => x = .returned (.string ⟨(intB f.1).toArray⟩) ∧ Below X.heap.size X w') := fun X => Pk.refInt_any f.1 X hof.1.1 hof.1.2
        have HI2 : Hid (∀ X, Calls Tryz.prog 38 #[.int .i64 f.2] X fun x w' => x = .returned (.string ⟨(intB f.2).toArray⟩) ∧ Below X.heap.size X w') := fun X => Pk.refInt_any f.2 X hof.2.1 hof.2.2
        have l1 := (intB_len f.1).2
        have l2 := (intB_len f.2).2
        obtain ⟨f0, f1⟩ := HF0.out.cells
        have HFd : Hid _ := HF0.out.drew
        generalize enc m ++ filesB (e.add.take k) = pre at *
        have h63a : pre.length + (intB f.1).length ≤ 140737488355328 := by omega
        have h63b : (pre ++ intB f.1).length + (intB f.2).length ≤ 140737488355328 := by rw [List.length_append]; omega
        unfold fiObj at HF0 f0 f1 HFd
        clear hka hof HW hlf
        go_wp2_with fail
        go_region_held3 (fun w' => w'.cell? ⟨wr.heap.size, 0, none⟩ = some (.int .i64 f.1) ∧ w'.cell? ⟨wr.heap.size, 1, none⟩ = some (.int .i64 f.2)) (first | exact ⟨f0, f1⟩ | exact h8.cells | exact h5.cells | exact hB.cells | exact hA.cells | go_keep)
          (first
            | (go_at_call 38; refine (show Calls _ _ _ _ _ from HI1.out _).mono ?_; rintro x wA ⟨rfl, hbA⟩; have hA := (HFd.out.below hbA : EF w _ _ e wr.heap.size f _ pre wA))
            | (go_at_call 38; refine (show Calls _ _ _ _ _ from HI2.out _).mono ?_; rintro x wB ⟨rfl, hbB⟩; have hB := (by first | exact h5.below hbB | exact hA.below hbB : EF w _ _ e wr.heap.size f _ _ wB))
            | (refine step_rowz _ (by rfl) (.tmp 25) (.tmp 28) 9 (by rfl) w.heap.size u4 _ pre (intB f.1) _ (by rfl) (by rfl) (by first | exact hB.eb.row | exact hA.eb.row) (src_str _ _) h63a (by first | exact hB.eb.bel.size | exact hA.eb.bel.size) ?_; intro v5 w5 hr5 hg5; have h5 := (by first | exact hB.grow hr5 hg5 | exact hA.grow hr5 hg5 : EF w _ _ e wr.heap.size f v5 (pre ++ intB f.1) w5))
            | (refine step_rowz _ (by rfl) (.tmp 29) (.tmp 32) 9 (by rfl) w.heap.size v5 _ (pre ++ intB f.1) (intB f.2) _ (by rfl) (by rfl) (by first | exact h5.eb.row | exact hB.eb.row) (src_str _ _) h63b (by first | exact h5.eb.bel.size | exact hB.eb.bel.size) ?_; intro v8 w8 hr8 hg8; have h8 := (by first | exact h5.grow hr8 hg8 | exact hB.grow hr8 hg8 : EF w _ _ e wr.heap.size f v8 (pre ++ intB f.1 ++ intB f.2) w8))
            | fail)
        all_goals
          have HE8 : Hid _ := h8.eb
          clear h8 h5 hA hB hr5 hg5 hr8 hg8 hbA hbB HF0 HFd f0 f1 HI1 HI2
          go_wp2
          go_roundw
          case rel => exact ⟨k + 1, by omega, by go_num, by show EB _ _ _ _ _ _ _; rw [HS.out]; exact HE8.out⟩
          case measure => simp [intOf]; omega
      · obtain rfl : k = m := by omega
        have HB5 : Hid (EB w (.slice aa k ca) (.slice ad n cd) e u4 (enc k ++ filesB e.add) wr) := by
          have := HW.out
          rwa [show e.add.take k = e.add by rw [HM.out, List.take_length]] at this
        have hfl := (filesB_len e.add).2
        rw [← HM.out] at hfl
        have hl5 : (enc k ++ filesB e.add).length ≤ 20 * k + 10 := by have := (enc_len k).2; rw [List.length_append]; omega
        clear hlt HW hfl
        obtain ⟨y0, y1, y2, y3, y4⟩ := ed_cells HB5.out.box
        have hln := (enc_len n).2
        go_wp2_with fail
        refine (Pk.refNum_any n _ (by omega)).mono ?_
        rintro x w6 ⟨rfl, hb6⟩
        have HB6 : Hid _ := HB5.out.below hb6
        clear hb6 HB5 y0 y1 y2 y3 y4
        go_wp2_with (at_builtin; refine wpList_rowz _ rfl _ _ 9 rfl w.heap.size _ _ (enc k ++ filesB e.add) (enc n) _ rfl rfl HB6.out.row (src_str _ _) ?c1 HB6.out.bel.size ?_)
        case c1 => omega
        intro v7 w7 hr7 hg7
        have HB7 : Hid (EB w (.slice aa k ca) (.slice ad n cd) e v7 (enc k ++ filesB e.add ++ enc n) w7) := by
          have := HB6.out.grow hr7 hg7
          show EB _ _ _ _ _ _ _
          rw [List.append_assoc]
          exact this
        have hl7 : (enc k ++ filesB e.add ++ enc n).length ≤ 20 * k + 20 := by rw [List.length_append]; omega
        clear hr7 hg7 HB6 hl5
        obtain ⟨y0, y1, y2, y3, y4⟩ := ed_cells HB7.out.box
        go_wp2
        clear y0 y1 y2 y3 y4
        go_loopw [4, 45] (fun bv i wr => ∃ j : Nat, j ≤ n ∧ i = .int .i64 j ∧ Hid (EB w (.slice aa k ca) (.slice ad n cd) e bv (enc k ++ filesB e.add ++ enc n ++ intsB (e.del.take j)) wr)) (fun _ i _ => n - (intOf i).toNat)
        case atStart =>
          refine ⟨0, by omega, rfl, ?_⟩
          show EB _ _ _ _ _ (enc k ++ filesB e.add ++ enc n ++ intsB (e.del.take 0)) _
          rw [List.take_zero, show enc k ++ filesB e.add ++ enc n ++ intsB [] = enc k ++ filesB e.add ++ enc n by simp [intsB]]
          exact HB7.out
        case round =>
          clear HB7
          obtain ⟨j, hj, rfl, HW⟩ := hrel
          by_cases hlt : j < n
          · have hja : j < e.del.length := by have := HN.out; omega
            obtain ⟨pb, off, rfl, e0⟩ := HE.out.del.get (Chg.of_below HW.out.bel) hja
            have hof := HOk.out.del (e.del.getD j 0) (by rw [getD_lt _ _ _ hja]; exact List.getElem_mem _)
            have HS : Hid (enc k ++ filesB e.add ++ enc n ++ intsB (e.del.take (j + 1)) = enc k ++ filesB e.add ++ enc n ++ intsB (e.del.take j) ++ intB (e.del.getD j 0)) := by
              show _ = _
              rw [take_at hja (d := 0)]
              simp [intsB]
            have hlj := (intsB_len (e.del.take j)).2
            rw [List.length_take] at hlj
            generalize e.del.getD j 0 = z at *
            have hlen : (enc k ++ filesB e.add ++ enc n ++ intsB (e.del.take j)).length ≤ 20 * k + 20 + 10 * j := by rw [List.length_append]; omega
            have l1 := (intB_len z).2
            generalize enc k ++ filesB e.add ++ enc n ++ intsB (e.del.take j) = pre at *
            go_wp2_with fail
            refine (Pk.refInt_any z _ hof.1 hof.2).mono ?_
            rintro x w8 ⟨rfl, hb8⟩
            have HB8 : Hid _ := HW.out.below hb8
            clear hb8 HW e0
            go_wp2_with (at_builtin; refine wpList_rowz _ rfl _ _ 9 rfl w.heap.size _ _ pre (intB z) _ rfl rfl HB8.out.row (src_str _ _) ?c1 HB8.out.bel.size ?_)
            case c1 => omega
            intro v9 w9 hr9 hg9
            have HB9 : Hid _ := HB8.out.grow hr9 hg9
            clear hr9 hg9 HB8
            go_wp2
            go_roundw
            case rel => exact ⟨j + 1, by omega, by go_num, by show EB _ _ _ _ _ _ _; rw [HS.out]; exact HB9.out⟩
            case measure => simp [intOf]; omega
          · obtain rfl : j = n := by omega
            have HB10 : Hid (EB w (.slice aa k ca) (.slice ad j cd) e u4 (enc k ++ filesB e.add ++ enc j ++ intsB e.del) wr) := by
              have := HW.out
              rwa [show e.del.take j = e.del by rw [HN.out, List.take_length]] at this
            have hfl := (intsB_len e.del).2
            rw [← HN.out] at hfl
            have hl10 : (enc k ++ filesB e.add ++ enc j ++ intsB e.del).length ≤ 20 * k + 20 + 10 * j := by rw [List.length_append]; omega
            have HEnd : Hid (enc k ++ filesB e.add ++ enc j ++ intsB e.del ++ intsB [e.wal, e.next, e.seq] = encE e) := by show _ = _; rw [encE_start, ← HM.out, ← HN.out]
            clear hlt HW hfl
            generalize enc k ++ filesB e.add ++ enc j ++ intsB e.del = pre at *
            have hst := RowZ.string HB10.out.row
            have HId : Hid (EB w (.slice aa k ca) (.slice ad j cd) e u4 pre wr.drew) := HB10.out.drew
            obtain ⟨y0, y1, y2, y3, y4⟩ := ed_cells HId.out.box
            have hstd := RowZ.string HId.out.row
            have HStr : Hid (∀ X, RowZ X w.heap.size u4 pre → (convert 65 9 u4).run Tryz.prog X = .ok (.string ⟨pre.toArray⟩) X) := fun X h => RowZ.string h
            have HI1 : Hid (∀ X, Calls Tryz.prog 38 #[.int .i64 e.wal] X fun x w' => x = .returned (.string ⟨(intB e.wal).toArray⟩) ∧ Below X.heap.size X w') := fun X => Pk.refInt_any e.wal X HOk.out.wal.1 HOk.out.wal.2
            have HI2 : Hid (∀ X, Calls Tryz.prog 38 #[.int .i64 e.next] X fun x w' => x = .returned (.string ⟨(intB e.next).toArray⟩) ∧ Below X.heap.size X w') := fun X => Pk.refInt_any e.next X HOk.out.next.1 HOk.out.next.2
            have HI3 : Hid (∀ X, Calls Tryz.prog 38 #[.int .i64 e.seq] X fun x w' => x = .returned (.string ⟨(intB e.seq).toArray⟩) ∧ Below X.heap.size X w') := fun X => Pk.refInt_any e.seq X HOk.out.seq.1 HOk.out.seq.2
            have HSum : Hid ((⟨pre.toArray⟩ : ByteArray) ++ ⟨(intB e.wal).toArray⟩ ++ ⟨(intB e.next).toArray⟩ ++ ⟨(intB e.seq).toArray⟩ = ⟨(encE e).toArray⟩) := by show _ = _; rw [← HEnd.out]; exact enc_sum _ _ _ _
            have z0 : (⟨pre.toArray⟩ : ByteArray).size ≤ 20 * k + 20 + 10 * j := by rw [← bs_len, bs_mk]; exact hl10
            have z1 : (⟨(intB e.wal).toArray⟩ : ByteArray).size ≤ 10 := intB_ba _
            have z2 : (⟨(intB e.next).toArray⟩ : ByteArray).size ≤ 10 := intB_ba _
            have z3 : (⟨(intB e.seq).toArray⟩ : ByteArray).size ≤ 10 := intB_ba _
            clear HEnd hl10 hln HE HOk HM HN HB10
            generalize (⟨pre.toArray⟩ : ByteArray) = P at *
            generalize (⟨(intB e.wal).toArray⟩ : ByteArray) = A1 at *
            generalize (⟨(intB e.next).toArray⟩ : ByteArray) = A2 at *
            generalize (⟨(intB e.seq).toArray⟩ : ByteArray) = A3 at *
            have q1 : ¬ (9223372036854775807 < P.size + A1.size) := by omega
            have q2 : ¬ (9223372036854775807 < P.size + A1.size + A2.size) := by omega
            have q3 : ¬ (9223372036854775807 < P.size + A1.size + A2.size + A3.size) := by omega
            go_wp2_with fail
            go_region_held3 (fun w' => w'.cell? ⟨w.heap.size, 2, none⟩ = some (.int .i64 e.wal) ∧ w'.cell? ⟨w.heap.size, 3, none⟩ = some (.int .i64 e.next) ∧ w'.cell? ⟨w.heap.size, 4, none⟩ = some (.int .i64 e.seq) ∧ (convert 65 9 u4).run Tryz.prog w' = .ok (.string P) w') (first | exact ⟨y2, y3, y4, hstd⟩ | exact cC | exact cB | exact cA | go_keep)
              (first
                | (go_at_call 38; refine (show Calls _ _ _ _ _ from HI1.out _).mono ?_; rintro x wA ⟨rfl, hbA⟩; have hA := HId.out.below hbA; have cA := (⟨(ed_cells hA.box).2.2.1, (ed_cells hA.box).2.2.2.1, (ed_cells hA.box).2.2.2.2, HStr.out _ hA.row⟩ : _ ∧ _ ∧ _ ∧ _))
                | (go_at_call 38; refine (show Calls _ _ _ _ _ from HI2.out _).mono ?_; rintro x wB ⟨rfl, hbB⟩; have hB := hA.below hbB; have cB := (⟨(ed_cells hB.box).2.2.1, (ed_cells hB.box).2.2.2.1, (ed_cells hB.box).2.2.2.2, HStr.out _ hB.row⟩ : _ ∧ _ ∧ _ ∧ _))
                | (go_at_call 38; refine (show Calls _ _ _ _ _ from HI3.out _).mono ?_; rintro x wC ⟨rfl, hbC⟩; have hC := hB.below hbC; have cC := (⟨(ed_cells hC.box).2.2.1, (ed_cells hC.box).2.2.2.1, (ed_cells hC.box).2.2.2.2, HStr.out _ hC.row⟩ : _ ∧ _ ∧ _ ∧ _)))
            have HC : Hid (Below w.heap.size w wC) := hC.bel
            clear hA hB hC cA cB cC hbA hbB hbC y0 y1 y2 y3 y4 hst hstd HStr HI1 HI2 HI3 HId
            go_wp2
            refine bodyPost_ret (v := .tuple #[.string (P ++ A1 ++ A2 ++ A3), .int .i64 0]) (by simp [results, Tryz.results13, go_sem]) rfl ?_
            exact ⟨by rw [HA.out, HSum.out], HC.out⟩
end Go.Proofs.YtjfanbemihheiaaGreatDoor.Ma
