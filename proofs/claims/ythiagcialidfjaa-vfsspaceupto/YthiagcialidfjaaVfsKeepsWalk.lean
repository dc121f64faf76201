/-
  The walk of the statement VfsKeeps.
-/
import Derived.Test.YthiagcialidfjaaVfsLives
import Derived.Laws.Concat
namespace Go.Proofs.Ythiagcialidfjaa.Vf
open Go.RowKit Cm
set_option linter.unusedVariables false

def LOG : ByteArray := ⟨#[108, 111, 103]⟩
/-- One file, LOG, behind k appends. -/
def logF (k : Nat) (f : File) (y : Name) : Option File := if y = [108, 111, 103] then (if k = 0 then none else some f) else none
theorem logF_zero (f : File) : logF 0 f = fun _ => none := by funext y; simp [logF]
theorem logF_log (k : Nat) (f : File) (h : k ≠ 0) : logF k f [108, 111, 103] = some f := by simp [logF, h]
theorem logF_set (k : Nat) (f g : File) : setF (logF k f) [108, 111, 103] (some g) = logF (k + 1) g := by
  funext y; unfold setF logF; by_cases e : y = [108, 111, 103] <;> simp [e]
theorem logF_old (k : Nat) (f : File) (h : k = 0 → f = ⟨[], 0⟩) : oldM (logF k f) [108, 111, 103] = f := by
  unfold oldM
  by_cases h0 : k = 0
  · subst h0; rw [logF_zero, h rfl]; rfl
  · rw [logF_log _ _ h0]; rfl
theorem logF_names (k : Nat) (f : File) (h : k ≠ 0) : Names (logF k f) [[108, 111, 103]] := names_one (f := f) fun y => by unfold logF; simp [h]
theorem logF_crash (k : Nat) (f : File) (h : k ≠ 0) (keep : List Int) : (fun x => crashed (logF k f) keep x [[108, 111, 103]]) = logF 1 (f.left (keep.getD 0 0)) := by
  funext y
  unfold crashed
  by_cases e : y = [108, 111, 103]
  · subst e; rw [if_pos (by simp), logF_log _ _ h]; simp [logF]
  · rw [if_neg (by simpa using e)]; simp [logF, e]
theorem take_extract (T : ByteArray) (m : Nat) : (T.extract 0 m).data.toList = T.data.toList.take m := by
  rw [ByteArray.data_extract, Array.toList_extract]
  simp [List.extract]
theorem left_text (T : ByteArray) (n : Nat) (z : Int) (h : n ≤ T.size) : ∃ X : ByteArray, File.left ⟨T.data.toList, n⟩ z = ⟨X.data.toList, X.data.toList.length⟩ ∧ n ≤ X.size ∧ X.size ≤ T.size ∧ T.extract 0 X.size = X := by
  have hl : T.data.toList.length = T.size := by rw [← Lib.size_eq]
  obtain ⟨m, hm⟩ : ∃ m, m = n + (min (max z 0) ((T.data.toList.length : Int) - n)).toNat := ⟨_, rfl⟩
  have h1 : n ≤ m := by omega
  have h2 : m ≤ T.size := by omega
  have hX : (T.extract 0 m).size = m := by rw [ByteArray.size_extract]; omega
  refine ⟨T.extract 0 m, ?_, by omega, by omega, by rw [hX]⟩
  have hl2 : (T.extract 0 m).data.toList.length = m := by rw [← Lib.size_eq, hX]
  rw [hl2, take_extract]
  unfold File.left
  simp only [← hm]
theorem left_whole (X : ByteArray) (z : Int) : File.left ⟨X.data.toList, X.data.toList.length⟩ z = ⟨X.data.toList, X.data.toList.length⟩ := by
  have hn : X.data.toList.length + (min (max z 0) ((X.data.toList.length : Int) - X.data.toList.length)).toNat = X.data.toList.length := by omega
  unfold File.left
  simp only [hn, List.take_length]
theorem left_all (T : ByteArray) (n : Nat) (h : n ≤ T.size) (hT : T.size ≤ 1152921504606846976) : File.left ⟨T.data.toList, n⟩ 1152921504606846976 = ⟨T.data.toList, T.data.toList.length⟩ := by
  have hl : T.data.toList.length = T.size := by rw [← Lib.size_eq]
  have hn : n + (min (max (1152921504606846976 : Int) 0) ((T.data.toList.length : Int) - n)).toNat = T.data.toList.length := by omega
  unfold File.left
  simp only [hn, List.take_length]
theorem cat_step (xs : List ByteArray) (k : Nat) (h : k < xs.length) (T : ByteArray) (hT : T.data.toList = cat (xs.take k)) : (T ++ xs.getD k ByteArray.empty).data.toList = cat (xs.take (k + 1)) := by
  rw [cat_snoc xs k h, ByteArray.data_append, Array.toList_append, hT]
theorem cat_size (xs : List ByteArray) (k : Nat) (T : ByteArray) (hT : T.data.toList = cat (xs.take k)) : T.size = total (xs.take k) := by
  rw [Lib.size_eq, hT, cat_len]
/-- What stands behind k rounds. -/
structure KeepsAt (w0 wr : World) (xs : List ByteArray) (k : Nat) (T : ByteArray) (n : Nat) : Prop where
  text : T.data.toList = cat (xs.take k)
  calm : ∃ a c, Calm wr w0.heap.size (w0.heap.size + 1) (logF k ⟨T.data.toList, n⟩) a c ∧ a ≤ 2 * k ∧ c ≤ 2 * k
  size : w0.heap.size ≤ wr.heap.size
theorem KeepsAt.zero {w0 wr : World} {xs : List ByteArray} {T : ByteArray} {n : Nat} (h : KeepsAt w0 wr xs 0 T n) (hn : n ≤ T.size) : (⟨T.data.toList, n⟩ : File) = ⟨[], 0⟩ := by
  have h1 := h.text
  have h2 := cat_size xs 0 T h.text
  have h3 : T.size = 0 := by rw [h2]; simp [total]
  have : n = 0 := by omega
  subst this
  rw [h1]
  simp [cat]

set_option maxRecDepth 100000 in
set_option maxHeartbeats 2000000 in
theorem keeps_walk (ax ay az : Option Addr) (cx cy cz : Nat) (xs : List ByteArray) (ys zs : List Int) (w : World) (hx : CellsAt w ax (strVals xs)) (hy : CellsAt w ay (ys.map I64)) (hz : CellsAt w az (zs.map I64))
    (hyr : ∀ y ∈ ys, -9223372036854775808 ≤ y ∧ y ≤ 9223372036854775807)
    (hb : xs.length + total xs ≤ 2199023255552) (hyl : ys.length ≤ 4398046511104) (hzl : zs.length ≤ 4398046511104) :
    Calls Try.prog 3 #[.slice ax xs.length cx, .slice ay ys.length cy, .slice az zs.length cz] w fun e w' => e = .returned (.bool true) ∧ Below w.heap.size w w' := by
  have hlen : xs.length ≤ 2199023255552 := by omega
  have HBd : Hid (xs.length + total xs ≤ 2199023255552) := hb
  have HX : Hid (∀ wr, Below w.heap.size w wr → CellsAt wr ax (strVals xs)) := fun wr h => hx.below h
  have HY : Hid (∀ wr, Below w.heap.size w wr → CellsAt wr ay (ys.map I64)) := fun wr h => hy.below h
  have HZ : Hid (∀ wr, Below w.heap.size w wr → CellsAt wr az (zs.map I64)) := fun wr h => hz.below h
  have HYr : Hid (∀ y ∈ ys, -9223372036854775808 ≤ y ∧ y ≤ 9223372036854775807) := hyr
  clear hb hx hy hz hyr
  go_enter Try.func3, Try.ntmps3
  go_wp2_with fail
  refine (lives_any w).mono ?_
  rintro e w0 ⟨rfl, hb0⟩
  have hs0 := hb0.size
  go_wp2_with fail
  refine (newCalm w0).mono ?_
  rintro e w1 ⟨rfl, HC, hb1⟩
  have HB1 : Hid (Below w.heap.size w w1) := hb0.trans (hb1.mono hs0)
  have HK1 : Hid (KeepsAt w0 w1 xs 0 ⟨#[]⟩ 0) := ⟨rfl, ⟨0, 0, by rw [logF_zero]; exact HC, by omega, by omega⟩, hb1.size⟩
  clear hb0 hb1 HC
  go_wp2
  go_loopw [25, 8, 9] (fun i t n wr => ∃ (k : Nat) (T : ByteArray) (m : Nat), k ≤ xs.length ∧ i = .int .i64 k ∧ t = .string T ∧ n = .int .i64 m ∧ m ≤ T.size ∧ Hid (KeepsAt w0 wr xs k T m) ∧ Hid (Below w.heap.size w wr)) (fun i _ _ _ => xs.length - (intOf i).toNat)
  case atStart => exact ⟨0, _, 0, by omega, rfl, rfl, rfl, by omega, HK1.out, HB1.out⟩
  case round =>
    obtain ⟨k, T, m, hk, rfl, rfl, rfl, hm, HK, HB⟩ := hrel
    by_cases hlt : k < xs.length
    · rcases HX.out wr HB.out with h0 | ⟨pb, off, rfl, hbl, hcells⟩
      · have : xs.length = 0 := by have := congrArg List.length h0; simpa [strVals] using this
        omega
      have hck := hcells k (by simpa [strVals] using hlt)
      have hxk : (strVals xs)[k]? = some (.string (xs.getD k ByteArray.empty)) := by simp [strVals, hlt]
      rw [hxk] at hck
      have HTx := cat_step xs k hlt T HK.out.text
      have hsz : T.size + (xs.getD k ByteArray.empty).size ≤ 4398046511104 := by
        have h1 := HBd.out; have h2 := total_at xs k hlt; have h3 := cat_size xs k T HK.out.text; omega
      have HTx : Hid _ := HTx
      generalize xs.getD k ByteArray.empty = p at *
      obtain ⟨a, c, HC, ha, hc⟩ := HK.out.calm
      have HC : Hid _ := HC
      have hold := logF_old k ⟨T.data.toList, m⟩ (fun e => by subst e; exact HK.out.zero hm)
      have HOld : Hid _ := hold
      have hsr := HK.out.size
      clear hcells hxk hold hbl
      go_wp2_with fail
      refine (Calm.append HC.out hsr LOG p (by decide) (by omega) (by omega) (by rw [show LOG.data.toList = [108, 111, 103] from rfl, HOld.out]; show T.data.toList.length + _ ≤ _; rw [← Lib.size_eq]; omega)).mono ?_
      rintro e w2 ⟨rfl, HC2, hb2⟩
      have HC3 : Hid (Calm w2 w0.heap.size (w0.heap.size + 1) (logF (k + 1) ⟨(T ++ p).data.toList, m⟩) (a + 1) (c + 1)) := by
        rw [show LOG.data.toList = [108, 111, 103] from rfl, HOld.out, logF_set] at HC2
        rw [ByteArray.data_append, Array.toList_append]
        exact HC2
      have HB2 : Hid (Below w.heap.size w w2) := HB.out.trans (hb2.mono hs0)
      have hsr2 := Nat.le_trans hsr hb2.size
      have hadd := fun w : World => run_string_add_sum (P := Try.prog) w T p (by omega)
      have hTs : (T ++ p).size = T.size + p.size := by rw [ByteArray.size_append]
      have HTs : Hid ((T ++ p).size = T.size + p.size) := hTs
      clear HC2 hb2 HOld HC hck hTs
      by_cases hk2 : k < ys.length
      · rcases HY.out w2 HB2.out with h0 | ⟨qb, qoff, rfl, hbl2, hcells2⟩
        · have : ys.length = 0 := by have := congrArg List.length h0; simpa using this
          omega
        have hcy := hcells2 k (by simpa using hk2)
        have hyk : (ys.map I64)[k]? = some (.int .i64 (ys.getD k 0)) := by simp [hk2, I64]
        rw [hyk] at hcy
        have HYk : Hid (-9223372036854775808 ≤ ys.getD k 0 ∧ ys.getD k 0 ≤ 9223372036854775807) := HYr.out _ (by rw [getD_lt _ _ _ hk2]; exact List.getElem_mem hk2)
        generalize ys.getD k 0 = y at *
        clear hcells2 hyk hbl2
        have hy1 := HYk.out.1
        have hy2 := HYk.out.2
        by_cases hy0 : y.tmod 2 = 0
        · go_wp2_with fail
          refine (Calm.sync HC3.out hsr2 LOG ⟨(T ++ p).data.toList, m⟩ (logF_log _ _ (by omega)) (by decide) (by omega) (by omega)).mono ?_
          rintro e w3 ⟨rfl, HC4, hb3⟩
          have HK3 : Hid (KeepsAt w0 w3 xs (k + 1) (T ++ p) (T ++ p).size) := by
            rw [show LOG.data.toList = [108, 111, 103] from rfl, logF_set] at HC4
            refine ⟨HTx.out, ⟨a + 1 + 1, c + 1 + 1, ?_, by omega, by omega⟩, Nat.le_trans hsr2 hb3.size⟩
            have e1 : logF (k + 1) ⟨(T ++ p).data.toList, (T ++ p).size⟩ = logF (k + 1 + 1) (File.sync ⟨(T ++ p).data.toList, m⟩) := by
              have e2 : File.sync ⟨(T ++ p).data.toList, m⟩ = ⟨(T ++ p).data.toList, (T ++ p).size⟩ := by unfold File.sync; rw [Lib.size_eq (T ++ p)]
              rw [e2]; funext y; unfold logF; simp
            rw [e1]; exact HC4
          have HB3 : Hid (Below w.heap.size w w3) := HB2.out.trans (hb3.mono hs0)
          clear HC4 hb3 HC3 HTx
          go_wp2
          go_roundw
          case rel => exact ⟨k + 1, T ++ p, (T ++ p).size, by omega, by go_num, rfl, by rw [HTs.out, Int.natCast_add], by omega, HK3.out, HB3.out⟩
          case measure => simp [intOf]; omega
        · have HK3 : Hid (KeepsAt w0 w2 xs (k + 1) (T ++ p) m) := ⟨HTx.out, ⟨_, _, HC3.out, by omega, by omega⟩, hsr2⟩
          clear HC3 HTx
          go_wp2
          go_roundw
          case rel => exact ⟨k + 1, T ++ p, m, by omega, by go_num, rfl, rfl, by rw [HTs.out]; omega, HK3.out, HB2.out⟩
          case measure => simp [intOf]; omega
      · have HK3 : Hid (KeepsAt w0 w2 xs (k + 1) (T ++ p) m) := ⟨HTx.out, ⟨_, _, HC3.out, by omega, by omega⟩, hsr2⟩
        clear HC3 HTx
        go_wp2
        go_roundw
        case rel => exact ⟨k + 1, T ++ p, m, by omega, by go_num, rfl, rfl, by rw [HTs.out]; omega, HK3.out, HB2.out⟩
        case measure => simp [intOf]; omega
    · obtain rfl : k = xs.length := by omega
      obtain ⟨a, c, HC, ha, hc⟩ := HK.out.calm
      have HC : Hid _ := HC
      have hTs : T.size ≤ 4398046511104 := by
        have h1 := HBd.out; have h3 := cat_size xs _ T HK.out.text; rw [List.take_length] at h3; omega
      have HFl : Hid (∀ x f, logF xs.length ⟨T.data.toList, m⟩ x = some f → f.bytes.length ≤ 140737488355328) := fun x f hf => by
        unfold logF at hf
        split at hf
        · split at hf
          · cases hf
          · cases hf; show T.data.toList.length ≤ _; rw [← Lib.size_eq]; omega
        · cases hf
      go_wp2_with fail
      refine (show Calls _ _ _ _ _ from (Calm.crash HC.out az cz zs (HZ.out wr HB.out) (by omega) (by omega) HFl.out)).mono ?_
      rintro e w2 ⟨b', ks, rfl, hN, HG, hb2⟩
      have HC2 : Hid _ := Calm.below HC.out hb2
      have HB2 : Hid (Below w.heap.size w w2) := HB.out.trans (hb2.mono HB.out.size)
      have HG : Hid _ := HG
      have HN : Hid _ := hN
      clear hN hb2 HC
      go_wp2_with fail
      refine (show Calls _ _ _ _ _ from (Calm.crash (w := w2.alloc (.cells #[.int .i64 1152921504606846976] 3)) (Calm.below HC2.out ((Below.refl _ _).alloc (Nat.le_refl _) _)) (some ⟨w2.heap.size, 0, none⟩) 1 [1152921504606846976] (cellsI1 _) (by omega) (by decide) HFl.out)).mono ?_
      rintro e w3 ⟨b2, ks2, rfl, hN2, HA, hb3⟩
      obtain rfl : ks2 = ks := hN2.unique HN.out
      have hB3 : Below w2.heap.size w2 w3 := ((Below.refl _ _).alloc (Nat.le_refl _) _).trans (hb3.mono (by simp))
      have HG3 : Hid _ := Calm.below HG.out hB3
      have HB3 : Hid (Below w.heap.size w w3) := HB2.out.trans (hB3.mono HB2.out.size)
      have HA : Hid _ := HA
      clear hN2 hb3 hB3 HG HC2
      by_cases h0 : xs.length = 0
      · have hks : ks2 = [] := HN.out.unique (by rw [h0, logF_zero]; exact names_none)
        subst hks
        go_wp2_with fail
        refine (Calm.read_none HG3.out LOG (by unfold crashed; simp) (by decide)).mono ?_
        rintro e w4 ⟨rfl, hb4⟩
        have HA4 : Hid _ := Calm.below HA.out hb4
        have HB4 : Hid (Below w.heap.size w w4) := HB3.out.trans (hb4.mono HB3.out.size)
        clear hb4 HA HG3
        go_wp2_with fail
        refine (Calm.read_none HA4.out LOG (by unfold crashed; simp) (by decide)).mono ?_
        rintro e w5 ⟨rfl, hb5⟩
        have HB5 : Hid (Below w.heap.size w w5) := HB4.out.trans (hb5.mono HB4.out.size)
        clear hb5 HA4
        go_wp2
        go_ret
        exact ⟨rfl, HB5.out⟩
      · have hks : ks2 = [[108, 111, 103]] := HN.out.unique (logF_names _ _ h0)
        subst hks
        obtain ⟨X, hX1, hX2, hX3, hX4⟩ := left_text T m (zs.getD 0 0) hm
        have HG4 : Hid (Calm w3 wr.heap.size b' (logF 1 ⟨X.data.toList, X.data.toList.length⟩) 0 1) := by
          rw [← hX1, ← logF_crash xs.length _ h0]; exact HG3.out
        have HA4 : Hid (Calm w3 (w2.heap.size + 1) b2 (logF 1 ⟨T.data.toList, T.data.toList.length⟩) 0 1) := by
          have := HA.out
          rw [logF_crash xs.length _ h0] at this
          simp only [World.alloc, Array.size_push] at this
          rw [← left_all T m hm (by omega)]
          exact this
        clear hX1 HG3 HA HN
        go_wp2_with fail
        refine (Calm.read_some HG4.out LOG X _ (logF_log 1 _ (by decide)) rfl (by decide)).mono ?_
        rintro e w4 ⟨rfl, hb4⟩
        have HA5 : Hid _ := Calm.below HA4.out hb4
        have HG5 : Hid _ := Calm.below HG4.out hb4
        have HB4 : Hid (Below w.heap.size w w4) := HB3.out.trans (hb4.mono HB3.out.size)
        clear hb4 HA4 HG4
        go_wp2_with fail
        refine (Calm.read_some HA5.out LOG T _ (logF_log 1 _ (by decide)) rfl (by decide)).mono ?_
        rintro e w5 ⟨rfl, hb5⟩
        have HG6 : Hid _ := Calm.below HG5.out hb5
        have HB5 : Hid (Below w.heap.size w w5) := HB4.out.trans (hb5.mono HB4.out.size)
        clear hb5 HA5 HG5
        go_wp2_with fail
        refine (show Calls _ _ _ _ _ from (Calm.crash HG6.out az cz zs (HZ.out w5 HB5.out) (by decide) (by omega) (fun x f hf => ?_))).mono ?_
        · unfold logF at hf
          split at hf
          · simp at hf; subst hf; show X.data.toList.length ≤ _; rw [← Lib.size_eq]; omega
          · cases hf
        rintro e w6 ⟨b3, ks3, rfl, hN3, HH, hb6⟩
        obtain rfl : ks3 = [[108, 111, 103]] := hN3.unique (logF_names _ _ (by decide))
        have HG7 : Hid _ := Calm.below HG6.out hb6
        have HB6 : Hid (Below w.heap.size w w6) := HB5.out.trans (hb6.mono HB5.out.size)
        have HH : Hid (Calm w6 w5.heap.size b3 (logF 1 ⟨X.data.toList, X.data.toList.length⟩) 0 1) := by
          rw [logF_crash 1 _ (by decide), left_whole] at HH; exact HH
        clear hN3 hb6 HG6
        go_wp2_with fail
        refine (Calm.read_some HH.out LOG X _ (logF_log 1 _ (by decide)) rfl (by decide)).mono ?_
        rintro e w7 ⟨rfl, hb7⟩
        have HG8 : Hid _ := Calm.below HG7.out hb7
        have HB7 : Hid (Below w.heap.size w w7) := HB6.out.trans (hb7.mono HB6.out.size)
        clear hb7 HH HG7
        go_wp2_with fail
        refine (Calm.down HG8.out).mono ?_
        rintro e w8 ⟨rfl, rfl⟩
        go_wp2
        go_ret
        exact ⟨rfl, HB7.out⟩
end Go.Proofs.Ythiagcialidfjaa.Vf
