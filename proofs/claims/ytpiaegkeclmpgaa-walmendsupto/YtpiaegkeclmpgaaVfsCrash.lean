/-
  Package vfs: Crash.
-/
import Derived.Test.YtpiaegkeclmpgaaVfsNames
namespace Go.Proofs.Ytpiaegkeclmpgaa.Vf
open Go.RowKit Cm Go.Sort
set_option linter.unusedVariables false

/-- Found so far: of the first i names. -/
def foundTo (s : St) (keep : List Int) (ks : List Name) (i : Nat) : St :=
  { St.init with files := fun x => if x ∈ ks.take i then (s.files x).map fun f => f.left (keep.getD (ks.idxOf x) 0) else none, cnt := i }
theorem foundTo_zero (s : St) (keep : List Int) (ks : List Name) : foundTo s keep ks 0 = St.init := by simp [foundTo, St.init]
theorem foundTo_all (s : St) (keep : List Int) (ks : List Name) : foundTo s keep ks ks.length = s.crash keep ks := by
  unfold foundTo St.crash crashed
  rw [List.take_length]
theorem foundTo_step {s : St} {keep : List Int} {ks : List Name} (hnd : ks.Nodup) {i : Nat} (hi : i < ks.length) {f : File} (hf : s.files ks[i] = some f) : (foundTo s keep ks i).put ks[i] (f.left (keep.getD i 0)) = foundTo s keep ks (i + 1) := by
  have hn : ks[i] ∉ ks.take i := by
    intro h
    obtain ⟨j, hj, e⟩ := List.getElem_of_mem h
    rw [List.getElem_take] at e
    have hj' : j < i := by rw [List.length_take] at hj; omega
    have := (List.getElem_inj (h₀ := by omega) (h₁ := hi) hnd).1 e
    omega
  have hx : ks.idxOf ks[i] = i := List.Nodup.idxOf_getElem hnd i hi
  unfold St.put foundTo
  simp only [if_neg hn, Option.isSome_none, Bool.false_eq_true, if_false]
  congr 1
  funext y
  unfold setF
  show (if y = ks[i] then _ else if y ∈ ks.take i then _ else _) = _
  have hm : y ∈ ks.take (i + 1) ↔ y ∈ ks.take i ∨ y = ks[i] := by rw [List.take_succ_eq_append_getElem hi, List.mem_append, List.mem_singleton]
  by_cases e : y = ks[i]
  · have hmt : y ∈ ks.take (i + 1) := hm.2 (.inr e)
    rw [if_pos e, if_pos hmt, e, hf, hx]
    rfl
  · rw [if_neg e]
    by_cases e2 : y ∈ ks.take i
    · rw [if_pos e2, if_pos (hm.2 (.inl e2))]
    · rw [if_neg e2, if_neg (fun h => (hm.1 h).elim e2 e)]
theorem FSAt.cut {w : World} {S : Nat → Prop} {b : Nat} {s : St} (h : FSAt w S b s) : FSAt w (fun k => S k ∧ k < w.heap.size) b s := by
  obtain ⟨fo, bm, V, h1, h2, h3, h4, h5, h6⟩ := h
  refine ⟨fo, bm, V, h1, ⟨h2, lt_of_block h1⟩, ⟨h3, h5.lt⟩, ?_, h5, ⟨h6.dom, h6.short, fun x f hs hf => ?_, h6.apart⟩⟩
  · rcases h4 with q | ⟨bf, n, e, hn, q1, G, q2, q3⟩
    · exact .inl q
    · exact .inr ⟨bf, n, e, hn, ⟨q1, q2.lt⟩, G, q2, q3⟩
  · obtain ⟨u, q1, q2, q3⟩ := h6.some_ x f hs hf
    exact ⟨u, q1, ⟨q2.1, fun k e => ⟨q2.2 k e, (q2.1.lt k e).2⟩⟩, q3⟩
/-- A file whose row is new is held. -/
theorem holdNew_any (S : Nat → Prop) (b : Nat) (s : St) (x : ByteArray) (u : Value) (f : File) (w w1 : World) (h : FSAt w S b s) (h1 : Below w.heap.size w w1) (hu : w1.ownsRow w.heap.size 5 1 u f.bytes.length (f.bytes.map B8)) (hs : f.synced ≤ f.bytes.length)
    (hS : ∀ k, w.heap.size ≤ k → S k) (hx : x.size ≤ 281474976710656) (hn : s.cnt < 9223372036854775807) :
    Calls Try.prog 28 #[.pointer (some ⟨b, 0, none⟩), .string x, .agg #[u, .int .i64 f.synced]] w1 fun e w' => e = .returned (.tuple #[]) ∧ FSAt w' S b (s.put x.data.toList f) ∧ Chg S w1 w' := by
  obtain ⟨fo, bm, V, ao, l, c, hP, _, _, hR, _, hA, _⟩ := h.opened x.data.toList
  have hP1 := hP.keep hR hA (w' := w1) fun k _ hk _ _ => h1.block k hk
  refine hold_any S b bm fo V s x u f w1 hP1.head hP1.sb hP1.sm hP1.fates hP1.map hP1.files ⟨own_base hu (Nat.zero_le _), fun k e => hS k (hu.lt k e).1⟩ hs (fun y v m hy hv => ?_) hx hn
  have hM : (s.files y).isSome = true := by rw [← hP.files.dom y, hv]; rfl
  obtain ⟨g, hg⟩ := Option.isSome_iff_exists.1 hM
  obtain ⟨v2, q1, q2, _⟩ := hP.files.some_ y g hy hg
  obtain ⟨rfl, _⟩ := fv_inj (Option.some.inj (hv.symm.trans q1))
  cases e : u.ownBlock with
  | none => exact .inl rfl
  | some k => exact .inr (fun e2 => by have := (hu.lt k e).1; have := (q2.1.lt k e2.symm).2; omega)
def I64 (n : Int) : Value := .int .i64 n

set_option maxRecDepth 100000 in
set_option maxHeartbeats 1000000 in
theorem crash_any (S : Nat → Prop) (b : Nat) (s : St) (ak : Option Addr) (kcap : Nat) (keep : List Int) (w : World) (h : FSAt w S b s) (hk : CellsAt w ak (keep.map I64)) (hcnt : s.cnt ≤ 4398046511104) (hkl : keep.length ≤ 9223372036854775000) (hfl : ∀ x f, s.files x = some f → f.bytes.length ≤ 140737488355328) :
    Calls Try.prog 15 #[.pointer (some ⟨b, 0, none⟩), .slice ak keep.length kcap] w fun e w' => ∃ b' ks, e = .returned (.pointer (some ⟨b', 0, none⟩)) ∧ Names s.files ks ∧ FSAt w' (fun k => w.heap.size ≤ k) b' (s.crash keep ks) ∧ Below w.heap.size w w' := by
  obtain ⟨V, hV⟩ := h.vals
  have hlt := h.lt
  have HF : Hid (FSAt w S b s) := h
  clear h
  go_enter Try.func15, Try.ntmps15
  go_wp2_with fail
  refine (new_any w).mono ?_
  rintro e w1 ⟨rfl, hf1, hb1⟩
  have hs1 := hb1.size
  have HN : Hid (FSAt w1 (fun k => w.heap.size ≤ k ∧ k < w1.heap.size) (w.heap.size + 1) St.init) := hf1.cut
  have HB1 : Hid (Below w.heap.size w w1) := hb1
  clear hf1 hb1
  go_wp2_with fail
  refine (names_any S b s w1 (HF.out.below HB1.out) hcnt).mono ?_
  rintro e w2 ⟨g, cap, ks, rfl, HNm, hkc, hrow2, hb2⟩
  have hg1 : w1.heap.size ≤ g := (hrow2.lt g rfl).1
  have HB2 : Hid (Below w.heap.size w w2) := HB1.out.trans (hb2.mono hs1)
  have HF2 : Hid (FSAt w2 (fun k => w.heap.size ≤ k ∧ k ≠ g) (w.heap.size + 1) (foundTo s keep ks 0)) := by
    show FSAt _ _ _ _
    rw [foundTo_zero]; exact (HN.out.below hb2).mono fun k (e : w.heap.size ≤ k ∧ k < w1.heap.size) => ⟨e.1, by omega⟩
  have HRow : Hid (w2.ownsRow w1.heap.size 9 1 (.slice (some ⟨g, 0, none⟩) ks.length cap) ks.length (encOf ks)) := hrow2
  have HNm2 : Hid (Names s.files ks) := HNm
  clear hrow2 hb2 HNm HN
  go_wp2
  go_loopw [13] (fun i wr => ∃ k : Nat, k ≤ ks.length ∧ i = .int .i64 k ∧ Hid (FSAt wr (fun k => w.heap.size ≤ k ∧ k ≠ g) (w.heap.size + 1) (foundTo s keep ks k)) ∧ Hid (Below w.heap.size w wr) ∧ Hid (wr.ownsRow w1.heap.size 9 1 (.slice (some ⟨g, 0, none⟩) ks.length cap) ks.length (encOf ks))) (fun i _ => ks.length - (intOf i).toNat)
  case atStart => exact ⟨0, by omega, rfl, HF2.out, HB2.out, HRow.out⟩
  case round =>
    obtain ⟨i, hi, rfl, HW, HB, HR⟩ := hrel
    by_cases hil : i < ks.length
    · have hsr := HB.out.size
      have hmem : ks[i] ∈ ks := List.getElem_mem hil
      obtain ⟨f, hf⟩ := Option.isSome_iff_exists.1 ((HNm2.out.mem _).1 hmem)
      obtain ⟨X, hX⟩ : ∃ X : ByteArray, X = ⟨ks[i].toArray⟩ := ⟨_, rfl⟩
      have hXd : X.data.toList = ks[i] := by rw [hX]
      have hVr : FSV wr S b s V := hV.keep fun k _ hk => HB.out.block k hk
      obtain ⟨fo, bm, ao, l, c, hP, hv, -, hR, hs, hA, -, -⟩ := hVr.opened ks[i]
      have ho : s.old ks[i] = f := by unfold St.old; rw [hf]; rfl
      rw [ho] at hv hR hs
      have hXs : X.size ≤ 281474976710656 := by rw [Lib.size_eq, hXd]; exact hP.files.short _ (by rw [hf]; rfl)
      have c4 : wr.cell? ⟨b, 4, none⟩ = some (.map (some bm)) := by rw [Joins.cell_of_block hP.head]; rfl
      have hrun := hP.map.run_look keyS Try.underlying41 (zeroFile _) (keyOfS (s := X) (by unfold maxLen; omega))
      rw [hXd] at hrun
      have e0 : (V (.string ks[i])).getD (.agg #[.slice none 0 0, .int .i64 0]) = .agg #[.slice ao l c, .int .i64 f.synced] := hv
      rw [e0] at hrun
      have hnm : wr.cell? ⟨g, i, none⟩ = some (.string X) := by
        have := HR.out.cells (g := g) rfl i (encStr ks[i]) (by simp [encOf, hil])
        rw [Go.WideShapes.add_plain, Nat.zero_add] at this
        rw [this, hX]
        first | rfl | skip
      have HL : Hid (Calls Try.prog 29 #[.agg #[.slice ao l c, .int .i64 f.synced], .int .i64 (keep.getD i 0)] wr fun e w3 => ∃ (u' : Value) (n' : Nat), e = .returned (.agg #[u', .int .i64 n']) ∧
          Hid (Calls Try.prog 28 #[.pointer (some ⟨w.heap.size + 1, 0, none⟩), .string X, .agg #[u', .int .i64 n']] w3 fun e w4 => e = .returned (.tuple #[]) ∧ Hid (FSAt w4 (fun k => w.heap.size ≤ k ∧ k ≠ g) (w.heap.size + 1) (foundTo s keep ks (i + 1)) ∧ RowKit.Below w.heap.size w w4 ∧
            w4.ownsRow w1.heap.size 9 1 (.slice (some ⟨g, 0, none⟩) ks.length cap) ks.length (encOf ks)))) := by
        refine (left_any S (.slice ao l c) f (keep.getD i 0) wr hR hs (hfl _ _ hf)).mono ?_
        rintro e w3 ⟨u', rfl, hu, hsy, hb3⟩
        refine ⟨u', _, rfl, ?_⟩
        have hgr := (HR.out.lt g rfl).2
        refine (holdNew_any (fun k => w.heap.size ≤ k ∧ k ≠ g) (w.heap.size + 1) (foundTo s keep ks i) X u' (f.left (keep.getD i 0)) wr w3 HW.out hb3 hu hsy (fun k hk => ⟨by omega, by omega⟩) hXs (by show i < _; omega)).mono ?_
        rintro e w4 ⟨rfl, r1, r2⟩
        rw [hXd, foundTo_step HNm2.out.nodup hil hf] at r1
        have hB3 : RowKit.Below w.heap.size w w3 := HB.out.trans (hb3.mono hsr)
        refine ⟨rfl, r1, hB3.trans (r2.below (fun k e => e.1) hB3.size), own_keep HR.out fun k e => ?_⟩
        simp [Value.ownBlock] at e
        subst e
        exact (r2.block g (by have := hb3.size; omega) (fun e => e.2 rfl)).trans (hb3.block g hgr)
      have HC : Hid (i < keep.length → ∃ pb off, ak = some ⟨pb, off, none⟩ ∧ wr.cell? ⟨pb, off + i, none⟩ = some (.int .i64 (keep.getD i 0))) := fun hi2 => by
        rcases hk.below HB.out with q | ⟨pb, off, e, _, hc⟩
        · have := congrArg List.length q; simp at this; subst this; simp at hi2
        · refine ⟨pb, off, e, ?_⟩
          rw [hc i (by simpa using hi2)]; simp [hi2, I64]
      have HD : Hid (¬ i < keep.length → keep.getD i 0 = 0) := fun h => by simp [List.getD, List.getElem?_eq_none (Nat.le_of_not_lt h)]
      clear hP hv hR hs hA hVr hmem e0 ho hX hXd hf hk hV
      generalize keep.getD i 0 = kp at *
      by_cases hik : i < keep.length
      · obtain ⟨pb, off, rfl, hkc⟩ := HC.out hik
        go_wp2_with fail
        refine (show Calls _ _ _ _ _ from HL.out).mono ?_
        rintro e w3 ⟨u', n', rfl, HH⟩
        go_wp2_with fail
        refine (show Calls _ _ _ _ _ from HH.out).mono ?_
        rintro e w4 ⟨rfl, HQ⟩
        go_wp2
        go_roundw
        case rel => exact ⟨i + 1, by omega, by go_num, HQ.out.1, HQ.out.2.1, HQ.out.2.2⟩
        case measure => simp [intOf]; omega
      · have hz := HD.out hik
        subst hz
        go_wp2_with fail
        refine (show Calls _ _ _ _ _ from HL.out).mono ?_
        rintro e w3 ⟨u', n', rfl, HH⟩
        go_wp2_with fail
        refine (show Calls _ _ _ _ _ from HH.out).mono ?_
        rintro e w4 ⟨rfl, HQ⟩
        go_wp2
        go_roundw
        case rel => exact ⟨i + 1, by omega, by go_num, HQ.out.1, HQ.out.2.1, HQ.out.2.2⟩
        case measure => simp [intOf]; omega
    · obtain rfl : i = ks.length := by omega
      go_wp2
      go_ret
      refine ⟨_, ks, rfl, HNm2.out, ?_, HB.out⟩
      rw [← foundTo_all]
      exact HW.out.mono fun k e => e.1
end Go.Proofs.Ytpiaegkeclmpgaa.Vf
