/-
  The walk of the statement VfsSpace.
-/
import Derived.Test.YthiagcialidfjaaVfsPowerWalk
import Derived.Test.YthiagcialidfjaaCmRows
namespace Go.Proofs.Ythiagcialidfjaa.Vf
open Go.RowKit Cm
set_option linter.unusedVariables false

def fateShape : Shape (Int × Int) := ⟨2, fun f => [.int .i64 f.1, .int .i64 f.2], by decide, fun _ => rfl, fun a u hu => by simp at hu; rcases hu with rfl | rfl <;> rfl⟩
theorem infoFate : (Try.prog.info? 43).map (fun i => (i.zero, i.size, i.bytes)) = some (some (.agg #[.int .i64 0, .int .i64 0]), 2, 16) := by kernel_rfl
theorem fates_in {w : World} {ao : Option Addr} {fs : List (Int × Int)} (h : ElemsAt fateShape w ao fs) : FatesIn w ao fs := by
  rcases h with h | ⟨b, off, e, hl, hc⟩
  · exact .inl h
  · refine .inr ⟨b, off, e, hl, fun j hj => ?_⟩
    rw [getD_lt _ _ _ hj]
    exact ⟨hc j hj 0 _ rfl, hc j hj 1 _ rfl⟩
theorem fate_one (w : World) (a k : Int) : ElemsAt fateShape (w.alloc (.cells #[.int .i64 a, .int .i64 k] 43)) (some ⟨w.heap.size, 0, none⟩) [(a, k)] := .inr ⟨w.heap.size, 0, rfl, by simp, fun i hi j u hu => by
  obtain rfl : i = 0 := by simpa using hi
  rw [Joins.cell_of_block (heap_alloc_new w _)]
  match j, hu with
  | 0, hu => exact hu
  | 1, hu => exact hu
  | (n + 2), hu => simp [fateShape] at hu⟩
def r16 (y : Int) : Int := wrap64 ((IntKind.u64.wrap y).tmod 16)
theorem r16_in (y : Int) : 0 ≤ r16 y ∧ r16 y < 16 := by
  obtain ⟨k, h1, h2⟩ := rem_nat y 16 (by decide) (by decide)
  unfold r16; rw [h2]; omega
def fullF (ys : List Int) : List (Int × Int) := ys.map fun y => (r16 y, 3)
theorem fullF_len (ys : List Int) : (fullF ys).length = ys.length := by simp [fullF]
theorem fullF_snoc (ys : List Int) (k : Nat) (h : k < ys.length) : fullF (ys.take (k + 1)) = fullF (ys.take k) ++ [(r16 (ys.getD k 0), 3)] := by
  unfold fullF; rw [List.take_succ_eq_append_getElem h, getD_lt _ _ _ h, List.map_append]; rfl
theorem mem_snoc (ys : List Int) (k : Nat) (h : k < ys.length) (i : Int) : i ∈ (ys.take (k + 1)).map r16 ↔ i ∈ (ys.take k).map r16 ∨ i = r16 (ys.getD k 0) := by
  rw [List.take_succ_eq_append_getElem h, getD_lt _ _ _ h, List.map_append]; simp
theorem firstOf_full (ys : List Int) (j : Int) (hj : 0 ≤ j) : firstOf (fullF ys) j = if j ∈ ys.map r16 then some 3 else none := by
  unfold firstOf fullF
  rw [if_neg (by omega)]
  induction ys with
  | nil => rfl
  | cons y ys ih =>
    rw [List.map_cons, List.find?_cons, List.map_cons]
    by_cases e : r16 y = j
    · subst e; simp
    · have : (r16 y == j) = false := by simpa using e
      rw [this, ih]
      have e2 : j ≠ r16 y := fun h => e h.symm
      simp [e2]

/-- One part appended to a file system that owns S, and whatever is new. -/
theorem appendS (S : Nat → Prop) (b : Nat) (s : St) (x p : ByteArray) (w : World) (h : FSAt w S b s) (hS : ∀ k, w.heap.size ≤ k → S k)
    (hx : x.size ≤ 281474976710656) (hn : s.cnt < 9223372036854775807) (hsz : (s.old x.data.toList).bytes.length + p.size ≤ 140737488355328) (ha : s.armed ≤ s.acts) (hac : s.acts ≤ 9223372036854775000) :
    Calls Try.prog 9 #[.pointer (some ⟨b, 0, none⟩), .string x, .slice (some ⟨w.heap.size, 0, none⟩) 1 1] (w.alloc (.cells #[.string p] 9)) fun e w' => e = .returned (.int .i64 (s.appendE x.data.toList)) ∧ FSAt w' S b (s.append x.data.toList p.data.toList) ∧ Chg S w w' := by
  have hc : CellsAt (w.alloc (.cells #[.string p] 9)) (some ⟨w.heap.size, 0, none⟩) (strVals [p]) := .inr ⟨w.heap.size, 0, rfl, by simp, fun j hj => by
    obtain rfl : j = 0 := (by simpa [strVals] using hj)
    rw [Joins.cell_of_block (heap_alloc_new w _)]; rfl⟩
  have hA : FSX (w.alloc (.cells #[.string p] 9)) (fun k => S k ∧ k < w.heap.size) b s (fun _ => False) := FSX.alloc h.cut _
  refine (append_any (fun k => S k ∧ k < w.heap.size) b s x _ 1 [p] _ hA (fun k e => by have := e.2; simp; omega) hc (fun ad e h2 => by cases e; exact absurd h2.2 (Nat.lt_irrefl _)) hx hn (by simpa [total] using hsz) (by simp) ha hac).mono ?_
  rintro e w' ⟨rfl, r1, r2⟩
  have e1 : cat [p] = p.data.toList := by simp [cat]
  rw [e1] at r1
  exact ⟨rfl, FSX.mono r1 fun k e => e.elim (fun e => e.1) (fun e => hS k (by simp at e; omega)), (Chg.alloc S w _).then (r2.mono fun k _ e => e.1)⟩

/-- What stands behind k rounds. -/
structure Spc (ks : List Int) (xs : List ByteArray) (k : Nat) (T : ByteArray) (md : Bool) (s : St) : Prop where
  armed : s.armed = 0
  acts : s.acts = k
  down : s.down = false
  fates : ∀ j : Int, (k : Int) ≤ j → s.fates j = if j ∈ ks then some 3 else none
  files : s.files = xF (if md then 1 else 0) ⟨T.data.toList, 0⟩
  text : md = false → T.data.toList = []
  size : T.size ≤ total (xs.take k)
  cnt : s.cnt ≤ k
section
variable {ks : List Int} {xs : List ByteArray} {k : Nat} {T : ByteArray} {md : Bool} {s : St}
theorem spc_start (ys : List Int) (xs : List ByteArray) : Spc (ys.map r16) xs 0 ⟨#[]⟩ false (St.init.arm (fullF ys)) :=
  ⟨rfl, rfl, rfl, fun j hj => firstOf_full ys j (by omega), by rw [show (if false = true then 1 else 0) = 0 from rfl, xF_zero]; rfl, fun _ => rfl, by simp [ByteArray.size], Nat.le_refl _⟩
theorem Spc.old (h : Spc ks xs k T md s) : s.old [120] = ⟨T.data.toList, 0⟩ := by
  have := xF_old (if md then 1 else 0) ⟨T.data.toList, 0⟩ (fun e => by
    cases md
    · rw [h.text rfl]
    · cases e)
  unfold oldM at this
  unfold St.old
  rw [h.files]; exact this
theorem Spc.fate (h : Spc ks xs k T md s) : s.fate = if (k : Int) ∈ ks then 3 else 0 := by
  have e : s.at_ = k := by unfold St.at_; rw [h.acts, h.armed]; omega
  unfold St.fate
  rw [e, h.fates k (Int.le_refl _)]
  split <;> rfl
theorem Spc.tickF (h : Spc ks xs k T md s) (j : Int) (hj : ((k + 1 : Nat) : Int) ≤ j) : s.tick.fates j = if j ∈ ks then some 3 else none := by
  have e : s.at_ = k := by unfold St.at_; rw [h.acts, h.armed]; omega
  show (if j = s.at_ then none else s.fates j) = _
  rw [e, if_neg (by omega), h.fates j (by omega)]
/-- A round without space. -/
theorem Spc.full (h : Spc ks xs k T md s) (hk : (k : Int) ∈ ks) (t : List UInt8) : s.appendE [120] = 6 ∧ Spc ks xs (k + 1) T md (s.append [120] t) := by
  have hf : s.fate = 3 := by rw [h.fate, if_pos hk]
  have e2 : s.append [120] t = s.tick := by unfold St.append; rw [h.down, show isName [120] = true from isX, hf]; rfl
  refine ⟨by unfold St.appendE; rw [h.down, show isName [120] = true from isX, hf]; rfl, ?_⟩
  rw [e2]
  refine ⟨h.armed, by show s.acts + 1 = _; rw [h.acts], h.down, h.tickF, h.files, h.text, ?_, by have := h.cnt; show s.cnt ≤ _; omega⟩
  have h1 := h.size
  have h2 : total (xs.take k) ≤ total (xs.take (k + 1)) := by
    have := total_take (xs.take (k + 1)) k
    rw [List.take_take, Nat.min_eq_left (by omega)] at this
    exact this
  omega
/-- A round with space. -/
theorem Spc.free (h : Spc ks xs k T md s) (hlt : k < xs.length) (hk : (k : Int) ∉ ks) : s.appendE [120] = 0 ∧ Spc ks xs (k + 1) (T ++ xs.getD k ByteArray.empty) true (s.append [120] (xs.getD k ByteArray.empty).data.toList) := by
  have hf : s.fate = 0 := by rw [h.fate, if_neg hk]
  have e2 : s.append [120] (xs.getD k ByteArray.empty).data.toList = { s.tick.addTo [120] (xs.getD k ByteArray.empty).data.toList with down := false } := by
    unfold St.append; rw [h.down, show isName [120] = true from isX, hf]; simp; unfold St.act; rw [hf]; rfl
  refine ⟨by unfold St.appendE; rw [h.down, show isName [120] = true from isX, hf]; rfl, ?_⟩
  rw [e2]
  have ho : s.tick.old [120] = ⟨T.data.toList, 0⟩ := h.old
  refine ⟨h.armed, by show s.acts + 1 = _; rw [h.acts], rfl, h.tickF, ?_, (fun e => by cases e), ?_, ?_⟩
  · show setF s.files [120] (some ⟨(s.tick.old [120]).bytes ++ _, (s.tick.old [120]).synced⟩) = _
    rw [ho, h.files, xF_set _ 1 _ _ (by decide), ByteArray.data_append, Array.toList_append]
    rfl
  · have h1 := h.size
    rw [ByteArray.size_append, List.take_succ_eq_append_getElem hlt, getD_lt _ _ _ hlt]
    simp only [total, List.map_append, List.sum_append, List.map_cons, List.map_nil, List.sum_cons, List.sum_nil] at h1 ⊢
    omega
  · have := h.cnt
    show (if _ then _ else _) ≤ _
    split
    · show s.cnt ≤ _; omega
    · show s.cnt + 1 ≤ _; omega
theorem Spc.read (h : Spc ks xs k T md s) : s.found [120] = ⟨T.data.toList, 0⟩ ∧ s.findE [120] = if md then 0 else 5 := by
  refine ⟨by unfold St.found; rw [h.down]; exact h.old, ?_⟩
  unfold St.findE
  rw [h.down, h.files]
  cases md
  · rw [show (if false = true then 1 else 0) = 0 from rfl, xF_zero]; rfl
  · rfl
end
theorem Spc.readC {ks : List Int} {xs : List ByteArray} {k : Nat} {T : ByteArray} {md : Bool} {s : St} (h : Spc ks xs k T md s) (S : Nat → Prop) (b : Nat) (w : World) (hF : FSAt w S b s) :
    Calls Try.prog 12 #[.pointer (some ⟨b, 0, none⟩), .string XN] w fun e w' => e = .returned (.tuple #[.string T, .int .i64 (if md then 0 else 5)]) ∧ Below w.heap.size w w' := by
  refine (read_any S b s XN w hF (by decide)).mono ?_
  rintro e w' ⟨rfl, r⟩
  rw [show XN.data.toList = [120] from rfl, h.read.1, h.read.2, str_back]
  exact ⟨rfl, r⟩
/-- The map of the full acts. -/
def BadAt (w : World) (bb n : Nat) (ks : List Int) : Prop := ∃ G, MapAt w Try.prog 3 bb n G ∧ ∀ i : Int, G (.int .i64 i) = if i ∈ ks then some (.int .i64 1) else none
theorem BadAt.look {w : World} {bb n : Nat} {ks : List Int} (h : BadAt w bb n ks) (i : Int) (h1 : -9223372036854775808 ≤ i) (h2 : i ≤ 9223372036854775807) :
    (Instr.lookup 33 (.map (some bb)) (.int .i64 i) false).run Try.prog w = .ok (.int .i64 (if i ∈ ks then 1 else 0)) w := by
  obtain ⟨G, hG, hGF⟩ := h
  rw [hG.run_look keyI Try.underlying33 (zeroInt _) (keyOfI h1 h2), hGF]
  split <;> rfl
theorem BadAt.keep {w w' : World} {bb n : Nat} {ks : List Int} (h : BadAt w bb n ks) (hk : bb < w.heap.size → w'.heap[bb]? = w.heap[bb]?) : BadAt w' bb n ks := by
  obtain ⟨G, hG, hGF⟩ := h
  exact ⟨G, hG.keep (hk hG.lt), hGF⟩
theorem BadAt.store {w : World} {bb n : Nat} {ks : List Int} (h : BadAt w bb n ks) (i : Int) (h1 : -9223372036854775808 ≤ i) (h2 : i ≤ 9223372036854775807) (hn : n < 9223372036854775807) :
    ∃ w3, (Instr.mapUpdate 33 (.map (some bb)) (.int .i64 i) (.int .i64 1)).run Try.prog w = .ok () w3 ∧ (∀ js, (∀ j, j ∈ js ↔ j ∈ ks ∨ j = i) → BadAt w3 bb (n + 1) js) ∧ w.mapTurned w3 bb := by
  obtain ⟨G, hG, hGF⟩ := h
  obtain ⟨w3, hrun, h3, h4⟩ := hG.store (val := .int .i64 1) keyI Try.underlying33 (zeroInt w) (by unfold maxLen; omega) (keyOfI h1 h2)
  refine ⟨w3, hrun, fun js hjs => ?_, h4⟩
  obtain ⟨D, hD, hV⟩ := h3
  refine ⟨_, ⟨D, hD.mono (by split <;> omega), hV⟩, fun j => ?_⟩
  by_cases e : j = i
  · subst e; rw [upd_same _ (k := .int .i64 j) trivial, if_pos ((hjs j).2 (.inr rfl))]
  · rw [upd_other _ (by simpa using e), hGF]
    by_cases e2 : j ∈ ks
    · rw [if_pos e2, if_pos ((hjs j).2 (.inl e2))]
    · rw [if_neg e2, if_neg (fun h => ((hjs j).1 h).elim e2 e)]

set_option maxRecDepth 100000 in
set_option maxHeartbeats 2000000 in
theorem space_walk (ax ay : Option Addr) (cx cy : Nat) (xs : List ByteArray) (ys : List Int) (w : World) (hx : CellsAt w ax (strVals xs)) (hy : CellsAt w ay (ys.map I64))
    (hb : xs.length + total xs ≤ 2199023255552) (hyl : ys.length ≤ 2199023255552) :
    Calls Try.prog 5 #[.slice ax xs.length cx, .slice ay ys.length cy] w fun e w' => e = .returned (.bool true) ∧ Below w.heap.size w w' := by
  obtain ⟨i0, hi, hz0, hz1, hz2⟩ := info_parts infoFate
  have hmm := @run_makeMap Try.prog
  have hlen : xs.length ≤ 2199023255552 := by omega
  have HBd : Hid (xs.length + total xs ≤ 2199023255552) := hb
  have HX : Hid (∀ wr, Below w.heap.size w wr → CellsAt wr ax (strVals xs)) := fun wr h => hx.below h
  have HY : Hid (∀ wr, Below w.heap.size w wr → CellsAt wr ay (ys.map I64)) := fun wr h => hy.below h
  clear hb hx hy
  go_enter Try.func5, Try.ntmps5
  go_wp2_with fail
  refine (lives_any w).mono ?_
  rintro e w0 ⟨rfl, hb0⟩
  have hs0 := hb0.size
  go_wp2_with fail
  refine (newFSB w0).mono ?_
  rintro e w1 ⟨rfl, HC, hb1⟩
  have HB1 : Hid (Below w.heap.size w w1) := hb0.trans (hb1.mono hs0)
  have HC1 : Hid (FSAt w1 (fun k => w0.heap.size ≤ k ∧ k < w1.heap.size) (w0.heap.size + 1) St.init) := HC
  have hs1 := hb1.size
  have HM1 : Hid (BadAt (w1.alloc (.map #[] 0)) w1.heap.size 0 []) := ⟨_, MapAt.made _ _ _, fun i => rfl⟩
  clear hb0 hb1 HC
  go_wp2
  go_loopw [24, 6] (fun i v wr => ∃ (k : Nat), k ≤ ys.length ∧ i = .int .i64 k ∧ Hid (wr.ownsRow w1.heap.size 43 fateShape.sz v k (fateShape.vals (fullF (ys.take k)))) ∧ Hid (BadAt wr w1.heap.size k ((ys.take k).map r16)) ∧ Hid (Below w1.heap.size w1 wr)) (fun i _ _ => ys.length - (intOf i).toNat)
  case atStart => exact ⟨0, by omega, rfl, World.ownsRow_nil _ _ _ _, HM1.out, (Below.refl _ _).alloc (Nat.le_refl _) _⟩
  case round =>
    obtain ⟨k, hk, rfl, HR, HM, HB⟩ := hrel
    have HBw : Hid (Below w.heap.size w wr) := HB1.out.trans (HB.out.mono HB1.out.size)
    by_cases hlt : k < ys.length
    · rcases HY.out wr HBw.out with h0 | ⟨pb, off, rfl, hbl, hcells⟩
      · have : ys.length = 0 := by have := congrArg List.length h0; simpa using this
        omega
      have hck := hcells k (by simpa using hlt)
      have hyk : (ys.map I64)[k]? = some (.int .i64 (ys.getD k 0)) := by simp [hlt, I64]
      rw [hyk] at hck
      have HSn : Hid _ := fullF_snoc ys k hlt
      have HMn : Hid _ := mem_snoc ys k hlt
      generalize ys.getD k 0 = y at *
      obtain ⟨r, hr⟩ : ∃ r, wrap64 ((IntKind.u64.wrap y).tmod 16) = r := ⟨_, rfl⟩
      have er : r16 y = r := hr
      have hr1 := r16_in y
      rw [er] at hr1
      have HSn' : Hid (fullF (ys.take (k + 1)) = fullF (ys.take k) ++ [(r, 3)]) := by rw [← er]; exact HSn.out
      have HMn' : Hid (∀ j, j ∈ (ys.take (k + 1)).map r16 ↔ j ∈ (ys.take k).map r16 ∨ j = r) := by rw [← er]; exact HMn.out
      have hsr := HB.out.size
      clear hcells hyk hbl HSn HMn er
      go_wp2_with (at_builtin; refine wpList_append_rows (F := fateShape) _ rfl _ _ 45 rfl w1.heap.size 43 i0 (.agg #[.int .i64 0, .int .i64 0]) 16 Try.underlying45 hi hz0 hz1 hz2 rfl u6 k (fullF (ys.take k)) rfl (rows_keep HR.out fun j e => Below.heap_alloc _ _ _ (HR.out.lt j e).2) (some ⟨wr.heap.size, 0, none⟩) 1 1 [(r, 3)] rfl (by simp) rfl (fate_one wr r 3) ?c2 ?c3 ?c4 ?_)
      case c2 => unfold maxLen; omega
      case c3 => omega
      case c4 => simp; omega
      intro v' w4 hown4 hg4 hat4
      have HM4 : BadAt w4 w1.heap.size k ((ys.take k).map r16) := HM.out.keep fun hl => (hg4.block _ (by simp; omega) (by
        obtain ⟨G, ⟨D, ⟨es, clock, hb, _⟩, _⟩, _⟩ := HM.out
        exact (rows_far HR.out hb (by simp)).symm)).trans (Below.heap_alloc _ _ _ hl)
      obtain ⟨w5, hrun, hB5, ht5⟩ := HM4.store r (by omega) (by omega) (by omega)
      have HM5 : Hid (BadAt w5 w1.heap.size (k + 1) ((ys.take (k + 1)).map r16)) := hB5 _ HMn'.out
      have HR5 : Hid (w5.ownsRow w1.heap.size 43 fateShape.sz v' (k + 1) (fateShape.vals (fullF (ys.take (k + 1))))) := by
        show World.ownsRow _ _ _ _ _ _ _
        rw [HSn'.out]
        refine rows_keep hown4 fun j e => ht5.grown.block j (hown4.lt j e).2 ?_
        obtain ⟨G, ⟨D, ⟨es, clock, hb, _⟩, _⟩, _⟩ := HM4
        rintro e2
        cases e2
        exact rows_far hown4 hb (by simp) e
      have HB5 : Hid (Below w1.heap.size w1 w5) := by
        have h1 : Below w1.heap.size w1 w4 := (HB.out.alloc (by omega) _).grown hg4 (by simp; omega) (fun j hj => (HR.out.lt j hj).1)
        exact h1.grown ht5.grown h1.size (fun j hj => by cases hj; exact Nat.le_refl _)
      clear hown4 hg4 hat4 HM4 hB5 ht5 HSn' HMn'
      go_wp2
      go_roundw
      case rel => exact ⟨k + 1, by omega, by go_num, HR5.out, HM5.out, HB5.out⟩
      case measure => simp [intOf]; omega
    · obtain rfl : k = ys.length := by omega
      have hR := HR.out
      have hM := HM.out
      rw [List.take_length] at hR hM
      rw [← fullF_len ys] at hR
      obtain ⟨ao, cap, rfl, hnil, hblk, hcap, hel⟩ := own_rows hR
      have HM2 : Hid (BadAt wr w1.heap.size ys.length (ys.map r16)) := hM
      have HArm : Hid _ := arm_any (fun k => w0.heap.size ≤ k ∧ k < w1.heap.size) (w0.heap.size + 1) St.init ao cap (fullF ys) wr (FSX.keep HC1.out fun k e _ => HB.out.block k e.2) (fates_in hel) (fun ad e h2 => by have := (hblk ad e).2.1; omega) (by rw [fullF_len]; omega) (fun f hf => by
        obtain ⟨y, _, rfl⟩ := List.mem_map.1 hf
        have := r16_in y; exact ⟨by omega, by omega⟩)
      have hsr := HB.out.size
      clear hR hM hnil hblk hcap hel HR HM
      rw [fullF_len] at HArm
      rw [fullF_len]
      go_wp2_with fail
      refine (show Calls _ _ _ _ _ from HArm.out).mono ?_
      rintro e w2 ⟨rfl, HF, hc2⟩
      obtain ⟨ks, hks⟩ : ∃ ks, ks = ys.map r16 := ⟨_, rfl⟩
      obtain ⟨S1, hS1⟩ : ∃ S1, S1 = New (fun k => w0.heap.size ≤ k ∧ k < w1.heap.size) wr := ⟨_, rfl⟩
      have hbl : w1.heap.size < wr.heap.size := by obtain ⟨G, hG, _⟩ := HM2.out; exact hG.lt
      have HSup : Hid (∀ k, w2.heap.size ≤ k → S1 k) := fun k h => by rw [hS1]; exact .inr (by have := hc2.size; omega)
      have HSbad : Hid (¬ S1 w1.heap.size) := by
        show ¬ _
        rw [hS1]
        rintro (h | h)
        · exact Nat.lt_irrefl _ h.2
        · omega
      have HSlo : Hid (∀ k, S1 k → w0.heap.size ≤ k) := fun k h => by
        rw [hS1] at h
        rcases h with h | h
        · exact h.1
        · omega
      have HF2 : Hid (FSAt w2 S1 (w0.heap.size + 1) (St.init.arm (fullF ys))) := by rw [hS1]; exact HF
      have HBad2 : Hid (BadAt w2 w1.heap.size ys.length ks) := by
        rw [hks]; exact HM2.out.keep fun hl => hc2.block _ hl (fun e => Nat.lt_irrefl _ e.2)
      have HB2 : Hid (Below w.heap.size w w2) := HBw.out.trans (hc2.below (fun k e => Nat.le_trans hs0 e.1) HBw.out.size)
      have HSp : Hid (Spc ks xs 0 ⟨#[]⟩ false (St.init.arm (fullF ys))) := by rw [hks]; exact spc_start ys xs
      have hs2 : w0.heap.size ≤ w2.heap.size := by have := hc2.size; omega
      clear HF hc2 hks hS1 HM2 HArm HB HBw HB1 HC1 HM1 HY
      go_wp2
      go_loopw [47, 11, 12] (fun i t m wr => ∃ (k : Nat) (T : ByteArray) (md : Bool) (s : St), k ≤ xs.length ∧ i = .int .i64 k ∧ t = .string T ∧ m = .bool md ∧ Hid (Spc ks xs k T md s) ∧ Hid (FSAt wr S1 (w0.heap.size + 1) s) ∧ Hid (BadAt wr w1.heap.size ys.length ks) ∧ w2.heap.size ≤ wr.heap.size ∧ Hid (Below w.heap.size w wr)) (fun i _ _ _ => xs.length - (intOf i).toNat)
      case atStart => exact ⟨0, _, _, _, by omega, rfl, rfl, rfl, HSp.out, HF2.out, HBad2.out, Nat.le_refl _, HB2.out⟩
      case round =>
        clear HSp HF2 HBad2 HB2
        obtain ⟨k, T, md, s, hk, rfl, rfl, rfl, HP, HC, HBad, hsr, HB⟩ := hrel
        by_cases hlt : k < xs.length
        · rcases HX.out wr HB.out with h0 | ⟨pb, off, rfl, hbl2, hcells⟩
          · have : xs.length = 0 := by have := congrArg List.length h0; simpa [strVals] using this
            omega
          have hck := hcells k (by simpa [strVals] using hlt)
          have hxk : (strVals xs)[k]? = some (.string (xs.getD k ByteArray.empty)) := by simp [strVals, hlt]
          rw [hxk] at hck
          have hsz : T.size + (xs.getD k ByteArray.empty).size ≤ 2199023255552 := by
            have h1 := HBd.out; have h2 := total_at xs k hlt; have h3 := HP.out.size; omega
          have HFr := fun h => HP.out.free hlt h
          have HFu := fun h => HP.out.full h (xs.getD k ByteArray.empty).data.toList
          have HFr : Hid _ := HFr
          have HFu : Hid _ := HFu
          generalize xs.getD k ByteArray.empty = p at *
          have HAp : Hid _ := appendS S1 (w0.heap.size + 1) s XN p wr HC.out (fun k h => HSup.out k (by omega)) (by decide) (by have := HP.out.cnt; omega) (by rw [show XN.data.toList = [120] from rfl, HP.out.old]; show T.data.toList.length + _ ≤ _; rw [← Lib.size_eq]; omega) (by rw [HP.out.armed]; omega) (by rw [HP.out.acts]; omega)
          have hadd := fun w : World => run_string_add_sum (P := Try.prog) w T p (by omega)
          clear hcells hxk hbl2 HC
          by_cases hm : (k : Int) ∈ ks
          · obtain ⟨hE, HP3⟩ := HFu.out hm
            have HP3 : Hid _ := HP3
            have HE : Hid _ := hE
            clear HFu HFr hE
            go_wp2_with fail
            refine (show Calls _ _ _ _ _ from HAp.out).mono ?_
            rintro e w3 ⟨rfl, HC3, hc3⟩
            rw [show XN.data.toList = [120] from rfl] at HC3 ⊢
            rw [HE.out]
            have HB3 : Hid (Below w.heap.size w w3) := HB.out.trans (hc3.below (fun k e => Nat.le_trans hs0 (HSlo.out k e)) HB.out.size)
            have hs3 := Nat.le_trans hsr hc3.size
            have HBad3 : Hid (BadAt w3 w1.heap.size ys.length ks) := HBad.out.keep fun hl => hc3.block _ hl HSbad.out
            have hlk := HBad3.out.look k (by omega) (by omega)
            rw [if_pos hm] at hlk
            have HRd : Hid _ := HP3.out.readC S1 _ w3 HC3
            have HC3 : Hid _ := HC3
            clear HAp hc3 hm
            go_wp2_with fail
            refine (show Calls _ _ _ _ _ from HRd.out).mono ?_
            rintro e w4 ⟨rfl, hb4⟩
            have HC4 : Hid (FSAt w4 S1 (w0.heap.size + 1) (s.append [120] p.data.toList)) := FSX.below HC3.out hb4
            have HBad4 : Hid (BadAt w4 w1.heap.size ys.length ks) := HBad3.out.keep fun hl => hb4.block _ hl
            have HB4 : Hid (Below w.heap.size w w4) := HB3.out.trans (hb4.mono HB3.out.size)
            have hs4 := Nat.le_trans hs3 hb4.size
            clear hb4 HRd HC3 HBad3 hlk hadd
            cases md
            · go_wp2
              go_roundw
              case rel => exact ⟨k + 1, T, false, _, by omega, by go_num, rfl, rfl, HP3.out, HC4.out, HBad4.out, hs4, HB4.out⟩
              case measure => simp [intOf]; omega
            · go_wp2
              go_roundw
              case rel => exact ⟨k + 1, T, true, _, by omega, by go_num, rfl, rfl, HP3.out, HC4.out, HBad4.out, hs4, HB4.out⟩
              case measure => simp [intOf]; omega
          · obtain ⟨hE, HP3⟩ := HFr.out hm
            have HP3 : Hid _ := HP3
            have HE : Hid _ := hE
            clear HFu HFr hE
            go_wp2_with fail
            refine (show Calls _ _ _ _ _ from HAp.out).mono ?_
            rintro e w3 ⟨rfl, HC3, hc3⟩
            rw [show XN.data.toList = [120] from rfl] at HC3 ⊢
            rw [HE.out]
            have HB3 : Hid (Below w.heap.size w w3) := HB.out.trans (hc3.below (fun k e => Nat.le_trans hs0 (HSlo.out k e)) HB.out.size)
            have hs3 := Nat.le_trans hsr hc3.size
            have HBad3 : Hid (BadAt w3 w1.heap.size ys.length ks) := HBad.out.keep fun hl => hc3.block _ hl HSbad.out
            have hlk := HBad3.out.look k (by omega) (by omega)
            rw [if_neg hm] at hlk
            have HRd : Hid _ := HP3.out.readC S1 _ w3 HC3
            have HC3 : Hid _ := HC3
            clear HAp hc3 hm
            go_wp2_with fail
            refine (show Calls _ _ _ _ _ from HRd.out).mono ?_
            rintro e w4 ⟨rfl, hb4⟩
            have HC4 : Hid (FSAt w4 S1 (w0.heap.size + 1) (s.append [120] p.data.toList)) := FSX.below HC3.out hb4
            have HBad4 : Hid (BadAt w4 w1.heap.size ys.length ks) := HBad3.out.keep fun hl => hb4.block _ hl
            have HB4 : Hid (Below w.heap.size w w4) := HB3.out.trans (hb4.mono HB3.out.size)
            have hs4 := Nat.le_trans hs3 hb4.size
            clear hb4 HRd HC3 HBad3 hlk hadd
            go_wp2
            go_roundw
            case rel => exact ⟨k + 1, T ++ p, true, _, by omega, by go_num, rfl, rfl, HP3.out, HC4.out, HBad4.out, hs4, HB4.out⟩
            case measure => simp [intOf]; omega
        · obtain rfl : k = xs.length := by omega
          have HDn : Hid _ := down_any S1 _ s wr HC.out
          have HAc : Hid _ := acts_any S1 _ s wr HC.out
          rw [HP.out.down] at HDn
          rw [HP.out.acts] at HAc
          go_wp2_with fail
          refine (show Calls _ _ _ _ _ from HDn.out).mono ?_
          rintro e w3 ⟨rfl, rfl⟩
          go_wp2_with fail
          refine (show Calls _ _ _ _ _ from HAc.out).mono ?_
          rintro e w4 ⟨rfl, rfl⟩
          go_wp2
          go_ret
          exact ⟨rfl, HB.out⟩
end Go.Proofs.Ythiagcialidfjaa.Vf
