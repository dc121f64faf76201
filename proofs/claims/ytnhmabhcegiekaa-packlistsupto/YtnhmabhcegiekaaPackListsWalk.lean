/-
  The walk of the statement PackLists.
-/
import Derived.Test.YtnhmabhcegiekaaPackLists2
import Derived.Deep.RegionHeld3
import Derived.Deep.DrawnRows
namespace Go.Proofs.Ytnhmabhcegiekaa.Pk
open Go.RowKit
set_option linter.unusedVariables false
attribute [local go_sem ↓] Go.wp_at_zero Go.wp_at_succ

theorem infoU64 : (Try.prog.info? 27).map (fun i => (i.zero, i.size, i.bytes)) = some (some (.int .u64 0), 1, 8) := by kernel_rfl
theorem infoInt : (Try.prog.info? 3).map (fun i => (i.zero, i.size, i.bytes)) = some (some (.int .i64 0), 1, 8) := by kernel_rfl
theorem infoStr : (Try.prog.info? 9).map (fun i => (i.zero, i.size, i.bytes)) = some (some (.string ⟨#[]⟩), 1, 16) := by kernel_rfl

/-- A row that the call has made: the values stand in it, in their order. -/
theorem row_cells {w : World} {base g n cap : Nat} {e : TypeId} {vs : List Value} (h : w.ownsRow base e 1 (.slice (some ⟨g, 0, none⟩) n cap) n vs) : g < w.heap.size ∧ n ≤ cap ∧ ∀ j, j < vs.length → w.cell? ⟨g, 0 + j, none⟩ = vs[j]? := by
  refine ⟨(h.lt g rfl).2, ?_, fun j hj => ?_⟩
  · rcases h.2 with ⟨h, _⟩ | ⟨g', cap', cur, he, _, _, hn, _⟩
    · cases h
    · simp at he
      omega
  · have := h.cells (g := g) rfl j vs[j] (by simp [hj])
    rw [Go.WideShapes.add_plain] at this
    rw [this]; simp [hj]

/-- Behind two appends to a row that was made for them. -/
theorem copy_below {w w1 w2 w3 : World} {o1 o2 : Obj} {v0 v1 : Value} {n : Nat} {xs : List Value} {e : TypeId} (hB : Below w.heap.size w w1) (h0 : ∀ k, v0.ownBlock = some k → w1.heap.size ≤ k)
    (hg1 : (w1.alloc o1).grownBy w2 v0.ownBlock) (hat : v1.ownBlock = v0.ownBlock ∨ v1.ownBlock = some (w1.alloc o1).heap.size) (hg2 : (w2.alloc o2).grownBy w3 v1.ownBlock) : Below w1.heap.size w1 w3 := by
  have h1 := hg1.size
  have h2 := hg2.size
  simp at h1 h2
  have ha : Below w1.heap.size w1 w2 := ((Below.refl _ w1).alloc (Nat.le_refl _) o1).grown hg1 (by simp) h0
  refine (ha.alloc (by omega) o2).grown hg2 (by simp; omega) (fun k hk => ?_)
  rcases hat with e | e
  · exact h0 k (by rw [← e, hk])
  · rw [e] at hk
    simp at hk
    omega

/-- A row of values at the head of a block. -/
def Row (w : World) (g : Nat) (vs : List Value) : Prop := g < w.heap.size ∧ ∀ j, j < vs.length → w.cell? ⟨g, 0 + j, none⟩ = vs[j]?
theorem Row.below {w w' : World} {g B : Nat} {vs : List Value} (h : Row w g vs) (hb : Below B w w') (hB : g < B) : Row w' g vs :=
  ⟨by have := hb.size; have := h.1; omega, fun j hj => by rw [World.cell?_of_block (hb.block g hB)]; exact h.2 j hj⟩
theorem Row.cells {w : World} {g : Nat} {vs ws : List Value} (h : Row w g (vs ++ ws)) : CellsAt w (some ⟨g, 0, none⟩) vs :=
  .inr ⟨g, 0, rfl, h.1, fun j hj => by rw [h.2 j (by simp; omega), List.getElem?_append_left hj]⟩
theorem Row.at {w : World} {g : Nat} {vs : List Value} (h : Row w g vs) (j : Nat) (v : Value) (hv : vs[j]? = some v) : w.cell? ⟨g, j, none⟩ = some v := by
  have := h.2 j (List.getElem?_eq_some_iff.1 hv).1
  rwa [Nat.zero_add, hv] at this

theorem Row.nums {w : World} {g : Nat} {xs : List Nat} {ws : List Value} (h : Row w g (numVals xs ++ ws)) : ∀ j, j < xs.length → w.cell? ⟨g, 0 + j, none⟩ = some (.int .u64 (xs.getD j 0)) := fun j hj => by
  rw [h.2 j (by simp [numVals]; omega), List.getElem?_append_left (by simpa [numVals] using hj)]; simp [numVals, hj]
theorem Row.ints {w : World} {g : Nat} {xs : List Int} {ws : List Value} (h : Row w g (intVals xs ++ ws)) : ∀ j, j < xs.length → w.cell? ⟨g, 0 + j, none⟩ = some (.int .i64 (xs.getD j 0)) := fun j hj => by
  rw [h.2 j (by simp [intVals]; omega), List.getElem?_append_left (by simpa [intVals] using hj)]; simp [intVals, hj]
theorem Row.strs {w : World} {g : Nat} {xs : List ByteArray} {ws : List Value} (h : Row w g (strVals xs ++ ws)) : ∀ j, j < xs.length → w.cell? ⟨g, 0 + j, none⟩ = some (.string (xs.getD j ByteArray.empty)) := fun j hj => by
  rw [h.2 j (by simp [strVals]; omega), List.getElem?_append_left (by simpa [strVals] using hj)]; simp [strVals, hj]
theorem ba_of {Z : ByteArray} {l : List UInt8} (h : Z.data.toList = l) : (⟨l.toArray⟩ : ByteArray) = Z := by
  apply ByteArray.ext
  exact Array.ext' (by rw [h])
/-- What stands in the world W of the statement's things. -/
structure Fin (w W : World) (bw gN gI gS : Nat) (r : Option Nat) (aoN aoI aoS : Option Addr) (ns : List Nat) (is : List Int) (ss : List ByteArray) : Prop where
  cN : CellsAt W aoN (numVals ns)
  cI : CellsAt W aoI (intVals is)
  cS : CellsAt W aoS (strVals ss)
  rN : Row W gN (numVals ns ++ [.int .u64 77])
  rI : Row W gI (intVals is ++ [.int .i64 78])
  rS : Row W gS (strVals ss ++ [.string ⟨#[115, 112, 97, 114, 101]⟩])
  wrt : WrAt W bw bw r (((([] : List UInt8) ++ nums ns) ++ ints is) ++ texts (ss.map fun s => s.data.toList))
  bel : Below w.heap.size w W
theorem drew_refl {w : World} : Below w.heap.size w w.drew := ⟨rfl, rfl, rfl, Nat.le_refl _, fun _ _ => rfl⟩

/-- What the last two tests of the statement look at, in the world W. -/
structure LS (w10 W : World) (X Y : ByteArray) (vx vy : Value) : Prop where
  bel : Below w10.heap.size w10 W
  cx : ∀ n, (convert 26 9 vx).run Try.prog (W.drewN n) = .ok (.string X) (W.drewN n)
  cy : ∀ n, (convert 26 9 vy).run Try.prog (W.drewN n) = .ok (.string Y) (W.drewN n)
theorem LS.here {w10 W : World} {B1 B2 : Nat} {vx vy : Value} {bx by' : List UInt8} (hb : Below w10.heap.size w10 W) (h1 : w10.ownsRow B1 5 1 vx bx.length (bx.map B8)) (h2 : w10.ownsRow B2 5 1 vy by'.length (by'.map B8)) :
    LS w10 W ⟨bx.toArray⟩ ⟨by'.toArray⟩ vx vy :=
  ⟨hb, fun n => own_string (w := W.drewN n) (own_keep h1 fun k hk => hb.block k (h1.lt k hk).2), fun n => own_string (w := W.drewN n) (own_keep h2 fun k hk => hb.block k (h2.lt k hk).2)⟩

theorem LS.x0 {w10 W : World} {X Y : ByteArray} {vx vy : Value} (h : LS w10 W X Y vx vy) : (convert 26 9 vx).run Try.prog W = .ok (.string X) W := h.cx 0
theorem LS.y0 {w10 W : World} {X Y : ByteArray} {vx vy : Value} (h : LS w10 W X Y vx vy) : (convert 26 9 vy).run Try.prog W = .ok (.string Y) W := h.cy 0

set_option maxRecDepth 100000 in
set_option maxHeartbeats 8000000 in
theorem lists_walk (aoN aoI aoS : Option Addr) (cN cI cS : Nat) (ns : List Nat) (is : List Int) (ss : List ByteArray) (w : World)
    (hN : CellsAt w aoN (numVals ns)) (hI : CellsAt w aoI (intVals is)) (hS : CellsAt w aoS (strVals ss)) (nN : aoN = none → cN = 0) (nI : aoI = none → cI = 0) (nS : aoS = none → cS = 0)
    (okN : ∀ x ∈ ns, x < 18446744073709551616) (okI : ∀ x ∈ is, -9223372036854775808 ≤ x ∧ x ≤ 9223372036854775807) (lN : ns.length ≤ 1048576) (lI : is.length ≤ 1048576) (lS : ss.length ≤ 1048576)
    (lT : (texts (ss.map fun s => s.data.toList)).length ≤ 20000000) (mT : ∀ k, k ≤ ss.length → (ss.getD k ByteArray.empty).size ≤ 1048576) :
    Calls Try.prog 7 #[.slice aoN ns.length cN, .slice aoI is.length cI, .slice aoS ss.length cS] w fun e w' => e = .returned (.bool true) ∧ Below w.heap.size w w' := by
  obtain ⟨i0, hi0, hz0, hz1, hz2⟩ := info_parts info8
  obtain ⟨iN, hiN, hzN0, hzN1, hzN2⟩ := info_parts infoU64
  obtain ⟨iI, hiI, hzI0, hzI1, hzI2⟩ := info_parts infoInt
  obtain ⟨iS, hiS, hzS0, hzS1, hzS2⟩ := info_parts infoStr
  go_enter Try.func7, Try.ntmps7
  go_wp2_with fail
  refine (lives_any _).mono ?_
  rintro e w1 ⟨rfl, hb1⟩
  have hs1 := hb1.size
  have hmadeN : (w1.alloc (.cells #[] 27)).ownsRow w.heap.size 27 1 (.slice (some ⟨w1.heap.size, 0, none⟩) 0 0) 0 [] := World.ownsRow_made w1 #[] 0 (by have := hb1.size; omega) (by simp [maxLen]) rfl
  have hsrcN : CellsAt (w1.alloc (.cells #[] 27)) aoN (numVals ns) := (hN.below hb1).alloc _
  have hszN := hb1.size
  go_wp2_with (at_builtin; refine wpList_append_any _ rfl (.tmp 22) (.tmp 23) 57 rfl w.heap.size 27 iN (.int .u64 0) 8 Try.underlying57 hiN hzN0 hzN1 hzN2 rfl _ 0 [] rfl hmadeN aoN ns.length cN (numVals ns) rfl nN ?a1N hsrcN ?a2N ?a3N ?a4N ?a5N ?_)
  case a1N => simp [numVals]
  case a2N => intro u hu; simp [numVals] at hu; obtain ⟨_, _, rfl⟩ := hu; rfl
  case a3N => unfold maxLen; omega
  case a4N => omega
  case a5N => simp; omega
  intro v1N waN hown1N hgrow1N hat1N
  have hsaN := hgrow1N.size
  simp at hsaN
  go_wp2_with (at_builtin; refine wpList_append_lies _ rfl (.tmp 24) (.tmp 25) 57 rfl w.heap.size 27 iN (.int .u64 0) 1 8 Try.underlying57 hiN hzN0 hzN1 hzN2 rfl (by decide) v1N ns.length (numVals ns) rfl (hown1N.alloc _) ⟨waN.heap.size, 0, none⟩ 1 1 [.int .u64 77] rfl rfl ?b1N ?b2N (by decide) ?b3N ?b4N ?b5N (waN.heap.size + 1) (by simp) ?_)
  case b1N => exact World.news_of_block (heap_alloc_new waN _)
  case b2N => intro u hu; simp at hu; subst hu; rfl
  case b3N => unfold maxLen; omega
  case b4N => omega
  case b5N => simp; omega
  intro gN kN wcN hown2N hgrow2N hat2N hglN
  have hbcN : Below w1.heap.size w1 wcN := copy_below (e := 27) (n := 0) (xs := []) hb1 (fun k hk => by simp [Value.ownBlock] at hk; omega) hgrow1N (by simpa using hat1N) hgrow2N
  have hrcN := row_cells hown2N
  have hcapN := hrcN.2.1
  have HRN : Hid (Row wcN gN (numVals ns ++ [.int .u64 77])) := ⟨hrcN.1, hrcN.2.2⟩
  have HBN : Below w.heap.size w wcN := hb1.trans (hbcN.mono (by omega))
  have hzNz := hbcN.size
  clear hown1N hgrow1N hat1N hown2N hgrow2N hat2N hrcN hmadeN hsrcN
  have hmadeI : (wcN.alloc (.cells #[] 3)).ownsRow w.heap.size 3 1 (.slice (some ⟨wcN.heap.size, 0, none⟩) 0 0) 0 [] := World.ownsRow_made wcN #[] 0 (by have := HBN.size; omega) (by simp [maxLen]) rfl
  have hsrcI : CellsAt (wcN.alloc (.cells #[] 3)) aoI (intVals is) := (hI.below HBN).alloc _
  have hszI := HBN.size
  go_wp2_with (at_builtin; refine wpList_append_any _ rfl (.tmp 27) (.tmp 28) 58 rfl w.heap.size 3 iI (.int .i64 0) 8 Try.underlying58 hiI hzI0 hzI1 hzI2 rfl _ 0 [] rfl hmadeI aoI is.length cI (intVals is) rfl nI ?a1I hsrcI ?a2I ?a3I ?a4I ?a5I ?_)
  case a1I => simp [intVals]
  case a2I => intro u hu; simp [intVals] at hu; obtain ⟨_, _, rfl⟩ := hu; rfl
  case a3I => unfold maxLen; omega
  case a4I => omega
  case a5I => simp; omega
  intro v1I waI hown1I hgrow1I hat1I
  have hsaI := hgrow1I.size
  simp at hsaI
  go_wp2_with (at_builtin; refine wpList_append_lies _ rfl (.tmp 29) (.tmp 30) 58 rfl w.heap.size 3 iI (.int .i64 0) 1 8 Try.underlying58 hiI hzI0 hzI1 hzI2 rfl (by decide) v1I is.length (intVals is) rfl (hown1I.alloc _) ⟨waI.heap.size, 0, none⟩ 1 1 [.int .i64 78] rfl rfl ?b1I ?b2I (by decide) ?b3I ?b4I ?b5I (waI.heap.size + 1) (by simp) ?_)
  case b1I => exact World.news_of_block (heap_alloc_new waI _)
  case b2I => intro u hu; simp at hu; subst hu; rfl
  case b3I => unfold maxLen; omega
  case b4I => omega
  case b5I => simp; omega
  intro gI kI wcI hown2I hgrow2I hat2I hglI
  have hbcI : Below wcN.heap.size wcN wcI := copy_below (e := 3) (n := 0) (xs := []) HBN (fun k hk => by simp [Value.ownBlock] at hk; omega) hgrow1I (by simpa using hat1I) hgrow2I
  have hrcI := row_cells hown2I
  have hcapI := hrcI.2.1
  have HRI : Hid (Row wcI gI (intVals is ++ [.int .i64 78])) := ⟨hrcI.1, hrcI.2.2⟩
  have HBI : Below w.heap.size w wcI := HBN.trans (hbcI.mono (by omega))
  have hzIz := hbcI.size
  have HRN : Hid (Row wcI gN (numVals ns ++ [.int .u64 77])) := HRN.out.below hbcI HRN.out.1
  clear hown1I hgrow1I hat1I hown2I hgrow2I hat2I hrcI hmadeI hsrcI
  have hmadeS : (wcI.alloc (.cells #[] 9)).ownsRow w.heap.size 9 1 (.slice (some ⟨wcI.heap.size, 0, none⟩) 0 0) 0 [] := World.ownsRow_made wcI #[] 0 (by have := HBI.size; omega) (by simp [maxLen]) rfl
  have hsrcS : CellsAt (wcI.alloc (.cells #[] 9)) aoS (strVals ss) := (hS.below HBI).alloc _
  have hszS := HBI.size
  go_wp2_with (at_builtin; refine wpList_append_any _ rfl (.tmp 32) (.tmp 33) 59 rfl w.heap.size 9 iS (.string ⟨#[]⟩) 16 Try.underlying59 hiS hzS0 hzS1 hzS2 rfl _ 0 [] rfl hmadeS aoS ss.length cS (strVals ss) rfl nS ?a1S hsrcS ?a2S ?a3S ?a4S ?a5S ?_)
  case a1S => simp [strVals]
  case a2S => intro u hu; simp [strVals] at hu; obtain ⟨_, _, rfl⟩ := hu; rfl
  case a3S => unfold maxLen; omega
  case a4S => omega
  case a5S => simp; omega
  intro v1S waS hown1S hgrow1S hat1S
  have hsaS := hgrow1S.size
  simp at hsaS
  go_wp2_with (at_builtin; refine wpList_append_lies _ rfl (.tmp 34) (.tmp 35) 59 rfl w.heap.size 9 iS (.string ⟨#[]⟩) 1 16 Try.underlying59 hiS hzS0 hzS1 hzS2 rfl (by decide) v1S ss.length (strVals ss) rfl (hown1S.alloc _) ⟨waS.heap.size, 0, none⟩ 1 1 [.string ⟨#[115, 112, 97, 114, 101]⟩] rfl rfl ?b1S ?b2S (by decide) ?b3S ?b4S ?b5S (waS.heap.size + 1) (by simp) ?_)
  case b1S => exact World.news_of_block (heap_alloc_new waS _)
  case b2S => intro u hu; simp at hu; subst hu; rfl
  case b3S => unfold maxLen; omega
  case b4S => omega
  case b5S => simp; omega
  intro gS kS wcS hown2S hgrow2S hat2S hglS
  have hbcS : Below wcI.heap.size wcI wcS := copy_below (e := 9) (n := 0) (xs := []) HBI (fun k hk => by simp [Value.ownBlock] at hk; omega) hgrow1S (by simpa using hat1S) hgrow2S
  have hrcS := row_cells hown2S
  have hcapS := hrcS.2.1
  have HRS : Hid (Row wcS gS (strVals ss ++ [.string ⟨#[115, 112, 97, 114, 101]⟩])) := ⟨hrcS.1, hrcS.2.2⟩
  have HBS : Below w.heap.size w wcS := HBI.trans (hbcS.mono (by omega))
  have hzSz := hbcS.size
  have HRN : Hid (Row wcS gN (numVals ns ++ [.int .u64 77])) := HRN.out.below hbcS HRN.out.1
  have HRI : Hid (Row wcS gI (intVals is ++ [.int .i64 78])) := HRI.out.below hbcS HRI.out.1
  clear hown1S hgrow1S hat1S hown2S hgrow2S hat2S hrcS hmadeS hsrcS
  have hgNl := HRN.out.1
  have hgIl := HRI.out.1
  have hgSl := HRS.out.1
  have HB7 : Hid (Below w.heap.size w wcS) := HBS
  have hs7 := HBS.size
  clear HBN HBI HBS hbcN hbcI hbcS hb1
  go_wp2_with fail
  go_loopw [10, 39] (fun v i wr => ∃ k : Nat, k ≤ ns.length ∧ i = .int .i64 k ∧ Hid (wr.ownsRow wcS.heap.size 5 1 v (nums (ns.take k)).length ((nums (ns.take k)).map B8)) ∧ Hid (Below wcS.heap.size wcS wr)) (fun _ i _ => ns.length - (intOf i).toNat)
  case atStart => exact ⟨0, by omega, rfl, World.ownsRow_nil _ _ _ _, Below.refl _ _⟩
  case round =>
    obtain ⟨k, hk, rfl, HO, HBl⟩ := hrel
    have hsr := HBl.out.size
    by_cases hlt : k < ns.length
    · rcases hN.below (HB7.out.trans (HBl.out.mono (by omega))) with h0 | ⟨b, off, rfl, hbl, hcells⟩
      · have : ns.length = 0 := by have := congrArg List.length h0; simpa [numVals] using this
        omega
      have hck := hcells k (by simpa [numVals] using hlt)
      have hx : (numVals ns)[k]? = some (.int .u64 (ns.getD k 0)) := by simp [numVals, hlt]
      rw [hx] at hck
      have HN : Hid _ := nums_snoc ns k hlt
      have hle := nums_len (ns.take k)
      have hlt2 : (ns.take k).length ≤ k := List.length_take_le _ _
      have hxo := okN (ns.getD k 0) (by rw [getD_lt _ _ _ hlt]; exact List.getElem_mem hlt)
      generalize ns.getD k 0 = x at *
      generalize nums (ns.take k) = bs at *
      clear hcells hx
      go_wp2_with fail
      refine (refNum_any x _ hxo).mono ?_
      rintro e w5 ⟨rfl, hb5⟩
      have hown5 := own_keep_below HO.out hb5
      have hsz5 := hb5.size
      obtain ⟨X, hX⟩ : ∃ X : ByteArray, X = ⟨(enc x).toArray⟩ := ⟨_, rfl⟩
      have HX : Hid (X.data.toList = enc x) := by rw [hX]; rfl
      rw [← hX]
      clear hX
      have hXs : X.size ≤ 10 := by rw [Lib.size_eq, HX.out]; exact (enc_len _).2
      go_wp2_with (at_builtin; refine wpList_append_str_at _ rfl _ _ 26 9 rfl wcS.heap.size 5 i0 Try.underlying26 Try.underlying9 hi0 hz0 hz1 hz2 u10 bs.length (bs.map B8) rfl hown5 X rfl ?c110 ?c310 ?c210 ?_)
      case c110 => unfold maxLen; omega
      case c210 => omega
      case c310 => omega
      intro v' w6 hown6 hgrow6 hat6
      have HB6 : Hid _ := own_text_below HBl.out (Nat.le_refl _) hb5 HO.out hgrow6
      have HO6 : Hid (w6.ownsRow wcS.heap.size 5 1 v' (bs ++ enc x).length ((bs ++ enc x).map B8)) := by
        show World.ownsRow _ _ _ _ _ _ _
        rw [List.length_append, List.map_append, ← HX.out, ← Lib.size_eq]; exact hown6
      clear hown6 hgrow6 hat6 hown5 hb5
      go_wp2
      go_roundw
      case rel => exact ⟨k + 1, by omega, by go_num, by rw [HN.out]; exact HO6, HB6⟩
      case measure => simp [intOf]; omega
    · have hk' : k = ns.length := by omega
      subst hk'
      rw [List.take_length] at HO
      obtain ⟨wx, hwx⟩ : ∃ wx, wx = wr := ⟨_, rfl⟩
      obtain ⟨vx, hvx⟩ : ∃ vx, vx = u10 := ⟨_, rfl⟩
      rw [← hwx] at HO HBl hsr ⊢
      rw [← hvx] at HO ⊢
      clear hwx hvx
      have HOX : Hid (wx.ownsRow wcS.heap.size 5 1 vx (nums ns).length ((nums ns).map B8)) := HO.out
      have HBX : Hid (Below w.heap.size w wx) := HB7.out.trans (HBl.out.mono (by omega))
      have HB78 : Hid (Below wcS.heap.size wcS wx) := HBl.out
      have hsx := hsr
      clear HO HBl hsr
      go_wp2_with fail
      go_loopw [11, 50] (fun v i wr => ∃ k : Nat, k ≤ is.length ∧ i = .int .i64 k ∧ Hid (wr.ownsRow wx.heap.size 5 1 v (ints (is.take k)).length ((ints (is.take k)).map B8)) ∧ Hid (Below wx.heap.size wx wr)) (fun _ i _ => is.length - (intOf i).toNat)
      case atStart => exact ⟨0, by omega, rfl, World.ownsRow_nil _ _ _ _, Below.refl _ _⟩
      case round =>
        obtain ⟨k, hk, rfl, HO, HBl⟩ := hrel
        have hsr := HBl.out.size
        by_cases hlt : k < is.length
        · rcases hI.below (HBX.out.trans (HBl.out.mono (by omega))) with h0 | ⟨b, off, rfl, hbl, hcells⟩
          · have : is.length = 0 := by have := congrArg List.length h0; simpa [intVals] using this
            omega
          have hck := hcells k (by simpa [intVals] using hlt)
          have hx : (intVals is)[k]? = some (.int .i64 (is.getD k 0)) := by simp [intVals, hlt]
          rw [hx] at hck
          have HN : Hid _ := ints_snoc is k hlt
          have hle := ints_len (is.take k)
          have hlt2 : (is.take k).length ≤ k := List.length_take_le _ _
          have hxo := okI (is.getD k 0) (by rw [getD_lt _ _ _ hlt]; exact List.getElem_mem hlt)
          generalize is.getD k 0 = x at *
          generalize ints (is.take k) = bs at *
          clear hcells hx
          go_wp2_with fail
          refine (refInt_any x _ hxo.1 hxo.2).mono ?_
          rintro e w5 ⟨rfl, hb5⟩
          have hown5 := own_keep_below HO.out hb5
          have hsz5 := hb5.size
          obtain ⟨X, hX⟩ : ∃ X : ByteArray, X = ⟨(enc (fold x)).toArray⟩ := ⟨_, rfl⟩
          have HX : Hid (X.data.toList = enc (fold x)) := by rw [hX]; rfl
          rw [← hX]
          clear hX
          have hXs : X.size ≤ 10 := by rw [Lib.size_eq, HX.out]; exact (enc_len _).2
          go_wp2_with (at_builtin; refine wpList_append_str_at _ rfl _ _ 26 9 rfl wx.heap.size 5 i0 Try.underlying26 Try.underlying9 hi0 hz0 hz1 hz2 u11 bs.length (bs.map B8) rfl hown5 X rfl ?c111 ?c311 ?c211 ?_)
          case c111 => unfold maxLen; omega
          case c211 => omega
          case c311 => omega
          intro v' w6 hown6 hgrow6 hat6
          have HB6 : Hid _ := own_text_below HBl.out (Nat.le_refl _) hb5 HO.out hgrow6
          have HO6 : Hid (w6.ownsRow wx.heap.size 5 1 v' (bs ++ enc (fold x)).length ((bs ++ enc (fold x)).map B8)) := by
            show World.ownsRow _ _ _ _ _ _ _
            rw [List.length_append, List.map_append, ← HX.out, ← Lib.size_eq]; exact hown6
          clear hown6 hgrow6 hat6 hown5 hb5
          go_wp2
          go_roundw
          case rel => exact ⟨k + 1, by omega, by go_num, by rw [HN.out]; exact HO6, HB6⟩
          case measure => simp [intOf]; omega
        · have hk' : k = is.length := by omega
          subst hk'
          rw [List.take_length] at HO
          obtain ⟨wy, hwy⟩ : ∃ wy, wy = wr := ⟨_, rfl⟩
          obtain ⟨vy, hvy⟩ : ∃ vy, vy = u11 := ⟨_, rfl⟩
          rw [← hwy] at HO HBl hsr ⊢
          rw [← hvy] at HO ⊢
          clear hwy hvy
          have HOY : Hid (wy.ownsRow wx.heap.size 5 1 vy (ints is).length ((ints is).map B8)) := HO.out
          have HBY : Hid (Below wx.heap.size wx wy) := HBl.out
          have hsy := hsr
          clear HO HBl hsr
          go_wp2_with fail
          refine (refTexts_any aoS cS ss _ (hS.below (HBX.out.trans (HBY.out.mono (by omega)))) (by omega) (by omega)).mono ?_
          rintro e wt ⟨rfl, hbt⟩
          have hst := hbt.size
          have HBT : Hid _ := hbt
          clear hbt
          obtain ⟨Z, hZ⟩ : ∃ Z : ByteArray, Z = ⟨(texts (ss.map fun s => s.data.toList)).toArray⟩ := ⟨_, rfl⟩
          have HZ : Hid (Z.data.toList = texts (ss.map fun s => s.data.toList)) := by rw [hZ]; rfl
          rw [← hZ]
          clear hZ
          go_wp2_with fail
          refine (new_any _ 0 (Nat.zero_le _)).mono ?_
          rintro e w2 ⟨rfl, rfl⟩
          have HBt : Hid (Below wcS.heap.size wcS (wt.alloc (.cells #[.slice none 0 0] 41))) := ((HB78.out.trans (HBY.out.mono (by omega))).trans (HBT.out.mono (by omega))).alloc (by omega) _
          have hcN0 : (0 : Int) ≤ (ns.length : Int) := by omega
          have hcN1 : (ns.length : Int) ≤ (kN : Int) := by omega
          have hcI0 : (0 : Int) ≤ (is.length : Int) := by omega
          have hcI1 : (is.length : Int) ≤ (kI : Int) := by omega
          have hcS0 : (0 : Int) ≤ (ss.length : Int) := by omega
          have hcS1 : (ss.length : Int) ≤ (kS : Int) := by omega
          go_wp2_with fail
          refine (wNum_any wt.heap.size wt.heap.size gN 0 kN none [] ns _ (new_wr wt _) okN (HRN.out.below HBt.out hgNl).nums (by omega) (by simp) (by simp; omega) (by simp; omega) (by simp)).mono ?_
          rintro e w8 ⟨rfl, r8, hw8, hs8⟩
          have hb8 : Below wt.heap.size (wt.alloc (.cells #[.slice none 0 0] 41)) w8 := hs8.below (by simp) (Nat.le_refl _) (fun k hk => by cases hk)
          have HB8 : Hid (Below wcS.heap.size wcS w8) := HBt.out.trans (hb8.mono (by omega))
          have hz8 := hb8.size
          simp at hz8
          have hrg8 := fun k hk => (hw8.row_ge k hk)
          have HW8 : Hid _ := hw8
          have Hb8 : Hid _ := hb8
          clear hs8 hw8 hb8
          go_wp2_with fail
          refine (wInt_any wt.heap.size wt.heap.size gI 0 kI r8 _ is _ HW8.out okI (HRI.out.below HB8.out hgIl).ints (by omega) (fun e => by have := (hrg8 _ e.symm).1; omega) (by omega) (by have := nums_len ns; simp; omega) (by omega)).mono ?_
          rintro e w9 ⟨rfl, r9, hw9, hs9⟩
          have hb9 : Below wt.heap.size w8 w9 := hs9.below (by omega) (Nat.le_refl _) (fun k hk => (hrg8 k hk).1)
          have HB9 : Hid (Below wcS.heap.size wcS w9) := HB8.out.trans (hb9.mono (by omega))
          have hz9 := hb9.size
          have hrg9 := fun k hk => (hw9.row_ge k hk)
          have HW9 : Hid _ := hw9
          have Hb9 : Hid _ := hb9
          clear hs9 hw9 hb9
          go_wp2_with fail
          refine (wText_any wt.heap.size wt.heap.size gS 0 kS r9 _ ss _ HW9.out (HRS.out.below HB9.out hgSl).strs (by omega) (fun e => by have := (hrg9 _ e.symm).1; omega) (by omega) (fun k hk => by have h1 := nums_len ns; have h2 := ints_len is; have h3 := texts_len_take ss k; simp at h3 ⊢; omega) (fun k hk => by have := mT k hk; omega) (by unfold maxLen; omega) (by omega)).mono ?_
          rintro e w10 ⟨rfl, r10, hw10, hs10⟩
          have hb10 : Below wt.heap.size w9 w10 := hs10.below (by omega) (Nat.le_refl _) (fun k hk => (hrg9 k hk).1)
          have HB10 : Hid (Below wcS.heap.size wcS w10) := HB9.out.trans (hb10.mono (by omega))
          have HBt10 : Hid (Below wt.heap.size wt w10) := (((Below.refl _ wt).alloc (Nat.le_refl _) _).trans Hb8.out).trans (Hb9.out.trans hb10)
          have hz10 := hb10.size
          have HW10 : Hid (WrAt w10 wt.heap.size wt.heap.size r10 (((([] : List UInt8) ++ nums ns) ++ ints is) ++ texts (ss.map fun s => s.data.toList))) := hw10
          clear hs10 hw10 hb10
          have HOY10 : Hid (w10.ownsRow wx.heap.size 5 1 vy (ints is).length ((ints is).map B8)) := own_keep HOY.out (fun k hk => by rw [HBt10.out.block k (by have := (HOY.out.lt k hk).2; omega), HBT.out.block k (HOY.out.lt k hk).2])
          have HOX10 : Hid (w10.ownsRow wcS.heap.size 5 1 vx (nums ns).length ((nums ns).map B8)) := own_keep HOX.out (fun k hk => by rw [HBt10.out.block k (by have := (HOX.out.lt k hk).2; omega), HBT.out.block k (by have := (HOX.out.lt k hk).2; omega), HBY.out.block k (HOX.out.lt k hk).2])
          have HLS : ∀ W, Below w10.heap.size w10 W → LS w10 W ⟨(nums ns).toArray⟩ ⟨(ints is).toArray⟩ vx vy := fun W hW => LS.here hW HOX10.out HOY10.out
          obtain ⟨X, hX⟩ : ∃ X : ByteArray, X = ⟨(nums ns).toArray⟩ := ⟨_, rfl⟩
          obtain ⟨Y, hY⟩ : ∃ Y : ByteArray, Y = ⟨(ints is).toArray⟩ := ⟨_, rfl⟩
          rw [← hX, ← hY] at HLS
          have HX : Hid (X.data.toList = nums ns) := by rw [hX]; rfl
          have HY : Hid (Y.data.toList = ints is) := by rw [hY]; rfl
          have HLS : Hid _ := HLS
          have hNums : ∀ W, Below w10.heap.size w10 W → Calls Try.prog 30 #[.slice (some ⟨gN, 0, none⟩) ns.length kN] W fun e w' => e = .returned (.string X) ∧ LS w10 w' X Y vx vy := fun W hW => by
            have h1 := hW.size
            rw [hX]
            refine (Nums_any gN 0 kN ns W okN ((HRN.out.below HB10.out hgNl).below hW (by omega)).nums (by omega) (by omega)).mono ?_
            rintro e w' ⟨rfl, hb⟩
            exact ⟨rfl, by rw [← hX]; exact HLS.out w' (hW.trans (hb.mono h1))⟩
          have hInts : ∀ W, Below w10.heap.size w10 W → Calls Try.prog 31 #[.slice (some ⟨gI, 0, none⟩) is.length kI] W fun e w' => e = .returned (.string Y) ∧ LS w10 w' X Y vx vy := fun W hW => by
            have h1 := hW.size
            rw [hY]
            refine (Ints_any gI 0 kI is W okI ((HRI.out.below HB10.out hgIl).below hW (by omega)).ints (by omega) (by omega)).mono ?_
            rintro e w' ⟨rfl, hb⟩
            exact ⟨rfl, by rw [← hY]; exact HLS.out w' (hW.trans (hb.mono h1))⟩
          have hTexts : ∀ W, Below w10.heap.size w10 W → Calls Try.prog 32 #[.slice (some ⟨gS, 0, none⟩) ss.length kS] W fun e w' => e = .returned (.string Z) ∧ LS w10 w' X Y vx vy := fun W hW => by
            have h1 := hW.size
            refine (Texts_any gS 0 kS ss W ((HRS.out.below HB10.out hgSl).below hW (by omega)).strs (by omega) (fun k hk => by have h3 := texts_len_take ss k; omega) (fun k hk => by have := mT k hk; omega) (by unfold maxLen; omega)).mono ?_
            rintro e w' ⟨rfl, hb⟩
            exact ⟨by rw [ba_of HZ.out], HLS.out w' (hW.trans (hb.mono h1))⟩
          have HFin : Hid (∀ W, Below w10.heap.size w10 W → Fin w W wt.heap.size gN gI gS r10 aoN aoI aoS ns is ss) := fun W hW => by
            have h1 := hW.size
            have hB := HB10.out.trans (hW.mono (by omega))
            have hA : Below w.heap.size w W := HB7.out.trans (hB.mono (by omega))
            refine ⟨hN.below hA, hI.below hA, hS.below hA, HRN.out.below hB hgNl, HRI.out.below hB hgIl, HRS.out.below hB hgSl, ?_, hA⟩
            exact HW10.out.keep (hW.block _ HW10.out.lt) fun k hk => hW.block k (HW10.out.row_ge k hk).2.1
          have HNums : Hid _ := hNums
          have HInts : Hid _ := hInts
          have HTexts : Hid _ := hTexts
          clear hNums hInts hTexts hX hY
          have hls0 := HLS.out w10 (Below.refl _ _)
          have hcx0 : (convert 26 9 vx).run Try.prog w10.drew = .ok (.string X) w10.drew := hls0.cx 1
          have hcy0 : (convert 26 9 vy).run Try.prog w10.drew = .ok (.string Y) w10.drew := hls0.cy 1
          clear hls0
          have hXs : X.size ≤ 10485760 := by rw [Lib.size_eq, HX.out]; have := nums_len ns; omega
          have hYs : Y.size ≤ 10485760 := by rw [Lib.size_eq, HY.out]; have := ints_len is; omega
          have hZs : Z.size ≤ 20000000 := by rw [Lib.size_eq, HZ.out]; omega
          clear HRN HRI HRS HB7 HBX HB78 HOX HOY HBY HBT HBt HB8 HB9 HB10 HBt10 HW8 HW9 HW10 Hb8 Hb9 HOY10 HOX10 hrg8 hrg9 hN hI hS nN nI nS okN okI lT mT hi0 hz0 hz1 hz2 hiN hzN0 hzN1 hzN2 hiI hzI0 hzI1 hzI2 hiS hzS0 hzS1 hzS2
          clear hgNl hgIl hgSl hsx hsy hst hz8 hz9 hz10 hsaN hsaI hsaS hglN hglI hglS hzNz hzIz hzSz hszN hszI hszS hs7 hs1
          go_wp2_with fail
          go_region_held3 (fun w' => (convert 26 9 vx).run Try.prog w' = .ok (.string X) w' ∧ (convert 26 9 vy).run Try.prog w' = .ok (.string Y) w') (exact ⟨by assumption, by assumption⟩)
            ((first
              | (go_at_call 30; refine (HNums.out _ drew_refl).mono ?_; rintro e w11 ⟨rfl, hls⟩; have hcx := hls.x0; have hcy := hls.y0; have hbel := hls.bel; clear hls)
              | (go_at_call 31; refine (HInts.out _ (by assumption)).mono ?_; rintro e w12 ⟨rfl, hls⟩; have hcx := hls.x0; have hcy := hls.y0; have hbel := hls.bel; clear hls)
              | (go_at_call 32; refine (HTexts.out _ (by assumption)).mono ?_; rintro e w13 ⟨rfl, hls⟩; have hcx := hls.x0; have hcy := hls.y0; have hbel := hls.bel; clear hls)))
          have hfin := HFin.out w13 hbel
          have hls := HLS.out w13 hbel
          have HFin3 : Hid _ := hfin
          clear hcx0 hcy0 hcx hcy HNums HInts HTexts
          go_wp2_with fail
          go_loop [109] (fun i => ∃ k : Nat, k ≤ ns.length ∧ i = .int .i64 k) (fun i => ns.length - (intOf i).toNat)
          case atStart => exact ⟨0, by omega, rfl⟩
          case round =>
            obtain ⟨k, hk, rfl⟩ := hrel
            by_cases hlt : k < ns.length
            · have hl : k < (numVals ns).length := by simpa [numVals] using hlt
              have hx : (numVals ns)[k]? = some (.int .u64 (ns.getD k 0 : Nat)) := by simp [numVals, hlt]
              have hrow := hfin.rN.at k (.int .u64 (ns.getD k 0 : Nat)) (by rw [List.getElem?_append_left hl, hx])
              rcases hfin.cN with h0 | ⟨b, off, rfl, _, hc⟩
              · rw [h0] at hl; simp at hl
              have hc1 := hc k hl
              rw [hx] at hc1
              generalize ns.getD k 0 = x at *
              have hk0 : (0 : Int) ≤ (k : Int) := by omega
              have hk1 : (k : Int) < (ns.length : Int) + 1 := by omega
              clear hfin hc hx hl hls
              go_wp2
              go_round
              case rel => exact ⟨k + 1, by omega, by go_num⟩
              case measure => simp [intOf]; omega
            · obtain ⟨S, hS⟩ : ∃ S : ByteArray, S = ⟨((((([] : List UInt8) ++ nums ns) ++ ints is) ++ texts (ss.map fun s => s.data.toList))).toArray⟩ := ⟨_, rfl⟩
              have hcat : X ++ Y ++ Z = S := by
                apply ByteArray.ext
                apply Array.ext'
                rw [Go.Joins.data_append, Go.Joins.data_append, HX.out, HY.out, HZ.out, hS, List.nil_append]
              have hBy : ∀ n, Calls Try.prog 19 #[.pointer (some ⟨wt.heap.size, 0, none⟩)] (w13.drewN n) fun e w' => e = .returned (.string S) ∧ w' = w13.drewN n := fun n => by rw [hS]; exact wBytes_any _ _ _ _ (w13.drewN n) hfin.wrt
              have hSI : ∀ n, Calls Try.prog 33 #[.slice (some ⟨gI, 0, none⟩) is.length kI, .slice aoI is.length cI] (w13.drewN n) fun e w' => e = .returned (.bool true) ∧ ∃ m, w' = w13.drewN m := fun n => by
                refine (sameInts_any (some ⟨gI, 0, none⟩) aoI kI cI is (w13.drewN n) hfin.rI.cells hfin.cI (by omega)).mono ?_
                rintro e w' ⟨rfl, m, rfl⟩
                exact ⟨rfl, n + m, World.drewN_drewN _ _ _⟩
              have hSS : ∀ n, Calls Try.prog 34 #[.slice (some ⟨gS, 0, none⟩) ss.length kS, .slice aoS ss.length cS] (w13.drewN n) fun e w' => e = .returned (.bool true) ∧ ∃ m, w' = w13.drewN m := fun n => by
                refine (same_any (some ⟨gS, 0, none⟩) aoS kS cS ss (w13.drewN n) hfin.rS.cells hfin.cS (by omega)).mono ?_
                rintro e w' ⟨rfl, m, rfl⟩
                exact ⟨rfl, n + m, World.drewN_drewN _ _ _⟩
              have hcx := hls.cx
              have hcy := hls.cy
              have hrN := hfin.rN.at ns.length (.int .u64 77) (by simp [numVals])
              have hrI := hfin.rI.at is.length (.int .i64 78) (by simp [intVals])
              have hrS := hfin.rS.at ss.length (.string ⟨#[115, 112, 97, 114, 101]⟩) (by simp [strVals])
              have HBy : Hid _ := hBy
              have HSI : Hid _ := hSI
              have HSS : Hid _ := hSS
              have hXY : (X ++ Y).size ≤ 30000000 := by rw [ByteArray.size_append']; omega
              have kN1 : (ns.length : Int) < (ns.length : Int) + 1 := by omega
              have kI1 : (is.length : Int) < (is.length : Int) + 1 := by omega
              have kS1 : (ss.length : Int) < (ss.length : Int) + 1 := by omega
              have HBe : Hid _ := hfin.bel
              clear hfin hls hBy hSI hSS hS HFin HFin3 HLS HX HY HZ
              go_wp2_with fail
              go_quiet ((first | (go_at_call 19; exact Calls.quiet_of_same (HBy.out _)) | (go_at_call 33; exact HSI.out _) | (go_at_call 34; exact HSS.out _)))
              go_wp2
              go_ret
              exact ⟨rfl, drew_below HBe.out⟩

end Go.Proofs.Ytnhmabhcegiekaa.Pk
