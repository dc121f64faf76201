/-
  A log's file, told by its payloads: where nothing is armed; and where fates are.
-/
import Derived.Test.YtpiaegkeclmpgaaWalAppend
namespace Go.Proofs.Ytpiaegkeclmpgaa.Wl
open Go.RowKit Cm Vf
set_option linter.unusedVariables false

def bulk (xs : List ByteArray) : Nat := 8 * xs.length + total xs
theorem bulk_nil : bulk [] = 0 := rfl
theorem total_append (xs ys : List ByteArray) : total (xs ++ ys) = total xs + total ys := by simp [total]
theorem bulk_append (xs ys : List ByteArray) : bulk (xs ++ ys) = bulk xs + bulk ys := by unfold bulk; rw [total_append, List.length_append]; omega
theorem bulk_one (x : ByteArray) : bulk [x] = 8 + x.size := by simp [bulk, total]
theorem frames_bulk (xs : List ByteArray) : (Fr.framesB xs).length = bulk xs := Fr.framesB_len xs
def small (xs : List ByteArray) : Prop := ∀ y ∈ xs, y.size ≤ 65536
theorem small_nil : small [] := fun y h => by cases h
theorem small_append {xs ys : List ByteArray} (h : small xs) (k : small ys) : small (xs ++ ys) := fun y hy => (List.mem_append.1 hy).elim (h y) (k y)
theorem small_one {x : ByteArray} (h : x.size ≤ 65536) : small [x] := fun y hy => by simp at hy; rw [hy]; exact h
theorem small_take {xs : List ByteArray} (h : small xs) (i : Nat) : small (xs.take i) := fun y hy => h y (List.mem_of_mem_take hy)
theorem bulk_take (xs : List ByteArray) (i : Nat) : bulk (xs.take i) ≤ bulk xs := by
  have := Fr.framesB_take xs i
  rw [frames_bulk] at this
  exact this

/-- The file system b, nothing armed; the file x holds the frames of ys, and r behind them. -/
structure FileOf (s : St) (x : ByteArray) (ys : List ByteArray) (r : List UInt8) (a : Nat) (f : Option File) : Prop where
  up : Up s x.data.toList f a
  bytes : bytesOf f = Fr.framesB ys ++ r
  whole : Whole f
  small : small ys
  rest : Fr.first r = none
def Armed (w : World) (S : Nat → Prop) (b : Nat) (x : ByteArray) (ys : List ByteArray) (a : Nat) : Prop := ∃ s f, FSAt w S b s ∧ FileOf s x ys [] a f
def Held (w : World) (S : Nat → Prop) (b : Nat) (x : ByteArray) (ys : List ByteArray) (r : List UInt8) (a : Nat) : Prop := ∃ s f, FSAt w S b s ∧ FileOf s x ys r a f ∧ Still s
section
variable {w w' : World} {S T : Nat → Prop} {b lb n a : Nat} {x : ByteArray} {ys xs : List ByteArray} {r : List UInt8}
theorem first_nil : Fr.first [] = none := Fr.first_short (by decide)
theorem FileOf.old {s : St} {f : Option File} (h : FileOf s x ys r a f) : (s.old x.data.toList).bytes = Fr.framesB ys ++ r := by rw [h.up.old]; exact h.bytes
theorem FileOf.len {s : St} {f : Option File} (h : FileOf s x ys r a f) : (s.old x.data.toList).bytes.length = bulk ys + r.length := by rw [h.old, List.length_append, frames_bulk]
theorem Held.keep (h : Held w S b x ys r a) (hk : ∀ k, S k → k < w.heap.size → w'.heap[k]? = w.heap[k]?) : Held w' S b x ys r a := by
  obtain ⟨s, f, h1, h2⟩ := h
  exact ⟨s, f, FSX.keep h1 hk, h2⟩
theorem Held.below (h : Held w S b x ys r a) (hb : Below w.heap.size w w') : Held w' S b x ys r a := h.keep fun k _ hk => hb.block k hk
theorem Held.alloc (h : Held w S b x ys r a) (o : Obj) : Held (w.alloc o) S b x ys r a := h.keep fun k _ hk => Below.heap_alloc _ _ _ hk
theorem Held.cutTo (h : Held w S b x ys r a) (hb : Below w.heap.size w w') : Held w' (Cut S w w') b x ys r a := by
  obtain ⟨s, f, h1, h2⟩ := h
  exact ⟨s, f, h1.cutTo hb, h2⟩
theorem Held.widen (h : Held w S b x ys r a) (hT : ∀ k, S k → k < w.heap.size → T k) : Held w T b x ys r a := by
  obtain ⟨s, f, h1, h2⟩ := h
  exact ⟨s, f, h1.widen hT, h2⟩
theorem Held.armed (h : Held w S b x ys [] a) : Armed w S b x ys a := by
  obtain ⟨s, f, h1, h2, _⟩ := h
  exact ⟨s, f, h1, h2⟩
theorem Armed.keep (h : Armed w S b x ys a) (hk : ∀ k, S k → k < w.heap.size → w'.heap[k]? = w.heap[k]?) : Armed w' S b x ys a := by
  obtain ⟨s, f, h1, h2⟩ := h
  exact ⟨s, f, FSX.keep h1 hk, h2⟩
theorem Armed.below (h : Armed w S b x ys a) (hb : Below w.heap.size w w') : Armed w' S b x ys a := h.keep fun k _ hk => hb.block k hk
theorem Armed.cutTo (h : Armed w S b x ys a) (hb : Below w.heap.size w w') : Armed w' (Cut S w w') b x ys a := by
  obtain ⟨s, f, h1, h2⟩ := h
  exact ⟨s, f, h1.cutTo hb, h2⟩

theorem newHeld (x : ByteArray) (w : World) : Calls Try.prog 8 #[] w fun e w' => e = .returned (.pointer (some ⟨w.heap.size + 1, 0, none⟩)) ∧ Held w' (fun k => w.heap.size ≤ k) (w.heap.size + 1) x [] [] 0 ∧ Below w.heap.size w w' := by
  refine (newS w).mono ?_
  rintro e w' ⟨rfl, r1, r2⟩
  exact ⟨rfl, ⟨_, none, r1, ⟨up_init _, rfl, whole_none, small_nil, first_nil⟩, still_init⟩, r2⟩
theorem Held.acts (h : Held w S b x ys r a) : Calls Try.prog 13 #[.pointer (some ⟨b, 0, none⟩)] w fun e w' => e = .returned (.int .i64 a) ∧ w' = w := by
  obtain ⟨s, f, h1, h2, _⟩ := h
  rw [← h2.up.acts]
  exact acts_any S b s w h1
theorem Held.lt (h : Held w S b x ys r a) : b < w.heap.size := by
  obtain ⟨s, f, h1, _⟩ := h
  exact FSX.lt h1
theorem Held.cell (h : Held w S b x ys r a) : w.cell? ⟨b, 0, none⟩ = some (.int .i64 a) := by
  obtain ⟨s, f, h1, h2, _⟩ := h
  obtain ⟨_, _, c0, _⟩ := FSX.cells h1
  rw [← h2.up.acts]; exact c0
theorem Held.read (h : Held w S b x ys [] a) (hx : isName x.data.toList = true) : Calls Try.prog 11 #[.pointer (some ⟨b, 0, none⟩), .string x] w fun e w' => ∃ E : Int, e = .returned (.tuple #[.string (Fr.str (Fr.framesB ys)), .int .i64 E]) ∧ Below w.heap.size w w' := by
  obtain ⟨s, f, h1, h2, _⟩ := h
  have hxs40 : x.size ≤ 40 := by unfold isName at hx; rw [Lib.size_eq]; simp at hx; exact hx.2
  refine (read_any S b s x w h1 (by omega)).mono ?_
  rintro e w' ⟨rfl, r⟩
  have e1 : (s.found x.data.toList).bytes = Fr.framesB ys := by
    have : s.found x.data.toList = s.old x.data.toList := by unfold St.found; rw [h2.up.down]; rfl
    rw [this, h2.old, List.append_nil]
  rw [e1]
  exact ⟨_, rfl, r⟩
theorem Held.open (h : Held w S b x ys r a) (hx : isName x.data.toList = true) (hsz : bulk ys + r.length ≤ 70368744177600) :
    Calls Try.prog 9 #[.pointer (some ⟨b, 0, none⟩), .string x] w fun e w' => ∃ lb ao cap, e = .returned (.tuple #[.pointer (some ⟨lb, 0, none⟩), .slice ao ys.length cap, .int .i64 0]) ∧
      w'.ownsRow w.heap.size 9 1 (.slice ao ys.length cap) ys.length (strVals ys) ∧ LogAt w' lb ys.length b x (decide (0 < r.length)) ∧ w.heap.size ≤ lb ∧ Below w.heap.size w w' := by
  obtain ⟨s, f, h1, h2, _⟩ := h
  exact open_ok S b s x ys r w h1 h2.up.down hx h2.small h2.rest h2.old (by rw [h2.len]; exact hsz)
theorem Held.append (h : Held w S b x ys [] a) (hS : ∀ k, w.heap.size ≤ k → S k) (hL : LogAt w lb n b x false) (hlb : ¬ S lb) (hx : isName x.data.toList = true) (ao : Option Addr) (cap : Nat) (hc : CellsAt w ao (strVals xs))
    (hb : bulk xs ≤ 35184372088800) (hy : bulk ys ≤ 35184372088800) (hxs : small xs) (hne : 0 < xs.length) (ha : a ≤ 1000000000000000) (hn : n ≤ 1000000000000000) :
    Calls Try.prog 10 #[.pointer (some ⟨lb, 0, none⟩), .slice ao xs.length cap] w fun e w' => e = .returned (.int .i64 0) ∧ Held w' S b x (ys ++ xs) [] (a + 2) ∧ LogAt w' lb (n + xs.length) b x false ∧ Chg (fun k => S k ∨ k = lb) w w' := by
  obtain ⟨s, f, h1, h2, h3⟩ := h
  have hxs40 : x.size ≤ 40 := by unfold isName at hx; rw [Lib.size_eq]; simp at hx; exact hx.2
  have hcn := h2.up.cnt
  have hac := h2.up.acts
  have hbl : xs.length ≤ bulk xs := by unfold bulk; omega
  obtain ⟨e1, u1, s1⟩ := calm_log (t := fr xs) h2.up h3 hx
  refine (append_log S lb n b s x ao cap xs w h1 hS hL hlb h2.up.down hc (by unfold bulk at hb; omega) hxs hne (by omega) (by omega) (by rw [h2.len]; simp; omega) h2.up.armed (by omega) (by omega)).mono ?_
  rintro e w' ⟨rfl, r1, r2, r3⟩
  rw [e1] at r2 ⊢
  rw [if_pos rfl] at r2
  refine ⟨rfl, ⟨_, _, r1, ⟨u1, ?_, whole_whole _, small_append h2.small hxs, first_nil⟩, s1⟩, r2, r3⟩
  show bytesOf f ++ fr xs = _
  rw [h2.bytes, List.append_nil, List.append_nil, Fr.framesB_append]; rfl
theorem Held.long (h : Held w S b x ys r a) (hL : LogAt w lb n b x false) (ao : Option Addr) (cap : Nat) (hc : CellsAt w ao (strVals xs)) (hb : bulk xs ≤ 35184372088800) (hl : ¬ small xs) :
    Calls Try.prog 10 #[.pointer (some ⟨lb, 0, none⟩), .slice ao xs.length cap] w fun e w' => e = .returned (.int .i64 2) ∧ Below w.heap.size w w' := by
  obtain ⟨s, f, h1, h2, h3⟩ := h
  exact append_long S lb n b s x ao cap xs w h1 hL h2.up.down hc (by unfold bulk at hb; omega) hl
theorem Held.empty (h : Held w S b x ys r a) (hL : LogAt w lb n b x false) (ao : Option Addr) (cap : Nat) :
    Calls Try.prog 10 #[.pointer (some ⟨lb, 0, none⟩), .slice ao 0 cap] w fun e w' => e = .returned (.int .i64 0) ∧ Below w.heap.size w w' := by
  obtain ⟨s, f, h1, h2, h3⟩ := h
  exact append_none S lb n b s x ao cap w h1 hL h2.up.down
theorem Held.torn (h : Held w S b x ys r a) (hL : LogAt w lb n b x true) (ao : Option Addr) (m cap : Nat) :
    Calls Try.prog 10 #[.pointer (some ⟨lb, 0, none⟩), .slice ao m cap] w fun e w' => e = .returned (.int .i64 8) ∧ w' = w := by
  obtain ⟨s, f, h1, h2, h3⟩ := h
  exact append_torn S lb n b s x ao cap w h1 hL h2.up.down m
theorem Held.rewrite (h : Held w S b x ys r a) (hS : ∀ k, w.heap.size ≤ k → S k) (hx : isName x.data.toList = true) (ao : Option Addr) (cap : Nat) (hc : CellsAt w ao (strVals xs))
    (hb : bulk xs ≤ 35184372088800) (hxs : small xs) (ha : a ≤ 1000000000000000) :
    Calls Try.prog 18 #[.pointer (some ⟨b, 0, none⟩), .string x, .slice ao xs.length cap] w fun e w' => e = .returned (.int .i64 0) ∧ (∃ a', a' ≤ a + 3 ∧ Held w' S b x xs [] a') ∧ Chg S w w' := by
  obtain ⟨s, f, h1, h2, h3⟩ := h
  have hxs40 : x.size ≤ 40 := by unfold isName at hx; rw [Lib.size_eq]; simp at hx; exact hx.2
  have hcn := h2.up.cnt
  have hac := h2.up.acts
  obtain ⟨e1, s1, a', ha', u1⟩ := calm_rewrite (t := fr xs) h2.up h3 hx
  obtain ⟨_, _, _, _, u2⟩ := calm_delete h2.up h3
  refine (rewrite_small S b s x ao cap xs w h1 hS hc (by unfold bulk at hb; omega) hxs (by omega) (by omega) (by rw [u2.old]; simp) h2.up.armed (by omega)).mono ?_
  rintro e w' ⟨rfl, r1, r2⟩
  rw [e1]
  refine ⟨rfl, ⟨a', ha', _, _, r1, ⟨u1, ?_, whole_whole _, hxs, first_nil⟩, s1⟩, r2⟩
  show fr xs = _
  rw [List.append_nil]; rfl
theorem Held.rewriteLong (h : Held w S b x ys r a) (ao : Option Addr) (cap : Nat) (hc : CellsAt w ao (strVals xs)) (hb : bulk xs ≤ 35184372088800) (hl : ¬ small xs) :
    Calls Try.prog 18 #[.pointer (some ⟨b, 0, none⟩), .string x, .slice ao xs.length cap] w fun e w' => e = .returned (.int .i64 2) ∧ Below w.heap.size w w' :=
  rewrite_long b x ao cap xs w hc (by unfold bulk at hb; omega) hl

/-! Where fates are armed. -/
theorem Armed.long (h : Armed w S b x ys a) (hL : LogAt w lb n b x false) (ao : Option Addr) (cap : Nat) (hc : CellsAt w ao (strVals xs)) (hb : bulk xs ≤ 35184372088800) (hl : ¬ small xs) :
    Calls Try.prog 10 #[.pointer (some ⟨lb, 0, none⟩), .slice ao xs.length cap] w fun e w' => e = .returned (.int .i64 2) ∧ Below w.heap.size w w' := by
  obtain ⟨s, f, h1, h2⟩ := h
  exact append_long S lb n b s x ao cap xs w h1 hL h2.up.down hc (by unfold bulk at hb; omega) hl
theorem Armed.empty (h : Armed w S b x ys a) (hL : LogAt w lb n b x false) (ao : Option Addr) (cap : Nat) :
    Calls Try.prog 10 #[.pointer (some ⟨lb, 0, none⟩), .slice ao 0 cap] w fun e w' => e = .returned (.int .i64 0) ∧ Below w.heap.size w w' := by
  obtain ⟨s, f, h1, h2⟩ := h
  exact append_none S lb n b s x ao cap w h1 hL h2.up.down
/-- The power went with an append of xs to ys. -/
def Cutoff (w : World) (S : Nat → Prop) (b : Nat) (x : ByteArray) (ys xs : List ByteArray) : Prop := ∃ s f g, FSAt w S b s ∧ s.files = only x.data.toList g ∧ Whole f ∧ bytesOf f = Fr.framesB ys ∧ CutTo f (Fr.framesB xs) g ∧ s.cnt ≤ 4398046511104
theorem Cutoff.keep (h : Cutoff w S b x ys xs) (hk : ∀ k, S k → k < w.heap.size → w'.heap[k]? = w.heap[k]?) : Cutoff w' S b x ys xs := by
  obtain ⟨s, f, g, h1, h2⟩ := h
  exact ⟨s, f, g, FSX.keep h1 hk, h2⟩
theorem Cutoff.cutTo (h : Cutoff w S b x ys xs) (hb : Below w.heap.size w w') : Cutoff w' (Cut S w w') b x ys xs := by
  obtain ⟨s, f, g, h1, h2⟩ := h
  exact ⟨s, f, g, h1.cutTo hb, h2⟩
theorem Armed.cutoff (h : Armed w S b x ys a) (ha : a ≤ 1000000000000) : Cutoff w S b x ys [] := by
  obtain ⟨s, f, h1, h2⟩ := h
  have := h2.up.cnt
  have := h2.up.acts
  exact ⟨s, f, f, h1, h2.up.files, h2.whole, by rw [h2.bytes, List.append_nil], .inl rfl, by omega⟩
/-- How the append of xs to ys was answered. -/
def AppAns (w' : World) (S : Nat → Prop) (b : Nat) (x : ByteArray) (ys xs : List ByteArray) (a : Nat) (e : Ending) : Prop :=
  (e = .returned (.int .i64 0) ∧ Armed w' S b x (ys ++ xs) (a + 2))
  ∨ (e = .returned (.int .i64 6) ∧ Armed w' S b x ys (a + 1))
  ∨ (e = .returned (.int .i64 7) ∧ Cutoff w' S b x ys xs)
theorem AppAns.done {w' : World} {S : Nat → Prop} {b : Nat} {x : ByteArray} {ys xs : List ByteArray} {a : Nat} {e : Ending} (h : e = .returned (.int .i64 0)) (held : Armed w' S b x (ys ++ xs) (a + 2)) : AppAns w' S b x ys xs a e := .inl ⟨h, held⟩
theorem AppAns.full {w' : World} {S : Nat → Prop} {b : Nat} {x : ByteArray} {ys xs : List ByteArray} {a : Nat} {e : Ending} (h : e = .returned (.int .i64 6)) (held : Armed w' S b x ys (a + 1)) : AppAns w' S b x ys xs a e := .inr (.inl ⟨h, held⟩)
theorem AppAns.gone {w' : World} {S : Nat → Prop} {b : Nat} {x : ByteArray} {ys xs : List ByteArray} {a : Nat} {e : Ending} (h : e = .returned (.int .i64 7)) (cut : Cutoff w' S b x ys xs) : AppAns w' S b x ys xs a e := .inr (.inr ⟨h, cut⟩)
theorem Armed.append (h : Armed w S b x ys a) (hS : ∀ k, w.heap.size ≤ k → S k) (hL : LogAt w lb n b x false) (hlb : ¬ S lb) (hx : isName x.data.toList = true) (ao : Option Addr) (cap : Nat) (hc : CellsAt w ao (strVals xs))
    (hb : bulk xs ≤ 35184372088800) (hy : bulk ys ≤ 35184372088800) (hxs : small xs) (hne : 0 < xs.length) (ha : a ≤ 1000000000000) (hn : n ≤ 1000000000000) :
    Calls Try.prog 10 #[.pointer (some ⟨lb, 0, none⟩), .slice ao xs.length cap] w fun e w' => AppAns w' S b x ys xs a e ∧ (∃ n', n' ≤ n + xs.length ∧ LogAt w' lb n' b x false) ∧ Chg (fun k => S k ∨ k = lb) w w' := by
  obtain ⟨s, f, h1, h2⟩ := h
  have hxs40 : x.size ≤ 40 := by unfold isName at hx; rw [Lib.size_eq]; simp at hx; exact hx.2
  have hcn := h2.up.cnt
  have hac := h2.up.acts
  have hbl : xs.length ≤ bulk xs := by unfold bulk; omega
  have hby : bytesOf f = Fr.framesB ys := by rw [h2.bytes, List.append_nil]
  refine (append_log S lb n b s x ao cap xs w h1 hS hL hlb h2.up.down hc (by unfold bulk at hb; omega) hxs hne (by omega) (by omega) (by rw [h2.len]; simp; omega) h2.up.armed (by omega) (by omega)).mono ?_
  rintro e w' ⟨rfl, r1, r2, r3⟩
  refine ⟨?_, ⟨_, by split <;> omega, r2⟩, r3⟩
  rcases logged (t := fr xs) h2.up hx h2.whole with ⟨e1, u1⟩ | ⟨e1, u1⟩ | ⟨e1, g, u1, u2, u3⟩
  · refine .done (by rw [e1]) ⟨_, _, r1, ⟨u1, ?_, whole_whole _, small_append h2.small hxs, first_nil⟩⟩
    show bytesOf f ++ fr xs = _
    rw [hby, List.append_nil, Fr.framesB_append]; rfl
  · exact .full (by rw [e1]) ⟨_, _, r1, ⟨u1, h2.bytes, h2.whole, h2.small, h2.rest⟩⟩
  · exact .gone (by rw [e1]) ⟨_, f, g, r1, u1, h2.whole, hby, u2, by omega⟩
/-- A crash: what is found are the frames of ys, some first ones of xs, and something that begins with no frame. -/
theorem Cutoff.crash (h : Cutoff w S b x ys xs) (hxs : small xs) (hys : small ys) (hb : bulk ys + bulk xs ≤ 140737488355328) (k : Int) :
    Calls Try.prog 15 #[.pointer (some ⟨b, 0, none⟩), .slice (some ⟨w.heap.size, 0, none⟩) 1 1] (w.alloc (.cells #[.int .i64 k] 3)) fun e w' => ∃ b' i r, e = .returned (.pointer (some ⟨b', 0, none⟩)) ∧ i ≤ xs.length ∧ r.length ≤ bulk xs ∧ Held w' (fun k => w.heap.size ≤ k) b' x (ys ++ xs.take i) r 0 ∧ Below w.heap.size w w' := by
  obtain ⟨s, f, g, h1, h2, h3, h4, h5, h6⟩ := h
  have hfl : (bytesOf g).length ≤ bulk ys + bulk xs := by
    rcases h5 with rfl | ⟨n, rfl, _, _⟩
    · rw [h4, frames_bulk]; omega
    · show (bytesOf f ++ Fr.framesB xs).length ≤ _; rw [h4, List.length_append, frames_bulk, frames_bulk]; omega
  refine (crash1 S b s k x.data.toList g w h1 h2 h6 (by omega)).mono ?_
  rintro e w' ⟨b', s', rfl, r1, r2, r3, r4⟩
  obtain ⟨j, q1, q2⟩ := cut_left h3 h5 k
  obtain ⟨i, r, i1, i2, i3⟩ := Fr.framesB_cut xs hxs j
  refine ⟨b', i, r, rfl, i1, ?_, ⟨s', _, r1, ⟨r2, ?_, q2, small_append hys (small_take hxs i), i3⟩, r3⟩, r4⟩
  · have := congrArg List.length i2
    rw [List.length_take, List.length_append, frames_bulk] at this
    omega
  · rw [q1, h4, i2, Fr.framesB_append, List.append_assoc]
end
end Go.Proofs.Ytpiaegkeclmpgaa.Wl
