/-
  Package vfs for a caller that makes other things in between: each call on a file system that owns S, and whatever is new.
-/
import Derived.Test.YtpiaegkeclmpgaaVfsCrash
import Derived.Test.YtpiaegkeclmpgaaVfsArm
import Derived.Test.YtpiaegkeclmpgaaCmRows
import Derived.Test.YtpiaegkeclmpgaaWalMath
namespace Go.Proofs.Ytpiaegkeclmpgaa.Vf
open Go.RowKit Cm
set_option linter.unusedVariables false

section
variable {w w' : World} {S T : Nat → Prop} {b : Nat} {s : St}
theorem FSAt.widen (h : FSAt w S b s) (hT : ∀ k, S k → k < w.heap.size → T k) : FSAt w T b s := FSX.mono h.cut fun k e => hT k e.1 e.2
/-- What S owned at w, and whatever comes behind w'. -/
def Cut (S : Nat → Prop) (w w' : World) (k : Nat) : Prop := (S k ∧ k < w.heap.size) ∨ w'.heap.size ≤ k
theorem Cut.new {k : Nat} (h : w'.heap.size ≤ k) : Cut S w w' k := .inr h
theorem Cut.lo {B k : Nat} (hS : ∀ k, S k → B ≤ k) (hB : B ≤ w'.heap.size) (h : Cut S w w' k) : B ≤ k := h.elim (fun e => hS k e.1) (Nat.le_trans hB)
theorem Cut.out {k : Nat} (h1 : w.heap.size ≤ k) (h2 : k < w'.heap.size) : ¬ Cut S w w' k := fun h => h.elim (fun e => by omega) (fun e => by omega)
theorem Cut.not {k : Nat} (h1 : ¬ S k) (h2 : k < w'.heap.size) : ¬ Cut S w w' k := fun h => h.elim (fun e => h1 e.1) (fun e => by omega)
theorem FSAt.cutTo (h : FSAt w S b s) (hb : Below w.heap.size w w') : FSAt w' (Cut S w w') b s := by
  have h1 : FSAt w' (fun k => S k ∧ k < w.heap.size) b s := FSX.below h.cut hb
  exact FSX.mono h1 fun k e => .inl e
/-- A block that is none of S's stays. -/
theorem Chg.at_ {o : Option Obj} {k : Nat} (h : Chg S w w') (hk : w.heap[k]? = o) (hn : ¬ S k) (hl : k < w.heap.size) : w'.heap[k]? = o := (h.block k hl hn).trans hk
theorem cells_chg {ao : Option Addr} {vs : List Value} (hc : CellsAt w ao vs) (h : Chg S w w') (hn : ∀ ad, ao = some ad → ¬ S ad.block) : CellsAt w' ao vs := by
  rcases hc with hc | ⟨pb, off, rfl, hpl, hcell⟩
  · exact .inl hc
  · exact .inr ⟨pb, off, rfl, Nat.lt_of_lt_of_le hpl h.size, fun j hj => by rw [World.cell?_of_block (h.block pb hpl (hn _ rfl))]; exact hcell j hj⟩
end

theorem newS (w : World) : Calls Try.prog 8 #[] w fun e w' => e = .returned (.pointer (some ⟨w.heap.size + 1, 0, none⟩)) ∧ FSAt w' (fun k => w.heap.size ≤ k) (w.heap.size + 1) St.init ∧ Below w.heap.size w w' := new_any w
/-- One part appended to a file system that owns S, and whatever is new. -/
theorem appendS (S : Nat → Prop) (b : Nat) (s : St) (x p : ByteArray) (w : World) (h : FSAt w S b s) (hS : ∀ k, w.heap.size ≤ k → S k)
    (hx : x.size ≤ 281474976710656) (hn : s.cnt < 9223372036854775807) (hsz : (s.old x.data.toList).bytes.length + p.size ≤ 140737488355328) (ha : s.armed ≤ s.acts) (hac : s.acts ≤ 9223372036854775000) :
    Calls Try.prog 35 #[.pointer (some ⟨b, 0, none⟩), .string x, .slice (some ⟨w.heap.size, 0, none⟩) 1 1] (w.alloc (.cells #[.string p] 9)) fun e w' => e = .returned (.int .i64 (s.appendE x.data.toList)) ∧ FSAt w' S b (s.append x.data.toList p.data.toList) ∧ Chg S w w' := by
  have hc : CellsAt (w.alloc (.cells #[.string p] 9)) (some ⟨w.heap.size, 0, none⟩) (strVals [p]) := .inr ⟨w.heap.size, 0, rfl, by simp, fun j hj => by
    obtain rfl : j = 0 := (by simpa [strVals] using hj)
    rw [Joins.cell_of_block (heap_alloc_new w _)]; rfl⟩
  have hA : FSX (w.alloc (.cells #[.string p] 9)) (fun k => S k ∧ k < w.heap.size) b s (fun _ => False) := FSX.alloc h.cut _
  refine (append_any (fun k => S k ∧ k < w.heap.size) b s x _ 1 [p] _ hA (fun k e => by have := e.2; simp; omega) hc (fun ad e h2 => by cases e; exact absurd h2.2 (Nat.lt_irrefl _)) hx hn (by simpa [total] using hsz) (by simp) ha hac).mono ?_
  rintro e w' ⟨rfl, r1, r2⟩
  have e1 : cat [p] = p.data.toList := by simp [cat]
  rw [e1] at r1
  exact ⟨rfl, FSX.mono r1 fun k e => e.elim (fun e => e.1) (fun e => hS k (by simp at e; omega)), (Chg.alloc S w _).then (r2.mono fun k _ e => e.1)⟩
theorem syncS (S : Nat → Prop) (b : Nat) (s : St) (x : ByteArray) (w : World) (h : FSAt w S b s) (hS : ∀ k, w.heap.size ≤ k → S k) (hx : x.size ≤ 281474976710656) (hn : s.cnt < 9223372036854775807) (ha : s.armed ≤ s.acts) (hb : s.acts ≤ 9223372036854775000) :
    Calls Try.prog 36 #[.pointer (some ⟨b, 0, none⟩), .string x] w fun e w' => e = .returned (.int .i64 (s.syncE x.data.toList)) ∧ FSAt w' S b (s.sync x.data.toList) ∧ Chg S w w' := by
  refine (sync_any (fun k => S k ∧ k < w.heap.size) b s x w h.cut (fun k e => e.2) hx hn ha hb).mono ?_
  rintro e w' ⟨rfl, r1, r2⟩
  exact ⟨rfl, FSX.mono r1 fun k e => e.elim (fun e => e.1) (hS k), r2.mono fun k _ e => e.1⟩
theorem deleteS (S : Nat → Prop) (b : Nat) (s : St) (x : ByteArray) (w : World) (h : FSAt w S b s) (hS : ∀ k, w.heap.size ≤ k → S k) (hx : x.size ≤ 281474976710656) (hn : s.cnt < 9223372036854775807) (ha : s.armed ≤ s.acts) (hb : s.acts ≤ 9223372036854775000) :
    Calls Try.prog 30 #[.pointer (some ⟨b, 0, none⟩), .string x] w fun e w' => e = .returned (.int .i64 (s.syncE x.data.toList)) ∧ FSAt w' S b (s.delete x.data.toList) ∧ Chg S w w' := by
  refine (delete_any (fun k => S k ∧ k < w.heap.size) b s x w h.cut (fun k e => e.2) hx hn ha hb).mono ?_
  rintro e w' ⟨rfl, r1, r2⟩
  exact ⟨rfl, FSX.mono r1 fun k e => e.elim (fun e => e.1) (hS k), r2.mono fun k _ e => e.1⟩
theorem armS (S : Nat → Prop) (b : Nat) (s : St) (ao : Option Addr) (cap : Nat) (fs : List (Int × Int)) (w : World) (h : FSAt w S b s) (hS : ∀ k, w.heap.size ≤ k → S k) (hc : FatesIn w ao fs) (hap : fs ≠ [] → ∀ ad, ao = some ad → ¬ S ad.block)
    (hl : fs.length ≤ 140737488355328) (hf : ∀ f ∈ fs, -9223372036854775808 ≤ f.1 ∧ f.1 ≤ 9223372036854775807) :
    Calls Try.prog 14 #[.pointer (some ⟨b, 0, none⟩), .slice ao fs.length cap] w fun e w' => e = .returned (.tuple #[]) ∧ FSAt w' S b (s.arm fs) ∧ Chg S w w' := by
  refine (arm_any S b s ao cap fs w h hc hap hl hf).mono ?_
  rintro e w' ⟨rfl, r1, r2⟩
  exact ⟨rfl, FSX.mono r1 fun k e => e.elim id (hS k), r2⟩
/-- One fate, in a slice of its own. -/
theorem arm1S (S : Nat → Prop) (b : Nat) (s : St) (n k : Int) (w : World) (h : FSAt w S b s) (hS : ∀ k, w.heap.size ≤ k → S k) (hn : -9223372036854775808 ≤ n ∧ n ≤ 9223372036854775807) :
    Calls Try.prog 14 #[.pointer (some ⟨b, 0, none⟩), .slice (some ⟨w.heap.size, 0, none⟩) 1 1] (w.alloc (.cells #[.int .i64 n, .int .i64 k] 52)) fun e w' => e = .returned (.tuple #[]) ∧ FSAt w' S b (s.arm [(n, k)]) ∧ Chg S w w' := by
  have hc : FatesIn (w.alloc (.cells #[.int .i64 n, .int .i64 k] 52)) (some ⟨w.heap.size, 0, none⟩) [(n, k)] := .inr ⟨w.heap.size, 0, rfl, by simp, fun j hj => by
    obtain rfl : j = 0 := (by simpa using hj)
    rw [Joins.cell_of_block (heap_alloc_new w _), Joins.cell_of_block (heap_alloc_new w _)]; exact ⟨rfl, rfl⟩⟩
  have hA : FSX (w.alloc (.cells #[.int .i64 n, .int .i64 k] 52)) (fun k => S k ∧ k < w.heap.size) b s (fun _ => False) := FSX.alloc h.cut _
  refine (arm_any (fun k => S k ∧ k < w.heap.size) b s (some ⟨w.heap.size, 0, none⟩) 1 [(n, k)] _ hA hc (fun _ ad e h2 => by cases e; exact absurd h2.2 (Nat.lt_irrefl _)) (by simp) (fun f hf => by simp at hf; subst hf; exact hn)).mono ?_
  rintro e w' ⟨rfl, r1, r2⟩
  exact ⟨rfl, FSX.mono r1 fun k e => e.elim (fun e => e.1) (fun e => hS k (by simp at e; omega)), (Chg.alloc S w _).then (r2.mono fun k _ e => e.1)⟩
theorem cellsI1 {w : World} (k : Int) : CellsAt (w.alloc (.cells #[.int .i64 k] 3)) (some ⟨w.heap.size, 0, none⟩) ([k].map I64) := .inr ⟨w.heap.size, 0, rfl, by simp, fun j hj => by
    obtain rfl : j = 0 := (by simpa using hj)
    rw [Joins.cell_of_block (heap_alloc_new w _)]; rfl⟩
/-- A crash that keeps k bytes of the one file. -/
theorem crash1 (S : Nat → Prop) (b : Nat) (s : St) (k : Int) (x : Name) (f : Option File) (w : World) (h : FSAt w S b s) (hf : s.files = only x f) (hcnt : s.cnt ≤ 4398046511104) (hfl : (bytesOf f).length ≤ 140737488355328) :
    Calls Try.prog 15 #[.pointer (some ⟨b, 0, none⟩), .slice (some ⟨w.heap.size, 0, none⟩) 1 1] (w.alloc (.cells #[.int .i64 k] 3)) fun e w' => ∃ b' s', e = .returned (.pointer (some ⟨b', 0, none⟩)) ∧ FSAt w' (fun k => w.heap.size ≤ k) b' s' ∧ Up s' x (f.map fun f => f.left k) 0 ∧ Still s' ∧ Below w.heap.size w w' := by
  refine (crash_any S b s (some ⟨w.heap.size, 0, none⟩) 1 [k] _ (FSX.alloc h _) (cellsI1 k) hcnt (by simp) (fun y g hg => ?_)).mono ?_
  · rw [hf] at hg
    unfold only at hg
    split at hg
    · rw [hg] at hfl; exact hfl
    · cases hg
  · rintro e w' ⟨b', ks, rfl, r1, r2, r3⟩
    obtain ⟨u1, u2⟩ := up_crash r1 hf k
    exact ⟨b', _, rfl, FSX.mono r2 fun k e => by simp at e; omega, u1, u2, ((Below.refl _ _).alloc (Nat.le_refl _) _).trans (r3.mono (by simp))⟩

/-- Fates in a slice. -/
def fateShape : Shape (Int × Int) := ⟨2, fun f => [.int .i64 f.1, .int .i64 f.2], by decide, fun _ => rfl, fun a u hu => by simp at hu; rcases hu with rfl | rfl <;> rfl⟩
theorem fates_in {w : World} {ao : Option Addr} {fs : List (Int × Int)} (h : ElemsAt fateShape w ao fs) : FatesIn w ao fs := by
  rcases h with h | ⟨b, off, e, hl, hc⟩
  · exact .inl h
  · refine .inr ⟨b, off, e, hl, fun j hj => ?_⟩
    rw [getD_lt _ _ _ hj]
    exact ⟨hc j hj 0 _ rfl, hc j hj 1 _ rfl⟩
end Go.Proofs.Ytpiaegkeclmpgaa.Vf
