/-
  Package vfs where fates are armed: each call, told by the state.
-/
import Derived.Test.YthiagcialidfjaaVfsLives
import Derived.Test.YthiagcialidfjaaVfsArm
namespace Go.Proofs.Ythiagcialidfjaa.Vf
open Go.RowKit Cm
set_option linter.unusedVariables false

section
variable {w w' : World} {base b : Nat} {s : St}
theorem newFSB (w : World) : Calls Try.prog 8 #[] w fun e w' => e = .returned (.pointer (some ⟨w.heap.size + 1, 0, none⟩)) ∧ FSB w' w.heap.size (w.heap.size + 1) St.init ∧ Below w.heap.size w w' := by
  refine (new_any w).mono ?_
  rintro e w' ⟨rfl, r1, r2⟩
  exact ⟨rfl, FSB.of r1 fun k e => e, r2⟩
theorem FSB.arm (h : FSB w base b s) (hb : base ≤ w.heap.size) (ao : Option Addr) (cap : Nat) (fs : List (Int × Int)) (hc : FatesIn w ao fs) (hap : ∀ ad, ao = some ad → ¬ Own w base ad.block)
    (hl : fs.length ≤ 140737488355328) (hf : ∀ f ∈ fs, -9223372036854775808 ≤ f.1 ∧ f.1 ≤ 9223372036854775807) :
    Calls Try.prog 14 #[.pointer (some ⟨b, 0, none⟩), .slice ao fs.length cap] w fun e w' => e = .returned (.tuple #[]) ∧ FSB w' base b (s.arm fs) ∧ Below base w w' := by
  refine (arm_any (Own w base) b s ao cap fs w h.at_ hc hap hl hf).mono ?_
  rintro e w' ⟨rfl, r1, r2⟩
  exact ⟨rfl, FSB.new hb r1, FSB.chg hb r2⟩
/-- One fate, in a slice of its own. -/
theorem FSB.arm1 (h : FSB w base b s) (hb : base ≤ w.heap.size) (n k : Int) (hn : -9223372036854775808 ≤ n ∧ n ≤ 9223372036854775807) :
    Calls Try.prog 14 #[.pointer (some ⟨b, 0, none⟩), .slice (some ⟨w.heap.size, 0, none⟩) 1 1] (w.alloc (.cells #[.int .i64 n, .int .i64 k] 43)) fun e w' => e = .returned (.tuple #[]) ∧ FSB w' base b (s.arm [(n, k)]) ∧ Below base w w' := by
  have hc : FatesIn (w.alloc (.cells #[.int .i64 n, .int .i64 k] 43)) (some ⟨w.heap.size, 0, none⟩) [(n, k)] := .inr ⟨w.heap.size, 0, rfl, by simp, fun j hj => by
    obtain rfl : j = 0 := (by simpa using hj)
    rw [Joins.cell_of_block (heap_alloc_new w _), Joins.cell_of_block (heap_alloc_new w _)]; exact ⟨rfl, rfl⟩⟩
  have hA : FSX (w.alloc (.cells #[.int .i64 n, .int .i64 k] 43)) (Own w base) b s (fun _ => False) := h.at_.alloc _
  refine (arm_any (Own w base) b s (some ⟨w.heap.size, 0, none⟩) 1 [(n, k)] _ hA hc (fun ad e h2 => by cases e; exact absurd h2.2 (Nat.lt_irrefl _)) (by simp) (fun f hf => by simp at hf; subst hf; exact hn)).mono ?_
  rintro e w' ⟨rfl, r1, r2⟩
  have hB : Below base (w.alloc (.cells #[.int .i64 n, .int .i64 k] 43)) w' := r2.below (fun k e => e.1) (by simp; omega)
  exact ⟨rfl, FSB.of r1 fun k e => e.elim (fun e => e.1) (fun e => by simp at e; omega), ((Below.refl _ _).alloc hb _).trans hB⟩
theorem FSB.down (h : FSB w base b s) : Calls Try.prog 13 #[.pointer (some ⟨b, 0, none⟩)] w fun e w' => e = .returned (.bool s.down) ∧ w' = w := down_any (Own w base) b s w h
theorem FSB.acts (h : FSB w base b s) : Calls Try.prog 15 #[.pointer (some ⟨b, 0, none⟩)] w fun e w' => e = .returned (.int .i64 s.acts) ∧ w' = w := acts_any (Own w base) b s w h
theorem FSB.read (h : FSB w base b s) (x : ByteArray) (hx : x.size ≤ 281474976710656) :
    Calls Try.prog 12 #[.pointer (some ⟨b, 0, none⟩), .string x] w fun e w' => e = .returned (.tuple #[.string ⟨(s.found x.data.toList).bytes.toArray⟩, .int .i64 (s.findE x.data.toList)]) ∧ Below w.heap.size w w' := read_any (Own w base) b s x w h hx
theorem FSB.crash (h : FSB w base b s) (ak : Option Addr) (kcap : Nat) (keep : List Int) (hk : CellsAt w ak (keep.map I64)) (hc : s.cnt ≤ 4398046511104) (hkl : keep.length ≤ 9223372036854775000) (hfl : ∀ x f, s.files x = some f → f.bytes.length ≤ 140737488355328) :
    Calls Try.prog 11 #[.pointer (some ⟨b, 0, none⟩), .slice ak keep.length kcap] w fun e w' => ∃ b' ks, e = .returned (.pointer (some ⟨b', 0, none⟩)) ∧ Names s.files ks ∧ Calm w' w.heap.size b' (fun x => crashed s.files keep x ks) 0 ks.length ∧ Below w.heap.size w w' := by
  refine (crash_any (Own w base) b s ak kcap keep w h hk hc hkl hfl).mono ?_
  rintro e w' ⟨b', ks, rfl, r1, r2, r3⟩
  exact ⟨b', ks, rfl, r1, ⟨_, FSB.of r2 fun k e => e, rfl, fun _ => rfl, rfl, rfl, Nat.le_refl _, Nat.le_refl _⟩, r3⟩
end

/-- One file, x, behind k appends. -/
def xF (k : Nat) (f : File) (y : Name) : Option File := if y = [120] then (if k = 0 then none else some f) else none
theorem xF_zero (f : File) : xF 0 f = fun _ => none := by funext y; simp [xF]
theorem xF_x (k : Nat) (f : File) (h : k ≠ 0) : xF k f [120] = some f := by simp [xF, h]
theorem xF_set (k j : Nat) (f g : File) (hj : j ≠ 0) : setF (xF k f) [120] (some g) = xF j g := by
  funext y; unfold setF xF; by_cases e : y = [120] <;> simp [e, hj]
theorem xF_old (k : Nat) (f : File) (h : k = 0 → f = ⟨[], 0⟩) : oldM (xF k f) [120] = f := by
  unfold oldM
  by_cases h0 : k = 0
  · subst h0; rw [xF_zero, h rfl]; rfl
  · rw [xF_x _ _ h0]; rfl
theorem xF_names (k : Nat) (f : File) (h : k ≠ 0) : Names (xF k f) [[120]] := names_one (f := f) fun y => by unfold xF; simp [h]
theorem xF_crash (k : Nat) (f : File) (h : k ≠ 0) (keep : List Int) : (fun x => crashed (xF k f) keep x [[120]]) = xF 1 (f.left (keep.getD 0 0)) := by
  funext y
  unfold crashed
  by_cases e : y = [120]
  · subst e; rw [if_pos (by simp), xF_x _ _ h]; simp [xF]
  · rw [if_neg (by simpa using e)]; simp [xF, e]
theorem xF_short (k : Nat) (T : ByteArray) (n : Nat) (hT : T.size ≤ 140737488355328) : ∀ x f, xF k ⟨T.data.toList, n⟩ x = some f → f.bytes.length ≤ 140737488355328 := fun x f hf => by
  unfold xF at hf
  split at hf
  · split at hf
    · cases hf
    · cases hf; show T.data.toList.length ≤ _; rw [← Lib.size_eq]; exact hT
  · cases hf
end Go.Proofs.Ythiagcialidfjaa.Vf
