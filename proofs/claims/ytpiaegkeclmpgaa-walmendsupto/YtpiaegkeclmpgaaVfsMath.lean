/-
  The file system of layer 4 as plain data: files by their names, the acts, the fates, the power; what each call comes to.
-/
import Derived.Test.YtpiaegkeclmpgaaCmMap
namespace Go.Proofs.Ytpiaegkeclmpgaa.Vf
set_option linter.unusedVariables false

abbrev Name := List UInt8
structure File where
  bytes : List UInt8
  synced : Nat
structure St where
  acts : Nat
  armed : Nat
  fates : Int → Option Int
  down : Bool
  files : Name → Option File
  cnt : Nat
def St.init : St := ⟨0, 0, fun _ => none, false, fun _ => none, 0⟩
def St.at_ (s : St) : Int := (s.acts : Int) - s.armed
def St.fate (s : St) : Int := (s.fates s.at_).getD 0
def St.tick (s : St) : St := { s with acts := s.acts + 1, fates := fun i => if i = s.at_ then none else s.fates i }
def setF (M : Name → Option File) (x : Name) (f : Option File) (y : Name) : Option File := if y = x then f else M y
def St.put (s : St) (x : Name) (f : File) : St := { s with files := setF s.files x (some f), cnt := if (s.files x).isSome then s.cnt else s.cnt + 1 }
def St.del (s : St) (x : Name) : St := { s with files := setF s.files x none }
def St.old (s : St) (x : Name) : File := (s.files x).getD ⟨[], 0⟩
def gone (k : Int) : Bool := k == 1 || k == 2
def errOf (k : Int) : Int := if gone k then 7 else 0
def St.act (s : St) (eff : St → St) : St := { (if s.fate = 1 then s.tick else eff s.tick) with down := gone s.fate }
def isName (x : Name) : Bool := !x.isEmpty && decide (x.length ≤ 40)
def St.addTo (x : Name) (t : List UInt8) (s : St) : St := s.put x ⟨(s.old x).bytes ++ t, (s.old x).synced⟩
def St.append (s : St) (x : Name) (t : List UInt8) : St :=
  if s.down then s else if isName x = false then s else if s.fate = 3 then s.tick else s.act (St.addTo x t)
def St.appendE (s : St) (x : Name) : Int :=
  if s.down then 7 else if isName x = false then 4 else if s.fate = 3 then 6 else errOf s.fate
def File.sync (f : File) : File := ⟨f.bytes, f.bytes.length⟩
def St.findE (s : St) (x : Name) : Int := if s.down then 7 else if (s.files x).isNone then 5 else 0
def St.found (s : St) (x : Name) : File := if s.down then ⟨[], 0⟩ else s.old x
def St.sync (s : St) (x : Name) : St := if s.findE x = 0 then s.act (fun t => t.put x (s.old x).sync) else s
def St.syncE (s : St) (x : Name) : Int := if s.findE x = 0 then errOf s.fate else s.findE x
def St.delete (s : St) (x : Name) : St := if s.findE x = 0 then s.act (fun t => t.del x) else s
def St.rename (s : St) (x y : Name) : St := if s.down then s else if isName y = false then s else if s.findE x = 0 then s.act (fun t => (t.del x).put y (s.old x)) else s
def St.renameE (s : St) (x y : Name) : Int := if s.down then 7 else if isName y = false then 4 else if s.findE x = 0 then errOf s.fate else s.findE x
/-- The file as it is found when the power is gone. -/
def File.left (f : File) (keep : Int) : File :=
  let n := f.synced + (min (max keep 0) ((f.bytes.length : Int) - f.synced)).toNat
  ⟨f.bytes.take n, n⟩
/-- The names, rising. -/
structure Names (M : Name → Option File) (ks : List Name) : Prop where
  sorted : ks.Pairwise (fun x y => x ≤ y)
  nodup : ks.Nodup
  mem : ∀ x, x ∈ ks ↔ (M x).isSome = true
/-- What is found behind a crash. -/
def crashed (M : Name → Option File) (keep : List Int) (x : Name) (ks : List Name) : Option File :=
  if x ∈ ks then (M x).map fun f => f.left (keep.getD (ks.idxOf x) 0) else none
def St.crash (s : St) (keep : List Int) (ks : List Name) : St := { St.init with files := fun x => crashed s.files keep x ks, cnt := ks.length }

theorem Names.unique {M : Name → Option File} {ks js : List Name} (h : Names M ks) (k : Names M js) : ks = js := by
  refine List.Perm.eq_of_pairwise (le := fun a b => a ≤ b) (fun a b _ _ h1 h2 => List.le_antisymm h1 h2) h.sorted k.sorted ?_
  exact (List.perm_ext_iff_of_nodup h.nodup k.nodup).2 fun x => by rw [h.mem, k.mem]
theorem names_none : Names (fun _ => none) [] := ⟨List.Pairwise.nil, List.nodup_nil, fun x => by simp⟩
theorem names_one {M : Name → Option File} {x : Name} {f : File} (h : ∀ y, M y = if y = x then some f else none) : Names M [x] :=
  ⟨by simp, by simp, fun y => by rw [h]; by_cases e : y = x <;> simp [e]⟩
theorem setF_same (M : Name → Option File) (x : Name) (f : Option File) : setF M x f x = f := by simp [setF]
theorem setF_other (M : Name → Option File) {x y : Name} (f : Option File) (h : y ≠ x) : setF M x f y = M y := by simp [setF, h]
end Go.Proofs.Ytpiaegkeclmpgaa.Vf
