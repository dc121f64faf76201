/-
  Package vfs where nothing is armed: each call, told by the files alone.
-/
import Derived.Test.YthiagcialidfjaaVfsCrash
namespace Go.Proofs.Ythiagcialidfjaa.Vf
open Go.RowKit Cm
set_option linter.unusedVariables false

def Own (w : World) (base : Nat) (k : Nat) : Prop := base ≤ k ∧ k < w.heap.size
/-- Block b is the file system s; it lies from base on. -/
def FSB (w : World) (base b : Nat) (s : St) : Prop := FSAt w (Own w base) b s
theorem FSB.at_ {w : World} {base b : Nat} {s : St} (h : FSB w base b s) : FSX w (Own w base) b s (fun _ => False) := h
theorem FSB.of {w' : World} {S : Nat → Prop} {base b : Nat} {s : St} (h : FSAt w' S b s) (hS : ∀ k, S k → base ≤ k) : FSB w' base b s := by
  have h1 : FSX w' (fun k => S k ∧ k < w'.heap.size) b s (fun _ => False) := h.cut
  exact h1.mono fun k e => ⟨hS k e.1, e.2⟩
theorem FSB.below {w w' : World} {base b : Nat} {s : St} (h : FSB w base b s) (hb : Below w.heap.size w w') : FSB w' base b s :=
  FSB.of (S := Own w base) (h.at_.below hb) fun k e => e.1
theorem FSB.new {w w' : World} {base b : Nat} {s : St} (hb : base ≤ w.heap.size) (h : FSAt w' (New (Own w base) w) b s) : FSB w' base b s :=
  FSB.of h fun k e => e.elim (fun e => e.1) (fun e => Nat.le_trans hb e)
theorem FSB.chg {w w' : World} {base : Nat} (hb : base ≤ w.heap.size) (h : Chg (Own w base) w w') : Below base w w' := h.below (fun k e => e.1) hb

/-- One part appended. -/
theorem append1 (base b : Nat) (s : St) (x p : ByteArray) (w : World) (h : FSB w base b s) (hb : base ≤ w.heap.size)
    (hx : x.size ≤ 281474976710656) (hn : s.cnt < 9223372036854775807) (hsz : (s.old x.data.toList).bytes.length + p.size ≤ 140737488355328) (ha : s.armed ≤ s.acts) (hac : s.acts ≤ 9223372036854775000) :
    Calls Try.prog 9 #[.pointer (some ⟨b, 0, none⟩), .string x, .slice (some ⟨w.heap.size, 0, none⟩) 1 1] (w.alloc (.cells #[.string p] 9)) fun e w' => e = .returned (.int .i64 (s.appendE x.data.toList)) ∧ FSB w' base b (s.append x.data.toList p.data.toList) ∧ Below base w w' := by
  have hc : CellsAt (w.alloc (.cells #[.string p] 9)) (some ⟨w.heap.size, 0, none⟩) (strVals [p]) := .inr ⟨w.heap.size, 0, rfl, by simp, fun j hj => by
    obtain rfl : j = 0 := (by simpa [strVals] using hj)
    rw [Joins.cell_of_block (heap_alloc_new w _)]; rfl⟩
  refine (append_any (Own w base) b s x _ 1 [p] _ (h.at_.alloc _) (fun k e => by have := e.2; simp; omega) hc (fun ad e h2 => by cases e; exact absurd h2.2 (Nat.lt_irrefl _)) hx hn (by simpa [total] using hsz) (by simp) ha hac).mono ?_
  rintro e w' ⟨rfl, r1, r2⟩
  have e1 : cat [p] = p.data.toList := by simp [cat]
  rw [e1] at r1
  have hB : Below base (w.alloc (.cells #[.string p] 9)) w' := r2.below (fun k e => e.1) (by simp; omega)
  exact ⟨rfl, FSB.of r1 fun k e => e.elim (fun e => e.1) (fun e => by simp at e; omega), ((Below.refl _ _).alloc hb _).trans hB⟩
theorem append2 (base b : Nat) (s : St) (x p q : ByteArray) (w : World) (h : FSB w base b s) (hb : base ≤ w.heap.size)
    (hx : x.size ≤ 281474976710656) (hn : s.cnt < 9223372036854775807) (hsz : (s.old x.data.toList).bytes.length + (p.size + q.size) ≤ 140737488355328) (ha : s.armed ≤ s.acts) (hac : s.acts ≤ 9223372036854775000) :
    Calls Try.prog 9 #[.pointer (some ⟨b, 0, none⟩), .string x, .slice (some ⟨w.heap.size, 0, none⟩) 2 2] (w.alloc (.cells #[.string p, .string q] 9)) fun e w' => e = .returned (.int .i64 (s.appendE x.data.toList)) ∧ FSB w' base b (s.append x.data.toList (p.data.toList ++ q.data.toList)) ∧ Below base w w' := by
  have hc : CellsAt (w.alloc (.cells #[.string p, .string q] 9)) (some ⟨w.heap.size, 0, none⟩) (strVals [p, q]) := .inr ⟨w.heap.size, 0, rfl, by simp, fun j hj => by
    rw [Joins.cell_of_block (heap_alloc_new w _)]
    have hj : j < 2 := by simpa [strVals] using hj
    match j, hj with
    | 0, _ => rfl
    | 1, _ => rfl⟩
  refine (append_any (Own w base) b s x _ 2 [p, q] _ (h.at_.alloc _) (fun k e => by have := e.2; simp; omega) hc (fun ad e h2 => by cases e; exact absurd h2.2 (Nat.lt_irrefl _)) hx hn (by simpa [total] using hsz) (by simp) ha hac).mono ?_
  rintro e w' ⟨rfl, r1, r2⟩
  have e1 : cat [p, q] = p.data.toList ++ q.data.toList := by simp [cat]
  rw [e1] at r1
  have hB : Below base (w.alloc (.cells #[.string p, .string q] 9)) w' := r2.below (fun k e => e.1) (by simp; omega)
  exact ⟨rfl, FSB.of r1 fun k e => e.elim (fun e => e.1) (fun e => by simp at e; omega), ((Below.refl _ _).alloc hb _).trans hB⟩

def oldM (M : Name → Option File) (x : Name) : File := (M x).getD ⟨[], 0⟩
/-- The file system b, up, nothing armed, with the files M, behind a acts; at most c files. -/
def Calm (w : World) (base b : Nat) (M : Name → Option File) (a c : Nat) : Prop :=
  ∃ s : St, FSB w base b s ∧ s.down = false ∧ (∀ i, s.fates i = none) ∧ s.files = M ∧ s.acts = a ∧ s.armed ≤ s.acts ∧ s.cnt ≤ c
section
variable {w w' : World} {base b a c : Nat} {M : Name → Option File}
theorem Calm.below (h : Calm w base b M a c) (hb : Below w.heap.size w w') : Calm w' base b M a c := by
  obtain ⟨s, h1, h2⟩ := h
  exact ⟨s, h1.below hb, h2⟩
theorem Calm.down (h : Calm w base b M a c) : Calls Try.prog 13 #[.pointer (some ⟨b, 0, none⟩)] w fun e w' => e = .returned (.bool false) ∧ w' = w := by
  obtain ⟨s, h1, h2, _⟩ := h
  rw [← h2]
  exact down_any (Own w base) b s w h1
theorem Calm.acts (h : Calm w base b M a c) : Calls Try.prog 15 #[.pointer (some ⟨b, 0, none⟩)] w fun e w' => e = .returned (.int .i64 a) ∧ w' = w := by
  obtain ⟨s, h1, _, _, _, h5, _⟩ := h
  rw [← h5]
  exact acts_any (Own w base) b s w h1
theorem fate_none {s : St} (h : ∀ i, s.fates i = none) : s.fate = 0 := by unfold St.fate; rw [h]; rfl
theorem act_calm {s : St} (h : ∀ i, s.fates i = none) (eff : St → St) : s.act eff = { eff s.tick with down := false } := by
  unfold St.act; rw [fate_none h]; rfl
theorem tick_none {s : St} (h : ∀ i, s.fates i = none) (i : Int) : s.tick.fates i = none := by
  show (if _ then _ else _) = _
  rw [h]; simp
theorem ite_cnt {q : Bool} {n c : Nat} (h : n ≤ c) : (if q = true then n else n + 1) ≤ c + 1 := by
  split <;> omega
theorem Calm.append (h : Calm w base b M a c) (hb : base ≤ w.heap.size) (x p : ByteArray) (hx : isName x.data.toList = true) (hc : c < 9223372036854775807) (ha : a ≤ 9223372036854775000) (hsz : (oldM M x.data.toList).bytes.length + p.size ≤ 140737488355328) :
    Calls Try.prog 9 #[.pointer (some ⟨b, 0, none⟩), .string x, .slice (some ⟨w.heap.size, 0, none⟩) 1 1] (w.alloc (.cells #[.string p] 9)) fun e w' => e = .returned (.int .i64 0) ∧ Calm w' base b (setF M x.data.toList (some ⟨(oldM M x.data.toList).bytes ++ p.data.toList, (oldM M x.data.toList).synced⟩)) (a + 1) (c + 1) ∧ Below base w w' := by
  obtain ⟨s, h1, h2, h3, rfl, rfl, h6, h7⟩ := h
  have hxs : x.size ≤ 40 := by unfold isName at hx; rw [Lib.size_eq]; simp at hx; exact hx.2
  refine (append1 base b s x p w h1 hb (by omega) (by omega) hsz h6 ha).mono ?_
  rintro e w' ⟨rfl, r1, r2⟩
  have e1 : s.appendE x.data.toList = 0 := by unfold St.appendE; rw [h2, hx, fate_none h3]; rfl
  have e2 : s.append x.data.toList p.data.toList = { (s.tick.addTo x.data.toList p.data.toList) with down := false } := by
    unfold St.append; rw [h2, hx, fate_none h3]; exact act_calm h3 _
  rw [e2] at r1
  rw [e1]
  exact ⟨rfl, ⟨_, r1, rfl, tick_none h3, rfl, rfl, by show s.armed ≤ s.acts + 1; omega, ite_cnt h7⟩, r2⟩
theorem Calm.append2 (h : Calm w base b M a c) (hb : base ≤ w.heap.size) (x p q : ByteArray) (hx : isName x.data.toList = true) (hc : c < 9223372036854775807) (ha : a ≤ 9223372036854775000) (hsz : (oldM M x.data.toList).bytes.length + (p.size + q.size) ≤ 140737488355328) :
    Calls Try.prog 9 #[.pointer (some ⟨b, 0, none⟩), .string x, .slice (some ⟨w.heap.size, 0, none⟩) 2 2] (w.alloc (.cells #[.string p, .string q] 9)) fun e w' => e = .returned (.int .i64 0) ∧ Calm w' base b (setF M x.data.toList (some ⟨(oldM M x.data.toList).bytes ++ (p.data.toList ++ q.data.toList), (oldM M x.data.toList).synced⟩)) (a + 1) (c + 1) ∧ Below base w w' := by
  obtain ⟨s, h1, h2, h3, rfl, rfl, h6, h7⟩ := h
  have hxs : x.size ≤ 40 := by unfold isName at hx; rw [Lib.size_eq]; simp at hx; exact hx.2
  refine (Vf.append2 base b s x p q w h1 hb (by omega) (by omega) hsz h6 ha).mono ?_
  rintro e w' ⟨rfl, r1, r2⟩
  have e1 : s.appendE x.data.toList = 0 := by unfold St.appendE; rw [h2, hx, fate_none h3]; rfl
  have e2 : s.append x.data.toList (p.data.toList ++ q.data.toList) = { (s.tick.addTo x.data.toList (p.data.toList ++ q.data.toList)) with down := false } := by
    unfold St.append; rw [h2, hx, fate_none h3]; exact act_calm h3 _
  rw [e2] at r1
  rw [e1]
  exact ⟨rfl, ⟨_, r1, rfl, tick_none h3, rfl, rfl, by show s.armed ≤ s.acts + 1; omega, ite_cnt h7⟩, r2⟩
theorem findE_calm {s : St} (h : s.down = false) (x : Name) : s.findE x = if (s.files x).isNone then 5 else 0 := by unfold St.findE; rw [h]; rfl
theorem Calm.sync (h : Calm w base b M a c) (hb : base ≤ w.heap.size) (x : ByteArray) (f : File) (hf : M x.data.toList = some f) (hx : x.size ≤ 281474976710656) (hc : c < 9223372036854775807) (ha : a ≤ 9223372036854775000) :
    Calls Try.prog 10 #[.pointer (some ⟨b, 0, none⟩), .string x] w fun e w' => e = .returned (.int .i64 0) ∧ Calm w' base b (setF M x.data.toList (some f.sync)) (a + 1) (c + 1) ∧ Below base w w' := by
  obtain ⟨s, h1, h2, h3, rfl, rfl, h6, h7⟩ := h
  refine (sync_any (Own w base) b s x w h1 (fun k e => e.2) hx (by omega) h6 ha).mono ?_
  rintro e w' ⟨rfl, r1, r2⟩
  have e0 : s.findE x.data.toList = 0 := by rw [findE_calm h2, hf]; rfl
  have ho : s.old x.data.toList = f := by unfold St.old; rw [hf]; rfl
  have e1 : s.syncE x.data.toList = 0 := by unfold St.syncE; rw [if_pos e0, fate_none h3]; rfl
  have e2 : s.sync x.data.toList = { (s.tick.put x.data.toList f.sync) with down := false } := by unfold St.sync; rw [if_pos e0, ho]; exact act_calm h3 _
  rw [e2] at r1
  rw [e1]
  exact ⟨rfl, ⟨_, FSB.new hb r1, rfl, tick_none h3, rfl, rfl, by show s.armed ≤ s.acts + 1; omega, ite_cnt h7⟩, FSB.chg hb r2⟩
theorem Calm.rename (h : Calm w base b M a c) (hb : base ≤ w.heap.size) (x y : ByteArray) (f : File) (hf : M x.data.toList = some f) (hx : x.size ≤ 281474976710656) (hy : isName y.data.toList = true) (hc : c < 9223372036854775807) (ha : a ≤ 9223372036854775000) :
    Calls Try.prog 16 #[.pointer (some ⟨b, 0, none⟩), .string x, .string y] w fun e w' => e = .returned (.int .i64 0) ∧ Calm w' base b (setF (setF M x.data.toList none) y.data.toList (some f)) (a + 1) (c + 1) ∧ Below base w w' := by
  obtain ⟨s, h1, h2, h3, rfl, rfl, h6, h7⟩ := h
  have hys : y.size ≤ 40 := by unfold isName at hy; rw [Lib.size_eq]; simp at hy; exact hy.2
  refine (rename_any (Own w base) b s x y w h1 (fun k e => e.2) hx (by omega) (by omega) h6 ha).mono ?_
  rintro e w' ⟨rfl, r1, r2⟩
  have e0 : s.findE x.data.toList = 0 := by rw [findE_calm h2, hf]; rfl
  have ho : s.old x.data.toList = f := by unfold St.old; rw [hf]; rfl
  have e1 : s.renameE x.data.toList y.data.toList = 0 := by unfold St.renameE; rw [h2, hy, if_pos e0, fate_none h3]; rfl
  have e2 : s.rename x.data.toList y.data.toList = { ((s.tick.del x.data.toList).put y.data.toList f) with down := false } := by unfold St.rename; rw [h2, hy, if_pos e0, ho]; exact act_calm h3 (fun t => (t.del x.data.toList).put y.data.toList f)
  rw [e2] at r1
  rw [e1]
  exact ⟨rfl, ⟨_, FSB.new hb r1, rfl, tick_none h3, rfl, rfl, by show s.armed ≤ s.acts + 1; omega, ite_cnt h7⟩, FSB.chg hb r2⟩
theorem Calm.delete (h : Calm w base b M a c) (hb : base ≤ w.heap.size) (x : ByteArray) (f : File) (hf : M x.data.toList = some f) (hx : x.size ≤ 281474976710656) (hc : c < 9223372036854775807) (ha : a ≤ 9223372036854775000) :
    Calls Try.prog 17 #[.pointer (some ⟨b, 0, none⟩), .string x] w fun e w' => e = .returned (.int .i64 0) ∧ Calm w' base b (setF M x.data.toList none) (a + 1) c ∧ Below base w w' := by
  obtain ⟨s, h1, h2, h3, rfl, rfl, h6, h7⟩ := h
  refine (delete_any (Own w base) b s x w h1 (fun k e => e.2) hx (by omega) h6 ha).mono ?_
  rintro e w' ⟨rfl, r1, r2⟩
  have e0 : s.findE x.data.toList = 0 := by rw [findE_calm h2, hf]; rfl
  have e1 : s.syncE x.data.toList = 0 := by unfold St.syncE; rw [if_pos e0, fate_none h3]; rfl
  have e2 : s.delete x.data.toList = { (s.tick.del x.data.toList) with down := false } := by unfold St.delete; rw [if_pos e0]; exact act_calm h3 _
  rw [e2] at r1
  rw [e1]
  exact ⟨rfl, ⟨_, FSB.new hb r1, rfl, tick_none h3, rfl, rfl, by show s.armed ≤ s.acts + 1; omega, h7⟩, FSB.chg hb r2⟩
theorem Calm.read (h : Calm w base b M a c) (x : ByteArray) (hx : x.size ≤ 281474976710656) :
    Calls Try.prog 12 #[.pointer (some ⟨b, 0, none⟩), .string x] w fun e w' => e = .returned (.tuple #[.string ⟨(oldM M x.data.toList).bytes.toArray⟩, .int .i64 (if (M x.data.toList).isNone then 5 else 0)]) ∧ Below w.heap.size w w' := by
  obtain ⟨s, h1, h2, h3, rfl, rfl, h6, h7⟩ := h
  refine (read_any (Own w base) b s x w h1 hx).mono ?_
  rintro e w' ⟨rfl, r⟩
  rw [findE_calm h2]
  have e1 : s.found x.data.toList = oldM s.files x.data.toList := by unfold St.found; rw [h2]; rfl
  rw [e1]
  exact ⟨rfl, r⟩
theorem Calm.read_some (h : Calm w base b M a c) (x t : ByteArray) (f : File) (hf : M x.data.toList = some f) (ht : f.bytes = t.data.toList) (hx : x.size ≤ 281474976710656) :
    Calls Try.prog 12 #[.pointer (some ⟨b, 0, none⟩), .string x] w fun e w' => e = .returned (.tuple #[.string t, .int .i64 0]) ∧ Below w.heap.size w w' := by
  refine (h.read x hx).mono ?_
  rintro e w' ⟨rfl, r⟩
  have e1 : oldM M x.data.toList = f := by unfold oldM; rw [hf]; rfl
  rw [e1, hf, ht, str_back]
  exact ⟨rfl, r⟩
theorem Calm.read_none (h : Calm w base b M a c) (x : ByteArray) (hf : M x.data.toList = none) (hx : x.size ≤ 281474976710656) :
    Calls Try.prog 12 #[.pointer (some ⟨b, 0, none⟩), .string x] w fun e w' => e = .returned (.tuple #[.string ⟨#[]⟩, .int .i64 5]) ∧ Below w.heap.size w w' := by
  refine (h.read x hx).mono ?_
  rintro e w' ⟨rfl, r⟩
  have e1 : oldM M x.data.toList = ⟨[], 0⟩ := by unfold oldM; rw [hf]; rfl
  rw [e1, hf]
  exact ⟨rfl, r⟩
theorem Calm.crash (h : Calm w base b M a c) (ak : Option Addr) (kcap : Nat) (keep : List Int) (hk : CellsAt w ak (keep.map I64)) (hc : c ≤ 4398046511104) (hkl : keep.length ≤ 9223372036854775000) (hfl : ∀ x f, M x = some f → f.bytes.length ≤ 140737488355328) :
    Calls Try.prog 11 #[.pointer (some ⟨b, 0, none⟩), .slice ak keep.length kcap] w fun e w' => ∃ b' ks, e = .returned (.pointer (some ⟨b', 0, none⟩)) ∧ Names M ks ∧ Calm w' w.heap.size b' (fun x => crashed M keep x ks) 0 ks.length ∧ Below w.heap.size w w' := by
  obtain ⟨s, h1, h2, h3, rfl, rfl, h6, h7⟩ := h
  refine (crash_any (Own w base) b s ak kcap keep w h1 hk (by omega) hkl hfl).mono ?_
  rintro e w' ⟨b', ks, rfl, r1, r2, r3⟩
  exact ⟨b', ks, rfl, r1, ⟨_, FSB.of r2 fun k e => e, rfl, fun _ => rfl, rfl, rfl, Nat.le_refl _, Nat.le_refl _⟩, r3⟩
theorem Calm.list (h : Calm w base b M a c) (hc : c ≤ 4398046511104) :
    Calls Try.prog 18 #[.pointer (some ⟨b, 0, none⟩)] w fun e w' => ∃ (g cap : Nat) (ks : List Name), e = .returned (.tuple #[.slice (some ⟨g, 0, none⟩) ks.length cap, .int .i64 0]) ∧ Names M ks ∧
      w'.ownsRow w.heap.size 9 1 (.slice (some ⟨g, 0, none⟩) ks.length cap) ks.length (encOf ks) ∧ Below w.heap.size w w' := by
  obtain ⟨s, h1, h2, h3, rfl, rfl, h6, h7⟩ := h
  refine (list_any (Own w base) b s w h1 (by omega) h2).mono ?_
  rintro e w' ⟨g, cap, ks, rfl, r1, r2, r3, r4⟩
  exact ⟨g, cap, ks, rfl, r1, r3, r4⟩
end
theorem newCalm (w : World) : Calls Try.prog 8 #[] w fun e w' => e = .returned (.pointer (some ⟨w.heap.size + 1, 0, none⟩)) ∧ Calm w' w.heap.size (w.heap.size + 1) (fun _ => none) 0 0 ∧ Below w.heap.size w w' := by
  refine (new_any w).mono ?_
  rintro e w' ⟨rfl, r1, r2⟩
  exact ⟨rfl, ⟨_, FSB.of r1 fun k e => e, rfl, fun _ => rfl, rfl, rfl, Nat.le_refl _, Nat.le_refl _⟩, r2⟩
end Go.Proofs.Ythiagcialidfjaa.Vf
