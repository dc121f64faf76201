/-
  For all layers: a map in memory as a function from keys to values; what changes in memory when a part of it alone may be written.
-/
import Derived.Test.YtjfanbemihheiaaGreatDoorQCmHeap
import Derived.Maps.OwnSet
import Derived.Maps.RangeWalk
import Derived.Sort.KeysCollected
import Derived.Sort.OwnSorted
namespace Go.Proofs.YtjfanbemihheiaaGreatDoor.Cm
open Go.RowKit Go.Maps Go.ChangeMaps Go.MapKept
open Go.WideElems (Fit rd rg pl rd_val elemAt)
set_option linter.unusedVariables false

/-- Whatever lies outside S, and was there, is as it was. -/
structure Chg (S : Nat → Prop) (w w' : World) : Prop where
  os : w'.os = w.os
  tape : w'.tape = w.tape
  output : w'.output = w.output
  size : w.heap.size ≤ w'.heap.size
  block : ∀ k, k < w.heap.size → ¬ S k → w'.heap[k]? = w.heap[k]?
/-- S, and whatever is made from w on. -/
def New (S : Nat → Prop) (w : World) (k : Nat) : Prop := S k ∨ w.heap.size ≤ k
theorem Chg.refl (S : Nat → Prop) (w : World) : Chg S w w := ⟨rfl, rfl, rfl, Nat.le_refl _, fun _ _ _ => rfl⟩
theorem Chg.mono {S T : Nat → Prop} {w w' : World} (h : Chg S w w') (hs : ∀ k, k < w.heap.size → S k → T k) : Chg T w w' :=
  ⟨h.os, h.tape, h.output, h.size, fun k hk hn => h.block k hk fun e => hn (hs k hk e)⟩
theorem Chg.trans {S : Nat → Prop} {w w1 w2 : World} (h : Chg S w w1) (k : Chg (New S w) w1 w2) : Chg S w w2 := by
  have hs := h.size
  refine ⟨k.os.trans h.os, k.tape.trans h.tape, k.output.trans h.output, Nat.le_trans hs k.size, fun i hi hn => ?_⟩
  refine (k.block i (by omega) ?_).trans (h.block i hi hn)
  rintro (e | e)
  · exact hn e
  · omega
theorem Chg.then {S : Nat → Prop} {w w1 w2 : World} (h : Chg S w w1) (k : Chg S w1 w2) : Chg S w w2 := h.trans (k.mono fun _ _ e => .inl e)
theorem Chg.of_below {S : Nat → Prop} {w w' : World} (h : Below w.heap.size w w') : Chg S w w' := ⟨h.os, h.tape, h.output, h.size, fun k hk _ => h.block k hk⟩
theorem Chg.below {S : Nat → Prop} {B : Nat} {w w' : World} (h : Chg S w w') (hS : ∀ k, S k → B ≤ k) (hB : B ≤ w.heap.size) : Below B w w' :=
  ⟨h.os, h.tape, h.output, h.size, fun k hk => h.block k (by omega) fun e => by have := hS k e; omega⟩
theorem Chg.alloc (S : Nat → Prop) (w : World) (o : Obj) : Chg S w (w.alloc o) := ⟨rfl, rfl, rfl, by simp, fun k hk _ => Below.heap_alloc _ _ _ hk⟩
theorem Chg.drew (S : Nat → Prop) (w : World) (n : Nat) : Chg S w (w.drewN n) := ⟨rfl, rfl, rfl, Nat.le_refl _, fun _ _ _ => rfl⟩
theorem Chg.set {S : Nat → Prop} (w : World) (b i : Nat) (v : Value) (hb : S b) : Chg S w (w.setCell ⟨b, i, none⟩ v) :=
  ⟨rfl, rfl, rfl, by simp [World.setCell], fun k hk hn => Below.heap_setCell _ _ _ _ (by rintro rfl; exact hn hb)⟩
theorem Chg.grown {S : Nat → Prop} {w w' : World} {r : Option Nat} (h : w.grownBy w' r) (hr : ∀ k, r = some k → S k) : Chg S w w' :=
  ⟨h.os, h.tape, h.output, h.size, fun k hk hn => h.block k hk fun e => hn (hr k e.symm)⟩
theorem New.of {S : Nat → Prop} {w : World} {k : Nat} (h : S k) : New S w k := .inl h
theorem New.ge {S : Nat → Prop} {w : World} {k : Nat} (h : w.heap.size ≤ k) : New S w k := .inr h
theorem New.new {S : Nat → Prop} {w w1 : World} (h : w.heap.size ≤ w1.heap.size) {k : Nat} (e : New (New S w) w1 k) : New S w k := by
  rcases e with e | e
  · exact e
  · exact .inr (by omega)

/-- A box of two cells. -/
theorem box2 {w : World} {c : Nat} {x y : Value} {t : TypeId} (h : w.heap[c]? = some (.cells #[x, y] t (0, 0))) :
    w.cell? ⟨c, 0, none⟩ = some x ∧ w.cell? ⟨c, 1, none⟩ = some y ∧ w.frozen? ⟨c, 0, none⟩ = false ∧ w.frozen? ⟨c, 1, none⟩ = false := by
  refine ⟨?_, ?_, by simp [World.frozen?, h], by simp [World.frozen?, h]⟩ <;> rw [Joins.cell_of_block h] <;> rfl
theorem box2_set {w : World} {c : Nat} {x y : Value} {t : TypeId} (h : w.heap[c]? = some (.cells #[x, y] t (0, 0))) (a b : Value) :
    (w.setCell ⟨c, 0, none⟩ a).cell? ⟨c, 0, none⟩ = some a ∧ ((w.setCell ⟨c, 0, none⟩ a).setCell ⟨c, 1, none⟩ b).cell? ⟨c, 1, none⟩ = some b := by
  have h1 := Joins.block_setCell h (i := 0) a
  have h2 := Joins.block_setCell h1 (i := 1) b
  rw [Joins.cell_of_block h1, Joins.cell_of_block h2]
  simp
/-- A row and a block of another type are two. -/
theorem own_far {w : World} {B n g : Nat} {e : TypeId} {v : Value} {xs : List Value} {cs : Array Value} {t : TypeId} {fr : Nat × Nat} (h : w.ownsRow B e 1 v n xs) (hg : w.heap[g]? = some (.cells cs t fr)) (ht : t ≠ e) : v.ownBlock ≠ some g := by
  intro e1
  rcases h.2 with ⟨rfl, _⟩ | ⟨k, cap, cur, rfl, _, hk, _⟩
  · simp [Value.ownBlock] at e1
  · simp [Value.ownBlock] at e1
    subst e1
    rw [hg] at hk
    simp at hk
    exact ht hk.2.1

/-- An element reads as itself. -/
def rv (v : Value) : Option (DataW Value × List MemPlace) := some (.held v, [])
def ofHeld : DataW Value → Option Value
  | .held v => some v
  | _ => none
def look (D : DataW Value) (k : Lit) : Option Value := if Maps.has D k then ofHeld (D.atKey k .nil) else none
def upd {β : Type} (V : Lit → β) (k : Lit) (x : β) (j : Lit) : β := if j.sameKey k then x else V j
theorem upd_same {β : Type} (V : Lit → β) {k : Lit} (hk : WideAt.IsKeyLit k) (x : β) : upd V k x k = x := by unfold upd; rw [if_pos (WideAt.sameKey_self hk)]
theorem upd_other {β : Type} (V : Lit → β) {k j : Lit} (h : j ≠ k) (x : β) : upd V k x j = V j := by unfold upd; rw [if_neg (by rw [Maps.sameKey_ne h]; simp)]
theorem look_put {D : DataW Value} (hD : IsMap D) {k : Lit} (hk : WideAt.IsKeyLit k) (v : Value) (j : Lit) : look (D.put k (.held v)) j = upd (look D) k (some v) j := by
  by_cases e : j = k
  · subst e
    rw [upd_same _ hk]
    unfold look
    rw [has_put_same hD hk, atKey_put_same hD hk]
    simp [ofHeld]
  · rw [upd_other _ e]
    unfold look
    rw [has_put_other e, atKey_put_other e]
theorem look_del {D : DataW Value} {k : Lit} (hk : WideAt.IsKeyLit k) (j : Lit) : look (D.del k) j = upd (look D) k none j := by
  by_cases e : j = k
  · subst e
    rw [upd_same _ hk]
    unfold look
    rw [has_del_same]
    simp
  · rw [upd_other _ e]
    unfold look
    rw [has_del_other e, atKey_del_other e]

/-- Block b is a map of at most n entries whose values are V's. -/
def MapAt (w : World) (P : Program) (k : TypeId) (b n : Nat) (V : Lit → Option Value) : Prop :=
  ∃ D : DataW Value, w.ownsMap P k rv b n D ∧ ∀ kl, look D kl = V kl
section
variable {P : Program} {k t e : TypeId} {w w' : World} {b n : Nat} {V : Lit → Option Value}
theorem MapAt.lt (h : MapAt w P k b n V) : b < w.heap.size := by
  obtain ⟨D, h, _⟩ := h
  exact h.lt
theorem MapAt.keep (h : MapAt w P k b n V) (hb : w'.heap[b]? = w.heap[b]?) : MapAt w' P k b n V := by
  obtain ⟨D, ⟨es, clock, hq, F, hs, hD⟩, hV⟩ := h
  exact ⟨D, ⟨es, clock, hb.trans hq, F, hs, hD⟩, hV⟩
theorem MapAt.no_cells (h : MapAt w P k b n V) {cs : Array Value} {ty : TypeId} {fr : Nat × Nat} : w.heap[b]? ≠ some (.cells cs ty fr) := by
  obtain ⟨D, ⟨es, clock, hb, _⟩, _⟩ := h
  rw [hb]; simp
theorem MapAt.made (w : World) (P : Program) (k : TypeId) : MapAt (w.alloc (.map #[] 0)) P k w.heap.size 0 (fun _ => none) :=
  ⟨.map [], World.ownsMap_made w P k rv, fun kl => rfl⟩
theorem MapAt.look_cases (h : MapAt w P k b n V) (K : Keyed P k) (ht : P.underlying t = some (.map k e)) {z : Value} (hz : (zeroValue e).run P w = .ok z w) {key : Value} {kl : Lit} (hkey : keyOf P k key = some kl) (c : Bool) :
    (Instr.lookup t (.map (some b)) key c).run P w = .ok (if c then .tuple #[(V kl).getD z, .bool (V kl).isSome] else (V kl).getD z) w := by
  obtain ⟨D, ⟨es, clock, hb, F, _, rfl⟩, hV⟩ := h
  have hv := hV kl
  unfold look at hv
  rcases Maps.fit_look c K ht hz hb F hkey with ⟨hrun, _, hat⟩ | ⟨e0, y, _, _, hrun, hRv, hat, _⟩
  · rw [Maps.has_false_of_atKey hat] at hv
    rw [← hv, hrun]
    simp
  · rw [Maps.has_true_of_atKey hat, hat] at hv
    simp only [rv, Option.some.injEq] at hRv
    subst hRv
    rw [← hv, hrun]
    simp [ofHeld]
theorem MapAt.run_look (h : MapAt w P k b n V) (K : Keyed P k) (ht : P.underlying t = some (.map k e)) {z : Value} (hz : (zeroValue e).run P w = .ok z w) {key : Value} {kl : Lit} (hkey : keyOf P k key = some kl) :
    (Instr.lookup t (.map (some b)) key false).run P w = .ok ((V kl).getD z) w := by simpa using h.look_cases K ht hz hkey false
theorem MapAt.run_look_ok (h : MapAt w P k b n V) (K : Keyed P k) (ht : P.underlying t = some (.map k e)) {z : Value} (hz : (zeroValue e).run P w = .ok z w) {key : Value} {kl : Lit} (hkey : keyOf P k key = some kl) :
    (Instr.lookup t (.map (some b)) key true).run P w = .ok (.tuple #[(V kl).getD z, .bool (V kl).isSome]) w := by simpa using h.look_cases K ht hz hkey true
theorem ownsMap_exact {D : DataW Value} (h : w.ownsMap P k rv b n D) : w.ownsMap P k rv b (Maps.size D) D := by
  obtain ⟨es, clock, hb, F, hs, rfl⟩ := h
  exact ⟨es, clock, hb, F, by simp [Maps.size, length_sorted], rfl⟩
theorem isSome_has {D : DataW Value} (h : w.ownsMap P k rv b n D) (K : Keyed P k) (ht : P.underlying t = some (.map k e)) {z : Value} (hz : (zeroValue e).run P w = .ok z w) {key : Value} {kl : Lit} (hkey : keyOf P k key = some kl) : (look D kl).isSome = Maps.has D kl := by
  obtain ⟨es, clock, hb, F, _, rfl⟩ := h
  unfold look
  rcases Maps.fit_look true K ht hz hb F hkey with ⟨hrun, _, hat⟩ | ⟨e0, y, _, _, hrun, hRv, hat, _⟩
  · rw [Maps.has_false_of_atKey hat]; rfl
  · rw [Maps.has_true_of_atKey hat, hat]
    simp only [rv, Option.some.injEq] at hRv
    subst hRv
    rfl
theorem has_of_look {D : DataW Value} {kl : Lit} (h : (look D kl).isSome = true) : Maps.has D kl = true := by
  unfold look at h
  split at h
  · assumption
  · cases h
/-- 'm[k] = v'. -/
theorem MapAt.store (h : MapAt w P k b n V) (K : Keyed P k) (ht : P.underlying t = some (.map k e)) {z : Value} (hz : (zeroValue e).run P w = .ok z w) (hn : n < maxLen) {key val : Value} {kl : Lit} (hkey : keyOf P k key = some kl) :
    ∃ w', (Instr.mapUpdate t (.map (some b)) key val).run P w = .ok () w' ∧ MapAt w' P k b (if (V kl).isSome then n else n + 1) (upd V kl (some val)) ∧ w.mapTurned w' b := by
  obtain ⟨D, hD, hV⟩ := h
  have hkl := K.key hkey
  obtain ⟨w', hrun, h1, h2⟩ := hD.store (val := val) (d := .held val) (ps := []) K ht hn hkey rfl
  refine ⟨w', hrun, ⟨D.put kl (.held val), ?_, fun j => ?_⟩, h2⟩
  · refine (ownsMap_exact h1).mono ?_
    rw [size_put (hD.tidy K), ← isSome_has hD K ht hz hkey, hV kl]
    have := hD.size_le
    split <;> omega
  · rw [look_put hD.isMap hkl]
    unfold upd
    rw [hV]
/-- 'delete(m, k)'. -/
theorem MapAt.drop (h : MapAt w P k b n V) (K : Keyed P k) (ht : P.underlying t = some (.map k e)) {key : Value} {kl : Lit} (hkey : keyOf P k key = some kl) (ty : TypeId) :
    ∃ w', (Builtin.delete_ #[t, k] ty #[.map (some b), key]).run P w = .ok (.tuple #[]) w' ∧ MapAt w' P k b n (upd V kl none) ∧ w.mapTurned w' b := by
  obtain ⟨D, hD, hV⟩ := h
  obtain ⟨w', hrun, h1, h2⟩ := hD.drop K ht hkey ty
  refine ⟨w', hrun, ⟨D.del kl, h1, fun j => ?_⟩, h2⟩
  rw [look_del (K.key hkey)]
  unfold upd
  rw [hV]
theorem Chg.turned {S : Nat → Prop} (h : w.mapTurned w' b) (hb : S b) : Chg S w w' := Chg.grown h.grown (fun k e => by cases e; exact hb)
theorem Keyed.lit {P : Program} {k : TypeId} (K : Keyed P k) {key : Value} {kl : Lit} (h : keyOf P k key = some kl) : WideAt.IsKeyLit kl := K.key h
end

section
variable {P : Program} (w : World) {ops : Array Oper} {rest : List Oper} {o : Oper} {a : Act} {Q : Exit → Act → World → Prop}
theorem wpList_update_at (hg : o.guard = none) (m x v : Operand) (t : TypeId) (hop : o.op = Op.mapUpdate t m x v)
    (k e : TypeId) (K : Keyed P k) (ht : P.underlying t = some (.map k e)) {z : Value} (hz : (zeroValue e).run P w = .ok z w) (b n : Nat) (V : Lit → Option Value)
    (hm : a.eval m = .map (some b)) (hown : MapAt w P k b n V) (hn : n < maxLen) (key val : Value) (kl : Lit) (hx : a.eval x = key) (hv : a.eval v = val) (hkey : keyOf P k key = some kl)
    (hK : ∀ w', MapAt w' P k b (if (V kl).isSome then n else n + 1) (upd V kl (some val)) → w.mapTurned w' b → wpList P ops Q rest (a.put o.dst undef) w') :
    wpList P ops Q (o :: rest) a w := by
  refine wpList_plain hg fun K' hK' => ?_
  obtain ⟨w', hrun, r1, r2⟩ := hown.store (val := val) K ht hz hn hkey
  unfold Oper.wp
  simp [execOp, hop, hm, hx, hv, hrun, Result.andThen]
  exact hK' _ _ (hK w' r1 r2)
theorem wpList_lookup_at (hg : o.guard = none) (m x : Operand) (t : TypeId) (hop : o.op = Op.lookup t m x false)
    (k e : TypeId) (K : Keyed P k) (ht : P.underlying t = some (.map k e)) {z : Value} (hz : (zeroValue e).run P w = .ok z w) (b n : Nat) (V : Lit → Option Value)
    (hm : a.eval m = .map (some b)) (hown : MapAt w P k b n V) (key : Value) (kl : Lit) (hx : a.eval x = key) (hkey : keyOf P k key = some kl) (r : Value) (hr : (V kl).getD z = r)
    (hK : wpList P ops Q rest (a.put o.dst r) w) :
    wpList P ops Q (o :: rest) a w := by
  refine wpList_plain hg fun K' hK' => ?_
  subst hr
  unfold Oper.wp
  simp [execOp, hop, hm, hx, hown.run_look K ht hz hkey, Result.andThen]
  exact hK' _ _ hK
theorem wpList_lookup_ok_at (hg : o.guard = none) (m x : Operand) (t : TypeId) (hop : o.op = Op.lookup t m x true)
    (k e : TypeId) (K : Keyed P k) (ht : P.underlying t = some (.map k e)) {z : Value} (hz : (zeroValue e).run P w = .ok z w) (b n : Nat) (V : Lit → Option Value)
    (hm : a.eval m = .map (some b)) (hown : MapAt w P k b n V) (key : Value) (kl : Lit) (hx : a.eval x = key) (hkey : keyOf P k key = some kl) (r : Value) (c : Bool) (hr : (V kl).getD z = r) (hc : (V kl).isSome = c)
    (hK : wpList P ops Q rest (a.put o.dst (.tuple #[r, .bool c])) w) :
    wpList P ops Q (o :: rest) a w := by
  refine wpList_plain hg fun K' hK' => ?_
  subst hr hc
  unfold Oper.wp
  simp [execOp, hop, hm, hx, hown.run_look_ok K ht hz hkey, Result.andThen]
  exact hK' _ _ hK
theorem wpList_delete_at (hg : o.guard = none) (m x : Operand) (t k : TypeId) (hop : o.op = Op.call { callee := Callee.builtin Builtin.delete, args := #[m, x], argTypes := #[t, k] })
    (e : TypeId) (K : Keyed P k) (ht : P.underlying t = some (.map k e)) (b n : Nat) (V : Lit → Option Value)
    (hm : a.eval m = .map (some b)) (hown : MapAt w P k b n V) (key : Value) (kl : Lit) (hx : a.eval x = key) (hkey : keyOf P k key = some kl)
    (hK : ∀ w', MapAt w' P k b n (upd V kl none) → w.mapTurned w' b → wpList P ops Q rest (a.put o.dst (.tuple #[])) w') :
    wpList P ops Q (o :: rest) a w := by
  refine wpList_plain hg fun K' hK' => ?_
  obtain ⟨w', hrun, r1, r2⟩ := hown.drop K ht hkey o.type
  unfold Oper.wp
  simp [execOp, hop, resolve, invoke, builtin, hm, hx, hrun, Result.andThen]
  exact hK' _ _ (hK w' r1 r2)
end
end Go.Proofs.YtjfanbemihheiaaGreatDoor.Cm
