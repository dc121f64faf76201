/-
  append of a slice of files, nil or not, at a step of a region that draws its order.
-/
import Derived.Test.YtjfanbemihheiaaDoorQManSame
import Derived.Deep.AppendLies
import Derived.Deep.RegionHeld3
namespace Go.Proofs.YtjfanbemihheiaaDoor.Ma
open Go.RowKit Cm
set_option linter.unusedVariables false

theorem run_append_rows {α : Type} {F : Shape α} {P : Program} (w : World) (t ty : TypeId) (base : Nat) (e : TypeId) (i : TypeInfo) (z : Value) (bytes : Nat) (ht : P.underlying t = some (.slice e)) (hi : P.info? e = some i) (hz : i.zero = some z)
    (hsize : i.size = F.sz) (hby : i.bytes = bytes) (hzs : z.cells.size = F.sz)
    (v : Value) (n : Nat) (ps : List α) (hown : w.ownsRow base e F.sz v n (F.vals ps))
    (ao : Option Addr) (m c : Nat) (qs : List α) (hnil : ao = none → c = 0) (hl : qs.length = m) (hnews : ElemsAt F w ao qs)
    (h63 : n + m ≤ maxLen) (hbytes : (n + m) * bytes ≤ 140737488355328) (hbase : base ≤ w.heap.size) :
    ∃ v' w', (Builtin.append_ #[t, t] ty #[v, .slice ao m c]).run P w = .ok v' w' ∧ w'.ownsRow base e F.sz v' (n + m) (F.vals (ps ++ qs)) ∧ w.grownBy w' v.ownBlock ∧ (v'.ownBlock = v.ownBlock ∨ v'.ownBlock = some w.heap.size) := by
  cases ao with
  | none =>
    have hn : qs = [] := by
      rcases hnews with h | ⟨b, off, h, _⟩
      · exact h
      · cases h
    subst hn
    have hm : m = 0 := by simpa using hl.symm
    have hc := hnil rfl
    subst hm hc
    exact ⟨v, w, run_append_owned_none w base t ty e i F.sz ht hi v n _ hown, by simpa using hown, ⟨rfl, rfl, rfl, Nat.le_refl _, fun _ _ _ => rfl⟩, .inl rfl⟩
  | some ad =>
    obtain ⟨v', w', a0, a1, a2, _, a4⟩ := run_append_own_at (P := P) w base t ty e i z F.sz bytes ht hi hz hsize hby hzs F.pos v n (F.vals ps) hown ad m c (F.vals qs) (by rw [F.vals_length, hl]) (hnews.vals rfl) (F.vals_one qs) h63 hbytes hbase
    exact ⟨v', w', a0, by rw [F.vals_append]; exact a1, a2, a4⟩
theorem step_append_rows {α : Type} {F : Shape α} {P : Program} (w : World) {ops : Array Oper} {o : Oper} {a : Act} {K : Act → World → Prop} {Q : Exit → Act → World → Prop} {E : Prop} (hgd : o.guard = none) (s x : Operand) (t : TypeId)
    (ho : o.op = .call { callee := .builtin .append, args := #[s, x], argTypes := #[t, t] })
    (base : Nat) (e : TypeId) (i : TypeInfo) (z : Value) (bytes : Nat) (ht : P.underlying t = some (.slice e)) (hi : P.info? e = some i) (hz : i.zero = some z)
    (hsize : i.size = F.sz) (hby : i.bytes = bytes) (hzs : z.cells.size = F.sz)
    (v : Value) (n : Nat) (ps : List α) (hs : a.eval s = v) (hown : w.ownsRow base e F.sz v n (F.vals ps))
    (ao : Option Addr) (m c : Nat) (qs : List α) (hx : a.eval x = .slice ao m c) (hnil : ao = none → c = 0) (hl : qs.length = m) (hnews : ElemsAt F w ao qs)
    (h63 : n + m ≤ maxLen) (hbytes : (n + m) * bytes ≤ 140737488355328) (hbase : base ≤ w.heap.size)
    (h : ∀ v' w', w'.ownsRow base e F.sz v' (n + m) (F.vals (ps ++ qs)) → w.grownBy w' v.ownBlock → (v'.ownBlock = v.ownBlock ∨ v'.ownBlock = some w.heap.size) → K (a.put o.dst v') w') :
    if Region.wanted o (yielded ops a.tmps) = true then Oper.wp P o a w K Q else E := by
  have hw : Region.wanted o (yielded ops a.tmps) = true := by simp [Region.wanted, hgd]
  rw [if_pos hw]
  obtain ⟨v', w', hr, h2, h3, h4⟩ := run_append_rows (P := P) w t o.type base e i z bytes ht hi hz hsize hby hzs v n ps hown ao m c qs hnil hl hnews h63 hbytes hbase
  unfold Oper.wp execOp
  simp only [ho, resolve, invoke, builtin, Sem.run_bind, Sem.run_pure, Result.andThen_ok, List.map_toArray, List.map_cons, List.map_nil, hs, hx, hr]
  exact h v' w' h2 h3 h4
end Go.Proofs.YtjfanbemihheiaaDoor.Ma
