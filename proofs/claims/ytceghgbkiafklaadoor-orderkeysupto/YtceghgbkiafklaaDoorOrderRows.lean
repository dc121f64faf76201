/-
  Rows of parts in memory: what append comes to, a slice of parts as a plain list.
-/
import Derived.Test.YtceghgbkiafklaaDoorOrderKey
namespace Go.Proofs.YtceghgbkiafklaaDoor.Od
open Go.RowKit
open Go.Proofs.YtceghgbkiafklaaDoor.Cm
set_option linter.unusedVariables false

theorem infoPart : (Tryd.prog.info? 25).map (fun i => (i.zero, i.size, i.bytes)) = some (some (.agg #[.int .i64 0, .int .i64 0, .string ⟨#[]⟩]), 3, 32) := by kernel_rfl
def partCells (p : Pt) : List Value := [.int .i64 p.k, .int .i64 p.n, .string p.s]
def partVals (ps : List Pt) : List Value := ps.flatMap partCells
theorem partVals_cons (p : Pt) (ps : List Pt) : partVals (p :: ps) = .int .i64 p.k :: .int .i64 p.n :: .string p.s :: partVals ps := rfl
theorem partVals_append (a b : List Pt) : partVals (a ++ b) = partVals a ++ partVals b := by simp [partVals]
theorem partVals_length (ps : List Pt) : (partVals ps).length = ps.length * 3 := by
  induction ps with
  | nil => rfl
  | cons p ps ih => rw [partVals_cons]; simp [ih]; omega
theorem partVals_one {ps : List Pt} : ∀ u ∈ partVals ps, u.oneCell' = true := by
  intro u hu
  obtain ⟨p, _, hp⟩ := List.mem_flatMap.1 hu
  simp only [partCells, List.mem_cons, List.not_mem_nil, or_false] at hp
  rcases hp with rfl | rfl | rfl <;> rfl
theorem partVals_get (ps : List Pt) (i : Nat) (h : i < ps.length) :
    (partVals ps)[i * 3]? = some (.int .i64 (ps.getD i Pt.zero).k) ∧ (partVals ps)[i * 3 + 1]? = some (.int .i64 (ps.getD i Pt.zero).n) ∧ (partVals ps)[i * 3 + 2]? = some (.string (ps.getD i Pt.zero).s) := by
  induction ps generalizing i with
  | nil => simp at h
  | cons p ps ih =>
    rw [partVals_cons]
    cases i with
    | zero => simp
    | succ i =>
      have := ih i (by simpa using h)
      rw [show (i + 1) * 3 = i * 3 + 3 by omega]
      simpa using this
theorem PartsAt.vals {w : World} {ad : Addr} {ps : List Pt} (h : PartsAt w (some ad) ps) : ∀ j u, (partVals ps)[j]? = some u → w.cell? (ad.add j) = some u := by
  intro j u hu
  rcases h with rfl | ⟨b, off, he, hlt, hc⟩
  · simp [partVals] at hu
  · simp only [Option.some.injEq] at he
    subst he
    have hj : j < (partVals ps).length := (List.getElem?_eq_some_iff.1 hu).1
    rw [partVals_length] at hj
    have hi : j / 3 < ps.length := by omega
    obtain ⟨c0, c1, c2⟩ := hc (j / 3) hi
    obtain ⟨g0, g1, g2⟩ := partVals_get ps (j / 3) hi
    rw [Go.WideShapes.add_plain]
    rcases (show j % 3 = 0 ∨ j % 3 = 1 ∨ j % 3 = 2 by omega) with hr | hr | hr
    · have e : j / 3 * 3 = j := by omega
      rw [e] at c0 g0
      rw [c0, ← g0, hu]
    · have e : j / 3 * 3 + 1 = j := by omega
      have e2 : off + j / 3 * 3 + 1 = off + j := by omega
      rw [e2] at c1
      rw [e] at g1
      rw [c1, ← g1, hu]
    · have e : j / 3 * 3 + 2 = j := by omega
      have e2 : off + j / 3 * 3 + 2 = off + j := by omega
      rw [e2] at c2
      rw [e] at g2
      rw [c2, ← g2, hu]
theorem own_keep3 {w w' : World} {B : Nat} {e : TypeId} {n : Nat} {v : Value} {xs : List Value} (h : w.ownsRow B e 3 v n xs) (hk : ∀ k, v.ownBlock = some k → w'.heap[k]? = w.heap[k]?) : w'.ownsRow B e 3 v n xs := by
  refine ⟨h.1, ?_⟩
  rcases h.2 with h | ⟨g, cap, cur, rfl, h1, hg, h2⟩
  · exact .inl h
  · exact .inr ⟨g, cap, cur, rfl, h1, (hk g rfl).trans hg, h2⟩
theorem own_below3 {w w' : World} {B : Nat} {e : TypeId} {n : Nat} {v : Value} {xs : List Value} (h : w.ownsRow B e 3 v n xs) (hb : Below w.heap.size w w') : w'.ownsRow B e 3 v n xs :=
  own_keep3 h fun k hk => hb.block k (h.lt k hk).2
/-- An owned row of parts as a slice of parts. -/
theorem own_parts {w : World} {B : Nat} {v : Value} {ps : List Pt} (h : w.ownsRow B 25 3 v ps.length (partVals ps)) :
    ∃ ao cap, v = .slice ao ps.length cap ∧ (ao = none → cap = 0) ∧ (∀ a, ao = some a → v.ownBlock = some a.block ∧ B ≤ a.block) ∧ ps.length ≤ cap ∧ PartsAt w ao ps := by
  rcases h.2 with ⟨rfl, hn⟩ | ⟨g, cap, cur, rfl, hB, hg, hle, _⟩
  · have : ps = [] := List.eq_nil_of_length_eq_zero hn
    subst this
    exact ⟨none, 0, rfl, fun _ => rfl, fun a h => (by cases h), Nat.le_refl _, .inl rfl⟩
  · refine ⟨some ⟨g, 0, none⟩, cap, rfl, fun h => (by cases h), fun a ha => (by cases ha; exact ⟨rfl, hB⟩), hle, ?_⟩
    refine .inr ⟨g, 0, rfl, lt_of_block hg, fun j hj => ?_⟩
    obtain ⟨g0, g1, g2⟩ := partVals_get ps j hj
    have c0 := h.cells (g := g) rfl _ _ g0
    have c1 := h.cells (g := g) rfl _ _ g1
    have c2 := h.cells (g := g) rfl _ _ g2
    rw [Go.WideShapes.add_plain] at c0 c1 c2
    exact ⟨c0, c1, c2⟩
section
variable {P : Program} (w : World)
/-- append of a slice of parts that came in (nil or not) to an owned row of parts. -/
theorem wpList_append_parts {ops : Array Oper} {rest : List Oper} {o : Oper} {a : Act} {Q : Exit → Act → World → Prop} (hgd : o.guard = none) (s x : Operand) (t : TypeId)
    (ho : o.op = .call { callee := .builtin .append, args := #[s, x], argTypes := #[t, t] })
    (base : Nat) (e : TypeId) (i : TypeInfo) (z : Value) (ht : P.underlying t = some (.slice e)) (hi : P.info? e = some i) (hz : i.zero = some z)
    (hsize : i.size = 3) (hby : i.bytes = 32) (hzs : z.cells.size = 3)
    (v : Value) (n : Nat) (ps : List Pt) (hs : a.eval s = v) (hown : w.ownsRow base e 3 v n (partVals ps))
    (ao : Option Addr) (m c : Nat) (qs : List Pt) (hx : a.eval x = .slice ao m c) (hnil : ao = none → c = 0) (hl : qs.length = m) (hnews : PartsAt w ao qs)
    (hbytes : (n + m) * 32 ≤ 140737488355328) (hbase : base ≤ w.heap.size)
    (h : ∀ v' w', w'.ownsRow base e 3 v' (n + m) (partVals (ps ++ qs)) → w.grownBy w' v.ownBlock → (v'.ownBlock = v.ownBlock ∨ v'.ownBlock = some w.heap.size) → wpList P ops Q rest (a.put o.dst v') w') :
    wpList P ops Q (o :: rest) a w := by
  cases ao with
  | none =>
    have hn : qs = [] := by
      rcases hnews with h | ⟨b, off, h, _⟩
      · exact h
      · cases h
    subst hn
    have hm : m = 0 := by simpa using hl.symm
    have hc := hnil rfl
    subst hm hc
    exact wpList_append_own_none hgd s x t ho base e i 3 ht hi v n _ hs hown hx (h v w (by simpa using hown) ⟨rfl, rfl, rfl, Nat.le_refl _, fun _ _ _ => rfl⟩ (.inl rfl))
  | some ad =>
    refine wpList_append_own_at w hgd s x t ho base e i z 3 32 ht hi hz hsize hby hzs (by decide) v n (partVals ps) hs hown ad m c (partVals qs) hx (by rw [partVals_length, hl]) hnews.vals partVals_one (by unfold maxLen; omega) hbytes hbase (fun v' w' a1 a2 _ a4 => h v' w' (by rw [partVals_append]; exact a1) a2 a4)
end
end Go.Proofs.YtceghgbkiafklaaDoor.Od
