/-
  Layer 6: a map in memory whose keys are a key and a number; every key that is there has the number 1.
-/
import Derived.Test.YtbbncfgiimkpnaaMemRows
import Derived.Maps.Keyed
namespace Go.Proofs.Ytbbncfgiimkpnaa.Mm
open Go.RowKit Cm
set_option linter.unusedVariables false

def kv (p : ByteArray × Int) : Value := .agg #[.string p.1, .int .i64 p.2, .bool false, .string ⟨#[]⟩]
theorem eq_keys (a b : ByteArray) (s t : Int) (w : World) : (Op.equal 31 (.agg #[.string a, .int .i64 s, .bool false, .string ⟨#[]⟩]) (.agg #[.string b, .int .i64 t, .bool false, .string ⟨#[]⟩])).run Try.prog w = .ok (decide (a = b ∧ s = t)) w := by
  have u3 := Try.underlying3
  have a3 := Try.isAgg3
  have z3 := Try.sizeOf3
  have u9 := Try.underlying9
  have a9 := Try.isAgg9
  have z9 := Try.sizeOf9
  have u4 := Try.underlying4
  have a4 := Try.isAgg4
  have z4 := Try.sizeOf4
  have hS : Try.prog.underlying 31 = some (.struct (Try.prog.fieldsOf 31)) := by kernel_rfl
  have hp : Try.prog.stoodInHeld 31 = false := by kernel_rfl
  have hb := beq_toList a b
  have e0 : (Op.equal 31 (.agg #[.string a, .int .i64 s, .bool false, .string ⟨#[]⟩]) (.agg #[.string b, .int .i64 t, .bool false, .string ⟨#[]⟩])) = Op.equalIn (9999 + 1) 31 (.agg #[.string a, .int .i64 s, .bool false, .string ⟨#[]⟩]) (.agg #[.string b, .int .i64 t, .bool false, .string ⟨#[]⟩]) := by simp [Op.equal, Op.maxDepth]
  rw [e0, run_equalIn_agg w 9999 31 _ _ hS hp]
  simp only [Program.fieldsOf, Try.underlying31]
  by_cases hab : a = b
  · subst hab
    by_cases hst : s = t
    · subst hst
      go_simp
    · have h2 : (s == t) = false := by simpa using hst
      have h3 : decide (a = a ∧ s = t) = false := by simp [hst]
      rw [h3]
      go_simp
  · rw [decide_eq_false hab] at hb
    have h3 : decide (a = b ∧ s = t) = false := by simp [hab]
    rw [h3]
    go_simp
theorem check_key (em : Bool) (a : ByteArray) (s : Int) (w : World) : (Instr.checkKey em 10000 31 (.agg #[.string a, .int .i64 s, .bool false, .string ⟨#[]⟩])).run Try.prog w = .ok () w := by kernel_rfl
theorem zero_int (w : World) : (zeroValue 3).run Try.prog w = .ok (.int .i64 0) w := by kernel_rfl
/-- The asking, one key after the other. -/
theorem find_asking (p : ByteArray × Int) (w : World) : ∀ (es : List MapEntry) (ks : List (ByteArray × Int)) (i : Nat), es.map (·.key) = ks.map kv → (∀ e ∈ es, e.val = .int .i64 1) →
    (p ∉ ks ∧ (Instr.findAsking 31 (kv p) es i).run Try.prog w = .ok none w) ∨ (p ∈ ks ∧ ∃ j, (Instr.findAsking 31 (kv p) es i).run Try.prog w = .ok (some (j, .int .i64 1)) w)
  | [], ks, i, hk, _ => by
    have : ks = [] := by simpa using hk.symm
    subst this
    exact .inl ⟨by simp, by simp [Instr.findAsking]⟩
  | e :: es, [], i, hk, _ => by simp at hk
  | e :: es, q :: ks, i, hk, hv => by
    simp only [List.map_cons, List.cons.injEq] at hk
    have hq := eq_keys p.1 q.1 p.2 q.2 w
    have hq' : (Op.equal 31 (kv p) e.key).run Try.prog w = .ok (decide (p.1 = q.1 ∧ p.2 = q.2)) w := by rw [hk.1]; exact hq
    have hve := hv e List.mem_cons_self
    by_cases hpq : p.1 = q.1 ∧ p.2 = q.2
    · have hpe : p = q := by cases p; cases q; simp at hpq; simp [hpq]
      rw [decide_eq_true hpq] at hq'
      refine .inr ⟨by simp [hpe], i, ?_⟩
      simp [Instr.findAsking, hq', hve]
    · have hpe : p ≠ q := by rintro rfl; exact hpq ⟨rfl, rfl⟩
      rw [decide_eq_false hpq] at hq'
      rcases find_asking p w es ks (i + 1) hk.2 (fun x hx => hv x (List.mem_cons_of_mem _ hx)) with ⟨h1, h2⟩ | ⟨h1, j, h2⟩
      · exact .inl ⟨by simp [hpe, h1], by simp [Instr.findAsking, hq', h2]⟩
      · exact .inr ⟨by simp [h1], j, by simp [Instr.findAsking, hq', h2]⟩
theorem find_key (p : ByteArray × Int) (w : World) (es : List MapEntry) (ks : List (ByteArray × Int)) (hk : es.map (·.key) = ks.map kv) (hv : ∀ e ∈ es, e.val = .int .i64 1) :
    (p ∉ ks ∧ (Instr.findKey 31 (kv p) es).run Try.prog w = .ok none w) ∨ (p ∈ ks ∧ ∃ j, (Instr.findKey 31 (kv p) es).run Try.prog w = .ok (some (j, .int .i64 1)) w) := by
  cases es with
  | nil =>
    have : ks = [] := by simpa using hk.symm
    subst this
    exact .inl ⟨by simp, by simp [Instr.findKey, Instr.findNow, run_underlying Try.underlying31]⟩
  | cons e es =>
    cases ks with
    | nil => simp at hk
    | cons q ks =>
      have he : e.key = kv q := by simp only [List.map_cons, List.cons.injEq] at hk; exact hk.1
      have hn : (Instr.findKey 31 (kv p) (e :: es)).run Try.prog w = (Instr.findAsking 31 (kv p) (e :: es) 0).run Try.prog w := by
        simp [Instr.findKey, Instr.findNow, Instr.sameNow, run_underlying Try.underlying31, he, kv]
      rw [hn]
      exact find_asking p w (e :: es) (q :: ks) 0 hk hv
/-- Block b is a map of these keys. -/
def KeysAt (w : World) (b : Nat) (ks : List (ByteArray × Int)) : Prop := ∃ es clock, w.heap[b]? = some (.map es clock) ∧ es.toList.map (·.key) = ks.map kv ∧ ∀ e ∈ es.toList, e.val = .int .i64 1
section
variable {w w' : World} {b : Nat} {ks : List (ByteArray × Int)}
theorem KeysAt.lt (h : KeysAt w b ks) : b < w.heap.size := by
  obtain ⟨es, c, h1, _⟩ := h
  exact lt_of_block h1
theorem KeysAt.keep (h : KeysAt w b ks) (hk : w'.heap[b]? = w.heap[b]?) : KeysAt w' b ks := by
  obtain ⟨es, c, h1, h2⟩ := h
  exact ⟨es, c, hk.trans h1, h2⟩
theorem KeysAt.made (w : World) : KeysAt (w.alloc (.map #[] 0)) w.heap.size [] := ⟨#[], 0, heap_alloc_new w _, rfl, by simp⟩
theorem KeysAt.no_cells (h : KeysAt w b ks) {cs : Array Value} {ty : TypeId} {fr : Nat × Nat} : w.heap[b]? ≠ some (.cells cs ty fr) := by
  obtain ⟨es, clock, hb, _⟩ := h
  rw [hb]; simp
theorem KeysAt.look (h : KeysAt w b ks) (p : ByteArray × Int) : (p ∉ ks ∧ (Instr.lookup 48 (.map (some b)) (kv p) false).run Try.prog w = .ok (.int .i64 0) w) ∨ (p ∈ ks ∧ (Instr.lookup 48 (.map (some b)) (kv p) false).run Try.prog w = .ok (.int .i64 1) w) := by
  obtain ⟨es, clock, hb, hk, hv⟩ := h
  have hc := check_key es.isEmpty p.1 p.2 w
  rcases find_key p w es.toList ks hk hv with ⟨h1, h2⟩ | ⟨h1, j, h2⟩
  · refine .inl ⟨h1, ?_⟩
    simp [Instr.lookup, run_underlying Try.underlying48, MapKept.run_getObj_map hb, show (Instr.checkKey es.isEmpty 10000 31 (kv p)).run Try.prog w = .ok () w from hc, h2, Result.andThen]
  · refine .inr ⟨h1, ?_⟩
    simp [Instr.lookup, run_underlying Try.underlying48, MapKept.run_getObj_map hb, show (Instr.checkKey es.isEmpty 10000 31 (kv p)).run Try.prog w = .ok () w from hc, h2, Result.andThen]
theorem KeysAt.store (h : KeysAt w b ks) (p : ByteArray × Int) (hp : p ∉ ks) : ∃ w', (Instr.mapUpdate 48 (.map (some b)) (kv p) (.int .i64 1)).run Try.prog w = .ok () w' ∧ KeysAt w' b (ks ++ [p]) ∧ w.grownBy w' (some b) := by
  obtain ⟨es, clock, hb, hk, hv⟩ := h
  have hc := check_key false p.1 p.2 w
  have hlt := lt_of_block hb
  rcases find_key p w es.toList ks hk hv with ⟨h1, h2⟩ | ⟨h1, _⟩
  · refine ⟨{ w with heap := w.heap.setIfInBounds b (.map (es.push { key := kv p, val := .int .i64 1, born := clock }) (clock + 1)) }, ?_, ⟨es.push { key := kv p, val := .int .i64 1, born := clock }, clock + 1, ?_, ?_, ?_⟩, ?_⟩
    · simp [Instr.mapUpdate, run_underlying Try.underlying48, MapKept.run_getObj_map hb, show (Instr.checkKey false 10000 31 (kv p)).run Try.prog w = .ok () w from hc, h2, MapKept.run_setObj_map _ hb, Result.andThen]
    · simp [hlt]
    · simp [hk]
    · intro e he
      simp only [Array.toList_push, List.mem_append, List.mem_singleton] at he
      rcases he with he | rfl
      · exact hv e he
      · rfl
    · refine ⟨rfl, rfl, rfl, by simp, fun k hk hn => ?_⟩
      rw [Array.getElem?_setIfInBounds_ne (by rintro rfl; exact hn rfl)]
  · exact absurd h1 hp
end

/-! ### Versions with unlike places, in whatever order -/
def place (e : En) : ByteArray × Int := (e.key, e.seq)
theorem place_clean (e : En) : place (clean e) = place e := by unfold place; rw [clean_key, clean_seq]
theorem add_fresh {vs : List En} {x : En} (h : place x ∉ vs.map place) : addOne vs x = pre vs x.key x.seq ++ clean x :: post vs x.key x.seq := by
  unfold addOne
  congr 2
  cases hq : post vs x.key x.seq with
  | nil => rfl
  | cons p r =>
    rw [without_cons, if_neg]
    intro hp
    apply h
    refine List.mem_map.2 ⟨p, ?_, by unfold place; rw [hp.1, hp.2]⟩
    rw [← pre_post vs x.key x.seq, hq]; simp
theorem mem_fresh {vs : List En} {x : En} (h : place x ∉ vs.map place) (e : En) : e ∈ addOne vs x ↔ e ∈ vs ∨ e = clean x := by
  rw [add_fresh h, List.mem_append, List.mem_cons]
  conv => rhs; rw [← pre_post vs x.key x.seq, List.mem_append]
  constructor
  · rintro (h | h | h)
    · exact .inl (.inl h)
    · exact .inr h
    · exact .inl (.inr h)
  · rintro ((h | h) | h)
    · exact .inl h
    · exact .inr (.inr h)
    · exact .inr (.inl h)
theorem len_fresh {vs : List En} {x : En} (h : place x ∉ vs.map place) : (addOne vs x).length = vs.length + 1 := by
  rw [add_fresh h]
  have := congrArg List.length (pre_post vs x.key x.seq)
  simp at this ⊢
  omega
theorem all_fresh {xs : List En} (hn : (xs.map place).Nodup) : ∀ {vs : List En}, (∀ p ∈ xs.map place, p ∉ vs.map place) → (∀ e, e ∈ addAll vs xs ↔ e ∈ vs ∨ e ∈ xs.map clean) ∧ (addAll vs xs).length = vs.length + xs.length := by
  induction xs with
  | nil => intro vs _; exact ⟨fun e => by simp [addAll], by simp [addAll]⟩
  | cons x xs ih =>
    intro vs hd
    rw [List.map_cons, List.nodup_cons] at hn
    have hx := hd (place x) (by simp)
    have hpl : ∀ p ∈ xs.map place, p ∉ (addOne vs x).map place := fun p hp hm => by
      obtain ⟨e, he, rfl⟩ := List.mem_map.1 hm
      rcases (mem_fresh hx e).1 he with h | h
      · exact hd (place e) (by simp only [List.map_cons, List.mem_cons]; exact .inr hp) (List.mem_map.2 ⟨e, h, rfl⟩)
      · rw [h, place_clean] at hp
        exact hn.1 hp
    obtain ⟨h1, h2⟩ := ih hn.2 hpl
    refine ⟨fun e => ?_, ?_⟩
    · show e ∈ addAll (addOne vs x) xs ↔ _
      rw [h1, mem_fresh hx, List.map_cons, List.mem_cons, or_assoc]
    · show (addAll (addOne vs x) xs).length = _
      rw [h2, len_fresh hx, List.length_cons]; omega
/-- The order in which they come is not seen. -/
theorem all_reverse {xs : List En} (hn : (xs.map place).Nodup) : addAll [] xs.reverse = addAll [] xs ∧ (addAll [] xs).length = xs.length := by
  have hr : (xs.reverse.map place).Nodup := by rw [List.map_reverse]; exact (List.reverse_perm _).nodup_iff.2 hn
  obtain ⟨h1, h2⟩ := all_fresh hn (vs := []) (by simp)
  obtain ⟨h3, _⟩ := all_fresh hr (vs := []) (by simp)
  refine ⟨sorted_ext (sorted_nil.addAll _) (sorted_nil.addAll _) fun e => ?_, by simpa using h2⟩
  rw [h1, h3]
  simp
end Go.Proofs.Ytbbncfgiimkpnaa.Mm
