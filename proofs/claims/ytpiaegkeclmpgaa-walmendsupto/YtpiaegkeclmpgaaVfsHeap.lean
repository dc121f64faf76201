/-
  A file system in memory (layer 4): its block, the fates, the files' map, each file's row; what keeps it.
-/
import Derived.Test.YtpiaegkeclmpgaaVfsMath
namespace Go.Proofs.Ytpiaegkeclmpgaa.Vf
open Go.RowKit Cm
open Go.Maps (Keyed)
set_option linter.unusedVariables false

theorem keyS : Keyed Try.prog 9 := Maps.string_keyed Try.underlying9
theorem keyI : Keyed Try.prog 3 := Maps.int_keyed Try.underlying3
theorem zeroFile (w : World) : (zeroValue 64).run Try.prog w = .ok (.agg #[.slice none 0 0, .int .i64 0]) w := by kernel_rfl
theorem zeroInt (w : World) : (zeroValue 3).run Try.prog w = .ok (.int .i64 0) w := by kernel_rfl
theorem keyOfS {s : ByteArray} (h : s.size ≤ maxLen) : keyOf Try.prog 9 (.string s) = some (.string s.data.toList) := WideMaps.keyOf_string_mk Try.underlying9 h
theorem keyOfI {i : Int} (h1 : -9223372036854775808 ≤ i) (h2 : i ≤ 9223372036854775807) : keyOf Try.prog 3 (.int .i64 i) = some (.int .i64 i) := Maps.keyOf_int_mk Try.underlying3 (WalkArith.wf_i64 (by omega))

def fv (u : Value) (n : Nat) : Value := .agg #[u, .int .i64 n]
theorem fv_inj {u v : Value} {n m : Nat} (h : fv u n = fv v m) : u = v ∧ n = m := by
  simp [fv] at h
  exact ⟨h.1, by omega⟩
def RowAt (w : World) (S : Nat → Prop) (u : Value) (bs : List UInt8) : Prop := w.ownsRow 0 5 1 u bs.length (bs.map B8) ∧ ∀ k, u.ownBlock = some k → S k
structure Files (w : World) (S : Nat → Prop) (V : Lit → Option Value) (M : Name → Option File) (skip : Name → Prop) : Prop where
  dom : ∀ x, (V (.string x)).isSome = (M x).isSome
  short : ∀ x, (M x).isSome = true → x.length ≤ 281474976710656
  some_ : ∀ x f, ¬ skip x → M x = some f → ∃ u, V (.string x) = some (fv u f.synced) ∧ RowAt w S u f.bytes ∧ f.synced ≤ f.bytes.length
  apart : ∀ x y u n v m, x ≠ y → ¬ skip x → ¬ skip y → V (.string x) = some (fv u n) → V (.string y) = some (fv v m) → u.ownBlock = none ∨ u.ownBlock ≠ v.ownBlock
structure FatesAt (w : World) (S : Nat → Prop) (bf n : Nat) (F : Int → Option Int) : Prop where
  own : S bf
  map : ∃ G, MapAt w Try.prog 3 bf n G ∧ ∀ i, G (.int .i64 i) = (F i).map (Value.int .i64)
/-- The fates: none were ever armed, or a map. -/
def FatesO (w : World) (S : Nat → Prop) (bm : Nat) (fo : Option Nat) (F : Int → Option Int) : Prop :=
  (fo = none ∧ ∀ i, F i = none) ∨ ∃ bf n, fo = some bf ∧ bf ≠ bm ∧ FatesAt w S bf n F
def head (s : St) (fo : Option Nat) (bm : Nat) : Obj := .cells #[.int .i64 s.acts, .int .i64 s.armed, .map fo, .bool s.down, .map (some bm)] 43 (0, 0)
/-- Block b is the file system s but for the files that are skipped; it owns S. -/
def FSX (w : World) (S : Nat → Prop) (b : Nat) (s : St) (skip : Name → Prop) : Prop :=
  ∃ fo bm V, w.heap[b]? = some (head s fo bm) ∧ S b ∧ S bm ∧ FatesO w S bm fo s.fates ∧ MapAt w Try.prog 9 bm s.cnt V ∧ Files w S V s.files skip
def FSAt (w : World) (S : Nat → Prop) (b : Nat) (s : St) : Prop := FSX w S b s (fun _ => False)
/-- .. with the map's values in sight. -/
def FSV (w : World) (S : Nat → Prop) (b : Nat) (s : St) (V : Lit → Option Value) : Prop :=
  ∃ fo bm, w.heap[b]? = some (head s fo bm) ∧ S b ∧ S bm ∧ FatesO w S bm fo s.fates ∧ MapAt w Try.prog 9 bm s.cnt V ∧ Files w S V s.files (fun _ => False)
theorem FSV.at_ {w : World} {S : Nat → Prop} {b : Nat} {s : St} {V : Lit → Option Value} (h : FSV w S b s V) : FSAt w S b s := by
  obtain ⟨fo, bm, h⟩ := h
  exact ⟨fo, bm, V, h⟩
theorem FSAt.vals {w : World} {S : Nat → Prop} {b : Nat} {s : St} (h : FSAt w S b s) : ∃ V, FSV w S b s V := by
  obtain ⟨fo, bm, V, h⟩ := h
  exact ⟨V, fo, bm, h⟩

section
variable {w w' : World} {S T : Nat → Prop} {b : Nat} {s : St} {skip : Name → Prop}
theorem own_form' {w : World} {B n : Nat} {e : TypeId} {v : Value} {xs : List Value} (h : w.ownsRow B e 1 v n xs) : v = .slice none 0 0 ∨ ∃ g cap, v = .slice (some ⟨g, 0, none⟩) n cap := by
  rcases h.2 with ⟨rfl, _⟩ | ⟨g, cap, cur, rfl, _⟩
  · exact .inl rfl
  · exact .inr ⟨g, cap, rfl⟩
theorem RowAt.keep {u : Value} {bs : List UInt8} (h : RowAt w S u bs) (hk : ∀ k, S k → k < w.heap.size → w'.heap[k]? = w.heap[k]?) : RowAt w' S u bs :=
  ⟨own_keep h.1 fun k e => hk k (h.2 k e) (h.1.lt k e).2, h.2⟩
theorem RowAt.mono {u : Value} {bs : List UInt8} (h : RowAt w S u bs) (hs : ∀ k, S k → T k) : RowAt w T u bs := ⟨h.1, fun k e => hs k (h.2 k e)⟩
theorem Files.keep {V : Lit → Option Value} {M : Name → Option File} (h : Files w S V M skip) (hk : ∀ k, S k → k < w.heap.size → w'.heap[k]? = w.heap[k]?) : Files w' S V M skip :=
  ⟨h.dom, h.short, fun x f hs hf => let ⟨u, h1, h2, h3⟩ := h.some_ x f hs hf; ⟨u, h1, h2.keep hk, h3⟩, h.apart⟩
theorem Files.mono {V : Lit → Option Value} {M : Name → Option File} (h : Files w S V M skip) (hs : ∀ k, S k → T k) : Files w T V M skip :=
  ⟨h.dom, h.short, fun x f hn hf => let ⟨u, h1, h2, h3⟩ := h.some_ x f hn hf; ⟨u, h1, h2.mono hs, h3⟩, h.apart⟩
theorem FatesAt.keep {bf n : Nat} {F : Int → Option Int} (h : FatesAt w S bf n F) (hk : ∀ k, S k → k < w.heap.size → w'.heap[k]? = w.heap[k]?) : FatesAt w' S bf n F := by
  obtain ⟨h1, G, h2, h3⟩ := h
  exact ⟨h1, G, h2.keep (hk bf h1 h2.lt), h3⟩
theorem FatesO.keep {bm : Nat} {fo : Option Nat} {F : Int → Option Int} (h : FatesO w S bm fo F) (hk : ∀ k, S k → k < w.heap.size → w'.heap[k]? = w.heap[k]?) : FatesO w' S bm fo F := by
  rcases h with h | ⟨bf, n, e, hn, h⟩
  · exact .inl h
  · exact .inr ⟨bf, n, e, hn, h.keep hk⟩
theorem FatesO.mono {bm : Nat} {fo : Option Nat} {F : Int → Option Int} (h : FatesO w S bm fo F) (hs : ∀ k, S k → T k) : FatesO w T bm fo F := by
  rcases h with h | ⟨bf, n, e, hn, h⟩
  · exact .inl h
  · exact .inr ⟨bf, n, e, hn, ⟨hs _ h.own, h.map⟩⟩
theorem FSX.keep (h : FSX w S b s skip) (hk : ∀ k, S k → k < w.heap.size → w'.heap[k]? = w.heap[k]?) : FSX w' S b s skip := by
  obtain ⟨fo, bm, V, h1, h2, h3, h4, h5, h6⟩ := h
  exact ⟨fo, bm, V, (hk b h2 (lt_of_block h1)).trans h1, h2, h3, h4.keep hk, h5.keep (hk bm h3 h5.lt), h6.keep hk⟩
theorem FSX.mono (h : FSX w S b s skip) (hs : ∀ k, S k → T k) : FSX w T b s skip := by
  obtain ⟨fo, bm, V, h1, h2, h3, h4, h5, h6⟩ := h
  exact ⟨fo, bm, V, h1, hs _ h2, hs _ h3, h4.mono hs, h5, h6.mono hs⟩
theorem FSX.below (h : FSX w S b s skip) (hb : Below w.heap.size w w') : FSX w' S b s skip := h.keep fun k _ hk => hb.block k hk
theorem FSX.alloc (h : FSX w S b s skip) (o : Obj) : FSX (w.alloc o) S b s skip := h.keep fun k _ hk => Below.heap_alloc _ _ _ hk
theorem FSX.chg (h : FSX w S b s skip) {S' : Nat → Prop} (hc : Chg S' w w') (hd : ∀ k, S k → ¬ S' k) : FSX w' S b s skip := h.keep fun k hs hk => hc.block k hk (hd k hs)
theorem FSX.lt (h : FSX w S b s skip) : b < w.heap.size := by
  obtain ⟨fo, bm, V, h1, _⟩ := h
  exact lt_of_block h1
theorem FSX.own (h : FSX w S b s skip) : S b := by
  obtain ⟨fo, bm, V, h1, h2, _⟩ := h
  exact h2
theorem FSV.keep {V : Lit → Option Value} (h : FSV w S b s V) (hk : ∀ k, S k → k < w.heap.size → w'.heap[k]? = w.heap[k]?) : FSV w' S b s V := by
  obtain ⟨fo, bm, h1, h2, h3, h4, h5, h6⟩ := h
  exact ⟨fo, bm, (hk b h2 (lt_of_block h1)).trans h1, h2, h3, h4.keep hk, h5.keep (hk bm h3 h5.lt), h6.keep hk⟩
theorem FSV.mono {V : Lit → Option Value} (h : FSV w S b s V) (hs : ∀ k, S k → T k) : FSV w T b s V := by
  obtain ⟨fo, bm, h1, h2, h3, h4, h5, h6⟩ := h
  exact ⟨fo, bm, h1, hs _ h2, hs _ h3, h4.mono hs, h5, h6.mono hs⟩
/-- The five cells. -/
theorem FSX.cells (h : FSX w S b s skip) : ∃ fo bm, w.cell? ⟨b, 0, none⟩ = some (.int .i64 s.acts) ∧ w.cell? ⟨b, 1, none⟩ = some (.int .i64 s.armed) ∧ w.cell? ⟨b, 2, none⟩ = some (.map fo) ∧
    w.cell? ⟨b, 3, none⟩ = some (.bool s.down) ∧ w.cell? ⟨b, 4, none⟩ = some (.map (some bm)) ∧ ∀ i, w.frozen? ⟨b, i, none⟩ = false := by
  obtain ⟨fo, bm, V, h1, _⟩ := h
  refine ⟨fo, bm, ?_, ?_, ?_, ?_, ?_, fun i => by simp [World.frozen?, h1, head]⟩ <;> rw [Joins.cell_of_block h1] <;> rfl
theorem head_set {acts armed : Nat} {fo : Option Nat} {down : Bool} {bm : Nat} (h : w.heap[b]? = some (.cells #[.int .i64 acts, .int .i64 armed, .map fo, .bool down, .map (some bm)] 43 (0, 0))) (i : Nat) (v : Value) :
    (w.setCell ⟨b, i, none⟩ v).heap[b]? = some (.cells (#[.int .i64 acts, .int .i64 armed, .map fo, .bool down, .map (some bm)].setIfInBounds i v) 43 (0, 0)) := by
  rw [Joins.block_setCell h]
theorem set_keep {v : Value} {i : Nat} {k : Nat} (h : k ≠ b) : (w.setCell ⟨b, i, none⟩ v).heap[k]? = w.heap[k]? := Below.heap_setCell _ _ _ _ (by simpa using h)
theorem row_ne {u : Value} {bs : List UInt8} {o : Obj} (h : RowAt w S u bs) (hb : w.heap[b]? = some o) (ho : ∀ cs, o ≠ .cells cs 5 (0, 0)) : u.ownBlock ≠ some b := by
  intro e
  rcases h.1.2 with ⟨rfl, _⟩ | ⟨g, cap, cur, rfl, _, hg, _⟩
  · simp [Value.ownBlock] at e
  · simp [Value.ownBlock] at e
    subst e
    rw [hb] at hg
    simp at hg
    exact ho _ hg
end
end Go.Proofs.Ytpiaegkeclmpgaa.Vf
