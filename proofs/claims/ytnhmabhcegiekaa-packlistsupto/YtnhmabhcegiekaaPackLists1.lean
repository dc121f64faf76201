/-
  For the statement PackLists: slices that came in, copied by append; what the document's Texts, SameInts and Same answer.
-/
import Derived.Test.YtnhmabhcegiekaaPackWritesWalk
import Derived.Maps.AppendAt
import Derived.Laws.AppendOwnNone
namespace Go.Proofs.Ytnhmabhcegiekaa.Pk
open Go.RowKit
set_option linter.unusedVariables false

/-- The values lie in memory from that address on. -/
def CellsAt (w : World) (ao : Option Addr) (vs : List Value) : Prop :=
  vs = [] ∨ ∃ b off, ao = some ⟨b, off, none⟩ ∧ b < w.heap.size ∧ ∀ j, j < vs.length → w.cell? ⟨b, off + j, none⟩ = vs[j]?
theorem CellsAt.keep {w w' : World} {ao : Option Addr} {vs : List Value} (h : CellsAt w ao vs) (hb : ∀ b, b < w.heap.size → w'.heap[b]? = w.heap[b]?) (hs : w.heap.size ≤ w'.heap.size) : CellsAt w' ao vs := by
  rcases h with h | ⟨b, off, rfl, hlt, hc⟩
  · exact .inl h
  · refine .inr ⟨b, off, rfl, by omega, fun j hj => ?_⟩
    rw [World.cell?_of_block (hb b hlt)]
    exact hc j hj
theorem CellsAt.below {w w' : World} {ao : Option Addr} {vs : List Value} (h : CellsAt w ao vs) (hb : Below w.heap.size w w') : CellsAt w' ao vs := h.keep hb.block hb.size
theorem CellsAt.alloc {w : World} {ao : Option Addr} {vs : List Value} (h : CellsAt w ao vs) (o : Obj) : CellsAt (w.alloc o) ao vs := h.keep (fun b hb => Below.heap_alloc _ _ _ hb) (by simp)

section
variable {P : Program} (w : World)
/-- append of a slice that came in (nil or not) to an owned row. -/
theorem wpList_append_any {ops : Array Oper} {rest : List Oper} {o : Oper} {a : Act} {Q : Exit → Act → World → Prop} (hgd : o.guard = none) (s x : Operand) (t : TypeId)
    (ho : o.op = .call { callee := .builtin .append, args := #[s, x], argTypes := #[t, t] })
    (base : Nat) (e : TypeId) (i : TypeInfo) (z : Value) (bytes : Nat) (ht : P.underlying t = some (.slice e)) (hi : P.info? e = some i) (hz : i.zero = some z)
    (hsize : i.size = 1) (hby : i.bytes = bytes) (hzs : z.cells.size = 1)
    (v : Value) (n : Nat) (xs : List Value) (hs : a.eval s = v) (hown : w.ownsRow base e 1 v n xs)
    (ao : Option Addr) (m c : Nat) (news : List Value) (hx : a.eval x = .slice ao m c) (hnil : ao = none → c = 0) (hl : news.length = m) (hnews : CellsAt w ao news) (h1 : ∀ u ∈ news, u.oneCell' = true)
    (h63 : n + m ≤ maxLen) (hbytes : (n + m) * bytes ≤ 140737488355328) (hbase : base ≤ w.heap.size)
    (h : ∀ v' w', w'.ownsRow base e 1 v' (n + m) (xs ++ news) → w.grownBy w' v.ownBlock → (v'.ownBlock = v.ownBlock ∨ v'.ownBlock = some w.heap.size) → wpList P ops Q rest (a.put o.dst v') w') :
    wpList P ops Q (o :: rest) a w := by
  cases ao with
  | none =>
    have hn : news = [] := by
      rcases hnews with h | ⟨b, off, h, _⟩
      · exact h
      · cases h
    subst hn
    have hm : m = 0 := by simpa using hl.symm
    have hc := hnil rfl
    subst hm hc
    exact wpList_append_own_none hgd s x t ho base e i 1 ht hi v n xs hs hown hx (h v w (by simpa using hown) ⟨rfl, rfl, rfl, Nat.le_refl _, fun _ _ _ => rfl⟩ (.inl rfl))
  | some ad =>
    refine wpList_append_own_at w hgd s x t ho base e i z 1 bytes ht hi hz hsize hby hzs (by decide) v n xs hs hown ad m c news hx (by omega) (fun j u hu => ?_) h1 h63 hbytes hbase (fun v' w' a1 a2 _ a4 => h v' w' a1 a2 a4)
    rcases hnews with hn | ⟨b, off, he, _, hcell⟩
    · rw [hn] at hu; simp at hu
    · simp only [Option.some.injEq] at he
      subst he
      have hj : j < news.length := (List.getElem?_eq_some_iff.1 hu).1
      rw [Go.WideShapes.add_plain, hcell j hj, hu]
end

/-- A string's bytes behind an owned row, in a loop: what it comes to. -/
theorem own_text_below {w wr w5 w6 : World} {B : Nat} {v : Value} {n : Nat} {xs : List Value} (hB : Below B w wr) (hBs : B ≤ w.heap.size) (hb : Below wr.heap.size wr w5) (hown : wr.ownsRow B 5 1 v n xs) (hg : w5.grownBy w6 v.ownBlock) : Below B w w6 := by
  have h1 := hB.size
  have h2 := hb.size
  exact (hB.trans (hb.mono (by omega))).grown hg (by omega) (fun k hk => (hown.lt k hk).1)
theorem own_keep_below {wr w5 : World} {B : Nat} {v : Value} {n : Nat} {xs : List Value} (hown : wr.ownsRow B 5 1 v n xs) (hb : Below wr.heap.size wr w5) : w5.ownsRow B 5 1 v n xs :=
  own_keep hown fun k hk => hb.block k (hown.lt k hk).2

def strVals (l : List ByteArray) : List Value := l.map Value.string
theorem texts_len_take (xs : List ByteArray) (k : Nat) : (texts ((xs.take k).map fun s => s.data.toList)).length ≤ (texts (xs.map fun s => s.data.toList)).length := by
  conv => rhs; rw [← List.take_append_drop k xs]
  rw [texts, texts, List.map_append, List.flatMap_append, List.length_append]
  omega

set_option maxRecDepth 100000 in
set_option maxHeartbeats 2000000 in
theorem refTexts_any (ao : Option Addr) (cap : Nat) (xs : List ByteArray) (w : World) (hc : CellsAt w ao (strVals xs)) (hlen : xs.length ≤ 140737488351232) (hsz : (texts (xs.map fun s => s.data.toList)).length ≤ 140737488355328) :
    Calls Try.prog 29 #[.slice ao xs.length cap] w fun e w' => e = .returned (.string ⟨(texts (xs.map fun s => s.data.toList)).toArray⟩) ∧ Below w.heap.size w w' := by
  obtain ⟨i0, hi0, hz0, hz1, hz2⟩ := info_parts info8
  go_enter Try.func29, Try.ntmps29
  go_wp2
  go_loopw [3, 8] (fun v i wr => ∃ k : Nat, k ≤ xs.length ∧ i = .int .i64 k ∧ Hid (wr.ownsRow w.heap.size 5 1 v (texts ((xs.take k).map fun s => s.data.toList)).length ((texts ((xs.take k).map fun s => s.data.toList)).map B8)) ∧ Hid (Below w.heap.size w wr)) (fun _ i _ => xs.length - (intOf i).toNat)
  case atStart => exact ⟨0, by omega, rfl, World.ownsRow_nil _ _ _ _, Below.refl _ _⟩
  case round =>
    obtain ⟨k, hk, rfl, HO, HB⟩ := hrel
    have hsr := HB.out.size
    by_cases hlt : k < xs.length
    · rcases hc.below HB.out with h0 | ⟨b, off, rfl, hbl, hcells⟩
      · have : xs.length = 0 := by have := congrArg List.length h0; simpa [strVals] using this
        omega
      have hck := hcells k (by simpa [strVals] using hlt)
      have HN := texts_snoc xs k hlt
      have HL1 := texts_len_take xs (k + 1)
      have hx : (strVals xs)[k]? = some (.string (xs.getD k ByteArray.empty)) := by simp [strVals, hlt]
      rw [hx] at hck
      rw [HN] at HL1
      have HN : Hid _ := HN
      generalize xs.getD k ByteArray.empty = s at *
      generalize texts ((xs.take k).map fun s => s.data.toList) = bs at *
      have hs := text_len s
      rw [List.length_append, hs] at HL1
      have HL : Hid (bs.length + ((enc s.size).length + s.size) ≤ 140737488355328) := by show _ ≤ _; omega
      have HT : Hid _ := hs
      clear HL1 hs hx hcells
      go_wp2_with fail
      refine (refText_any s _ (by have := HL.out; omega)).mono ?_
      rintro e w5 ⟨rfl, hb5⟩
      have hown5 := own_keep_below HO.out hb5
      have hsz5 := hb5.size
      obtain ⟨X, hX⟩ : ∃ X : ByteArray, X = ⟨(text s.data.toList).toArray⟩ := ⟨_, rfl⟩
      have HX : Hid (X.data.toList = text s.data.toList) := by rw [hX]; rfl
      rw [← hX]
      clear hX
      have HXs : Hid (X.size = (enc s.size).length + s.size) := by show _ = _; rw [Lib.size_eq, HX.out, HT.out]
      go_wp2_with (at_builtin; refine wpList_append_str_at _ rfl _ _ 26 9 rfl w.heap.size 5 i0 Try.underlying26 Try.underlying9 hi0 hz0 hz1 hz2 u3 bs.length (bs.map B8) rfl hown5 X rfl ?c1 ?c3 ?c2 ?_)
      case c1 => have := HL.out; have := HXs.out; unfold maxLen; omega
      case c2 => omega
      case c3 => have := HL.out; have := HXs.out; omega
      intro v' w6 hown6 hgrow6 hat6
      have HB6 : Hid _ := own_text_below HB.out (Nat.le_refl _) hb5 HO.out hgrow6
      have HO6 : Hid (w6.ownsRow w.heap.size 5 1 v' (bs ++ text s.data.toList).length ((bs ++ text s.data.toList).map B8)) := by
        show World.ownsRow _ _ _ _ _ _ _
        rw [List.length_append, List.map_append, ← HX.out, ← Lib.size_eq]; exact hown6
      clear hown6 hgrow6 hat6 hown5 hb5
      go_wp2
      go_roundw
      case rel => exact ⟨k + 1, by omega, by go_num, by rw [HN.out]; exact HO6, HB6⟩
      case measure => simp [intOf]; omega
    · have hk' : k = xs.length := by omega
      subst hk'
      rw [List.take_length] at HO
      have hstr := own_string HO.out
      go_wp2
      go_ret
      exact ⟨rfl, HB.out⟩

end Go.Proofs.Ytnhmabhcegiekaa.Pk
