/-
  Package mem: the versions behind a tower; all of them; those from a key on.
-/
import Derived.Test.YtdaibmafnamfgaaMemPutWalk
namespace Go.Proofs.Ytdaibmafnamfgaa.Mm
open Go.RowKit Cm
set_option linter.unusedVariables false

theorem idx_way (a0 a1 a2 a3 a4 a5 a6 a7 : Option Addr) (W : World) : (Instr.index 72 (.agg #[.pointer a0, .pointer a1, .pointer a2, .pointer a3, .pointer a4, .pointer a5, .pointer a6, .pointer a7]) (.int .i64 0)).run Try.prog W = .ok (.pointer a0) W := by kernel_rfl

set_option maxRecDepth 100000 in
set_option maxHeartbeats 2000000 in
theorem behind_any (p : Pos) (h : Nat) (ns : List Nd) (w : World) (hp : PosAt w p h ns) (h1 : 1 ≤ h) (hc : Chain w [] ns) (hh : ∀ x ∈ ns, 1 ≤ x.h) (hl : ns.length ≤ 1000000000000) :
    Calls Try.prog 29 #[p.val] w fun e w' => ∃ v, e = .returned v ∧ w'.ownsRow w.heap.size 28 4 v ns.length (enShape.vals (ns.map Nd.e)) ∧ Below w.heap.size w w' := by
  obtain ⟨i0, hi, hz0, hz1, hz2⟩ := info_parts infoEn
  obtain ⟨len, c4, hlen, _, _, hcell⟩ := hp
  have cn := hcell 0 (by omega)
  rw [first_zero hh] at cn
  have hl0 : (0 : Int) < (len : Int) := by omega
  have HN : Hid (∀ wr, Below w.heap.size w wr → ∀ a x c, ns = a ++ x :: c → NodeAt wr x c ∧ 1 ≤ x.h ∧ (∀ y ∈ c, 1 ≤ y.h)) := fun wr hb a x c e => by
    have hch := hc
    rw [e, Chain.append] at hch
    have hn : NodeAt w x c := by have := hch.2.1; rwa [List.append_nil] at this
    obtain ⟨l3, q1, q2⟩ := id hn
    obtain ⟨cs, q3, _⟩ := q2
    exact ⟨hn.keep (hb.block _ (lt_of_block q1)) (hb.block _ (lt_of_block q3)), hh x (by rw [e]; simp), fun y hy => hh y (by rw [e]; simp [hy])⟩
  clear hcell hc hh hlen
  unfold Pos.val
  unfold ptr at cn
  go_enter Try.func29, Try.ntmps29
  go_wp2
  go_loopg [3, 4] ns.length (fun g v n wr => ∃ (a c : List Nd), Hid (ns = a ++ c) ∧ c.length = g ∧ n = ptr c.head? ∧ Hid (wr.ownsRow w.heap.size 28 4 v a.length (enShape.vals (a.map Nd.e))) ∧ Hid (Below w.heap.size w wr))
  case atStart => exact ⟨[], ns, hid_rfl, rfl, rfl, World.ownsRow_nil _ _ _ _, Below.refl _ _⟩
  case round =>
    obtain ⟨a, c, HE, hcg, rfl, HO, HB⟩ := hrel
    cases c with
    | nil =>
      have ea : a = ns := by have := HE.out; simpa using this.symm
      subst ea
      unfold ptr
      simp only [List.head?_nil, Option.map_none]
      go_wp2
      go_ret
      exact ⟨_, rfl, HO.out, HB.out⟩
    | cons x c =>
      obtain ⟨hn, hx1, hc1⟩ := HN.out wr HB.out a x c HE.out
      obtain ⟨z0, z1, z2, z3, _⟩ := hn.cells
      have HNw : Hid (∀ w5, Below w.heap.size w w5 → _) := fun w5 h5 => HN.out w5 h5 a x c HE.out
      have hal : a.length + 1 ≤ 1000000000000 := by have := congrArg List.length HE.out; simp at this; omega
      have hbs := HB.out.size
      have HEn : Hid (ns = (a ++ [x]) ++ c) := by rw [HE.out]; simp [Hid]
      have helm : ElemsAt enShape (wr.alloc (.cells #[.string x.e.key, .int .i64 x.e.seq, .bool x.e.dead, .string x.e.val] 28)) (some ⟨wr.heap.size, 0, none⟩) [x.e] := elems1 x.e
      unfold ptr
      simp only [List.head?_cons, Option.map_some]
      clear hn HN HE
      go_wp2_with (at_builtin; refine wpList_append_rows (F := enShape) _ rfl _ _ 22 rfl w.heap.size 28 i0 _ 48 Try.underlying22 hi hz0 hz1 hz2 rfl _ a.length (a.map Nd.e) rfl (World.ownsRow.alloc HO.out _) (some ⟨wr.heap.size, 0, none⟩) 1 1 [x.e] rfl (by simp) rfl helm ?c1 ?c2 ?c3 ?_)
      case c1 => unfold maxLen; omega
      case c2 => omega
      case c3 => simp; omega
      intro v5 w5 hown5 hgrow5 hat5
      have HB5 : Hid (Below w.heap.size w w5) := (HB.out.alloc hbs _).grown hgrow5 (by simp; omega) (fun k hk => (World.ownsRow.lt HO.out k hk).1)
      have HO5 : Hid (w5.ownsRow w.heap.size 28 4 v5 (a ++ [x]).length (enShape.vals ((a ++ [x]).map Nd.e))) := by rw [List.length_append, List.map_append]; exact hown5
      obtain ⟨hn5, _, _⟩ := HNw.out w5 HB5.out
      obtain ⟨len5, d4, hlen5, _, _, hcell5⟩ := hn5.pos
      have dn := hcell5 0 (by omega)
      rw [first_zero hc1] at dn
      have hl5 : (0 : Int) < (len5 : Int) := by omega
      unfold Nd.pos at d4 dn
      unfold ptr at dn
      simp only [Nat.zero_add] at d4 dn
      clear hown5 hgrow5 hat5 hn5 hcell5 HNw HO HB z0 z1 z2 z3 helm
      go_wp2
      go_roundg c.length
      case measure => simp at hcg; omega
      case rel => exact ⟨a ++ [x], c, HEn, rfl, rfl, HO5, HB5⟩

/-- A table's lists. -/
theorem allS {S : Nat → Prop} {b : Nat} {vs : List En} (w : World) (h : Tab w S b vs) (hl : vs.length ≤ 1000000000000) :
    Calls Try.prog 12 #[.pointer (some ⟨b, 0, none⟩)] w fun e w' => ∃ v, e = .returned v ∧ w'.ownsRow w.heap.size 28 4 v vs.length (enShape.vals vs) ∧ Below w.heap.size w w' := by
  obtain ⟨hb, turn, hv, hs, ns, h1, rfl, h3, h4, h5⟩ := h
  have HB : Hid _ := behind_any ⟨b, 2, hb⟩ 8 ns w (h1.skip.pos h1.tab (a := []) (c := ns) rfl) (by decide) h1.skip.chain h3 (by simpa using hl)
  unfold Pos.val at HB
  rw [List.length_map]
  clear h1 h3 h4 h5 hl
  go_enter Try.func12, Try.ntmps12
  go_wp2_with fail
  refine (show Calls _ _ _ _ _ from HB.out).mono ?_
  rintro r w1 ⟨v, rfl, ho, hb1⟩
  go_wp2
  go_ret
  exact ⟨v, rfl, ho, hb1⟩
end Go.Proofs.Ytdaibmafnamfgaa.Mm
