/-
  Package vfs: what is left of a file behind a crash; a slice of bytes cloned.
-/
import Derived.Test.YtpiaegkeclmpgaaVfsFile
import Derived.Lib.SliceRun
namespace Go.Proofs.Ytpiaegkeclmpgaa.Vf
open Go.RowKit Cm
attribute [local go_sem ↓] Go.wp_at_zero Go.wp_at_succ
set_option linter.unusedVariables false

theorem own_base {w : World} {B C n : Nat} {e : TypeId} {v : Value} {xs : List Value} (h : w.ownsRow B e 1 v n xs) (hc : C ≤ B) : w.ownsRow C e 1 v n xs := by
  refine ⟨h.1, ?_⟩
  rcases h.2 with h | ⟨g, cap, cur, rfl, h1, h2⟩
  · exact .inl h
  · exact .inr ⟨g, cap, cur, rfl, by omega, h2⟩
theorem empty_row (w : World) (t : TypeId) : (w.alloc (.cells #[] t)).ownsRow w.heap.size t 1 (.slice (some ⟨w.heap.size, 0, none⟩) 0 0) 0 [] :=
  ⟨rfl, .inr ⟨w.heap.size, 0, #[], rfl, Nat.le_refl _, heap_alloc_new w _, Nat.le_refl _, by decide, rfl, rfl⟩⟩

set_option maxRecDepth 100000 in
set_option maxHeartbeats 500000 in
theorem bclone_any (ao : Option Addr) (cap : Nat) (bs : List UInt8) (w : World) (hc : CellsAt w ao (bs.map B8)) (hn : ao = none → cap = 0 ∧ bs = []) (hl : bs.length ≤ 140737488355328) :
    Calls Try.prog 38 #[.slice ao bs.length cap] w fun e w' => ∃ u, e = .returned u ∧ w'.ownsRow w.heap.size 5 1 u bs.length (bs.map B8) ∧ Below w.heap.size w w' := by
  obtain ⟨i0, hi, hz0, hz1, hz2⟩ := info_parts info8
  have h63 : bs.length ≤ maxLen := by unfold maxLen; omega
  have hq : ∀ (w : World) (a : Option Addr) (l c : Nat), (binOp .eql 62 (.slice a l c) (.slice none 0 0)).run Try.prog w = .ok (.bool a.isNone) w := fun w a l c => Lib.run_eql_slice_nil w 62 5 a l c 0 0 Try.underlying62
  cases ao with
  | none =>
    obtain ⟨rfl, rfl⟩ := hn rfl
    simp only [List.length_nil]
    go_enter Try.func38, Try.ntmps38
    go_wp2
    go_ret
    exact ⟨_, rfl, World.ownsRow_nil _ _ _ _, Below.refl _ _⟩
  | some ad =>
    have hc1 := hc.alloc (.cells #[] 5)
    clear hc hn
    go_enter Try.func38, Try.ntmps38
    go_wp2_with (at_builtin; refine wpList_append_any _ rfl _ _ 62 rfl w.heap.size 5 i0 (.int .u8 0) 1 Try.underlying62 hi hz0 hz1 hz2 rfl _ 0 [] rfl (empty_row w _) (some ad) bs.length cap (bs.map B8) rfl (by simp) (by simp) hc1 ?c2 ?c3 ?c4 ?c5 ?_)
    case c2 => intro u hu; obtain ⟨x, _, rfl⟩ := List.mem_map.1 hu; rfl
    case c3 => omega
    case c4 => omega
    case c5 => simp
    intro v' w1 hown1 hgrow hat
    have HO : Hid (w1.ownsRow w.heap.size 5 1 v' bs.length (bs.map B8)) := by show World.ownsRow _ _ _ _ _ _ _; simpa using hown1
    have HB : Hid (Below w.heap.size w w1) := by
      have h1 : Below w.heap.size w (w.alloc (.cells #[] 5)) := (Below.refl _ _).alloc (Nat.le_refl _) _
      exact h1.grown hgrow (by simp) (fun k hk => by simp [Value.ownBlock] at hk; omega)
    clear hown1 hgrow hat hc1
    go_wp2
    go_ret
    exact ⟨_, rfl, HO.out, HB.out⟩

theorem minmax {L s : Nat} {k : Int} (hs : s ≤ L) : (s : Int) + min (max k 0) ((L : Int) - s) = ((s + (min (max k 0) ((L : Int) - s)).toNat : Nat) : Int) ∧ s + (min (max k 0) ((L : Int) - s)).toNat ≤ L := by
  constructor <;> omega
set_option maxRecDepth 100000 in
set_option maxHeartbeats 500000 in
theorem left_any (S : Nat → Prop) (u : Value) (f : File) (k : Int) (w : World) (hR : RowAt w S u f.bytes) (hs : f.synced ≤ f.bytes.length) (hl : f.bytes.length ≤ 140737488355328) :
    Calls Try.prog 29 #[fv u f.synced, .int .i64 k] w fun e w' => ∃ u', e = .returned (fv u' (f.left k).synced) ∧ w'.ownsRow w.heap.size 5 1 u' (f.left k).bytes.length ((f.left k).bytes.map B8) ∧ (f.left k).synced ≤ (f.left k).bytes.length ∧ Below w.heap.size w w' := by
  obtain ⟨hm1, hm2⟩ := minmax (k := k) hs
  obtain ⟨n, hn⟩ : ∃ n, n = f.synced + (min (max k 0) ((f.bytes.length : Int) - f.synced)).toNat := ⟨_, rfl⟩
  have HL : Hid (f.left k = ⟨f.bytes.take n, n⟩) := by rw [hn]; exact hid_rfl
  rw [← hn] at hm1 hm2
  clear hn
  rw [HL.out]
  obtain ⟨ao, cap, rfl, hc, hcn, hcap⟩ : ∃ ao cap, u = .slice ao f.bytes.length cap ∧ CellsAt w ao (f.bytes.map B8) ∧ (ao = none → cap = 0 ∧ f.bytes = []) ∧ f.bytes.length ≤ cap := by
    have hlen : (f.bytes.map B8).length = f.bytes.length := by simp
    rcases hR.1.2 with ⟨rfl, h0⟩ | ⟨g, cap, cur, rfl, _, hg, hle, _⟩
    · have hb : f.bytes = [] := List.eq_nil_of_length_eq_zero h0
      rw [hb]
      exact ⟨none, 0, rfl, .inl rfl, fun _ => ⟨rfl, rfl⟩, Nat.le_refl _⟩
    · refine ⟨some ⟨g, 0, none⟩, cap, rfl, .inr ⟨g, 0, rfl, lt_of_block hg, fun j hj => ?_⟩, fun h => by simp at h, hle⟩
      have hj' : j < f.bytes.length := by simpa using hj
      have := hR.1.cells (g := g) rfl j (B8 f.bytes[j]) (by simp [hj'])
      rw [Go.WideShapes.add_plain] at this
      rw [this]; simp [hj']
  have hnc : n ≤ cap := by omega
  have HT : Hid ((f.bytes.take n).length = n) := by show _ = _; rw [List.length_take]; omega
  have HC : Hid (∀ w1, Below w.heap.size w w1 → CellsAt w1 ao ((f.bytes.take n).map B8)) := fun w1 h1 => by
    have h2 := hc.below h1
    rcases h2 with h2 | ⟨g, off, e, hlt, hcell⟩
    · exact .inl (by rw [List.map_take, h2]; simp)
    · refine .inr ⟨g, off, e, hlt, fun j hj => ?_⟩
      rw [List.length_map, List.length_take] at hj
      rw [hcell j (by simp; omega)]
      rw [List.map_take, List.getElem?_take_of_lt (by omega)]
  have HN : Hid (ao = none → cap = 0 ∧ f.bytes.take n = []) := fun e => ⟨(hcn e).1, by rw [(hcn e).2]; simp⟩
  clear hR hc hcn
  unfold fv
  go_enter Try.func29, Try.ntmps29
  go_wp2_with fail
  have hb := bclone_any ao cap (f.bytes.take n) ((w.alloc (.cells #[.slice ao f.bytes.length cap, .int .i64 f.synced] 64)).alloc (.cells #[.slice none 0 0, .int .i64 0] 64)) (HC.out _ (((Below.refl _ _).alloc (Nat.le_refl _) _).alloc (by simp) _)) HN.out (by rw [HT.out]; omega)
  rw [HT.out] at hb
  refine hb.mono ?_
  rintro e w1 ⟨u', rfl, hown, hB⟩
  clear hb
  have HB : Hid (Below w.heap.size w w1) := (((Below.refl _ _).alloc (Nat.le_refl _) _).alloc (by simp) _).trans (hB.mono (by simp; omega))
  have HO : Hid (w1.ownsRow w.heap.size 5 1 u' n ((f.bytes.take n).map B8)) := own_base hown (by simp; omega)
  have hform := own_form' hown
  have hblk : w1.heap[w.heap.size + 1]? = some (.cells #[.slice none 0 0, .int .i64 0] 64 (0, 0)) := by
    rw [hB.block (w.heap.size + 1) (by simp)]
    simpa using heap_alloc_new (w.alloc (.cells #[.slice ao f.bytes.length cap, .int .i64 f.synced] 64)) (.cells #[.slice none 0 0, .int .i64 0] 64)
  have hfar := own_far hown hblk (by decide)
  obtain ⟨q0, q1, q2, q3⟩ := box2 hblk
  obtain ⟨g0, g1⟩ := box2_set hblk u' (.int .i64 n)
  have HF : Hid (((w1.setCell ⟨w.heap.size + 1, 0, none⟩ u').setCell ⟨w.heap.size + 1, 1, none⟩ (.int .i64 n)).ownsRow w.heap.size 5 1 u' n ((f.bytes.take n).map B8) ∧ Below w.heap.size w ((w1.setCell ⟨w.heap.size + 1, 0, none⟩ u').setCell ⟨w.heap.size + 1, 1, none⟩ (.int .i64 n))) :=
    ⟨ownsRow_setCell_other (ownsRow_setCell_other HO.out hfar _) hfar _, (HB.out.setCell (by simp) _).setCell (by simp) _⟩
  clear hown hB hblk hfar HO HB
  rcases hform with rfl | ⟨g, c, rfl⟩
  · go_wp2
    refine bodyPost_ret (by simp [results, Try.results29, go_sem, g0, g1]; try rfl) rfl ?_
    refine ⟨_, rfl, ?_⟩
    rw [HT.out]
    exact ⟨HF.out.1, Nat.le_refl _, HF.out.2⟩
  · go_wp2
    refine bodyPost_ret (by simp [results, Try.results29, go_sem, g0, g1]; try rfl) rfl ?_
    refine ⟨_, rfl, ?_⟩
    rw [HT.out]
    exact ⟨HF.out.1, Nat.le_refl _, HF.out.2⟩
end Go.Proofs.Ytpiaegkeclmpgaa.Vf
