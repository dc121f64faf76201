/-
  Package mem: 'raise' puts a new tower behind the way's.
-/
import Derived.Test.YtdaibmafnamfgaaMemRaise
import Derived.Laws.MakeOwn
namespace Go.Proofs.Ytdaibmafnamfgaa.Mm
open Go.RowKit Cm
set_option linter.unusedVariables false

theorem infoPN : (Try.prog.info? 70).map (fun i => (i.zero, i.size, i.bytes)) = some (some (.pointer none), 1, 8) := by kernel_rfl
theorem make_any (len : Nat) (h8 : len ≤ 8) : ∃ M : Array Value, M.size = len ∧ ∀ W : World, (Instr.makeSlice 42 (.int .i64 (len : Int)) (.int .i64 (len : Int))).run Try.prog W = .ok (.slice (some ⟨W.heap.size, 0, none⟩) len len) (W.alloc (.cells M 70)) := by
  obtain ⟨i, hi, hz, hsz, hby⟩ := info_parts infoPN
  refine ⟨madeCells (Value.pointer none).cells (len * i.size), by rw [size_madeCells, hsz]; omega, fun W => ?_⟩
  have := run_make (P := Try.prog) W 42 70 i (.pointer none) Try.underlying42 hi hz .i64 .i64 len len (by omega) (Int.le_refl _) (by rw [hby]; omega) (by omega)
  simpa using this

set_option maxRecDepth 100000 in
set_option maxHeartbeats 2000000 in
theorem raise_any (S : Nat → Prop) (b hb n m turn : Nat) (hv : Value) (hs : List Int) (pre post : List Nd) (e : En) (w : World) (hsk : Skip w S hb (pre ++ post)) (ht : w.heap[b]? = some (tabObj n m hb hv turn)) (hh : Hts w S hv hs turn) (hS : ∀ k, w.heap.size ≤ k → S k) (hSb : S b) :
    Calls Try.prog 43 #[.pointer (some ⟨b, 0, none⟩), wayV ⟨b, 2, hb⟩ pre, env e] w fun r w' => r = .returned (.tuple #[]) ∧ ∃ x nb h turn', 1 ≤ h ∧ Skip w' S hb (pre ++ ⟨x, nb, h, e⟩ :: post) ∧ w'.heap[b]? = some (tabObj n m hb hv turn') ∧ Hts w' S hv hs turn' ∧ Chg S w w' := by
  obtain ⟨gh, cap, rfl, hcell⟩ := hh.form
  have hpos := hh.pos
  have hsm := hh.small
  have hmem : hs.getD turn 0 ∈ hs := by rw [getD_lt _ _ _ hpos]; exact List.getElem_mem hpos
  obtain ⟨hlo, hhi⟩ := hh.ok _ hmem
  obtain ⟨len, hlen⟩ : ∃ len : Nat, hs.getD turn 0 = (len : Int) := ⟨(hs.getD turn 0).toNat, by omega⟩
  rw [hlen] at hcell hlo hhi
  clear hlen hmem
  have hl1 : 1 ≤ len := by omega
  have h8 : len ≤ 8 := by omega
  obtain ⟨M, hM, hmk⟩ := make_any len h8
  obtain ⟨w1, hw1⟩ : ∃ w1, w1 = (w.alloc (wayObj ⟨b, 2, hb⟩ pre)).alloc (entObj e) := ⟨_, rfl⟩
  have hlt := lt_of_block ht
  have hz1 : w1.heap.size = w.heap.size + 2 := by rw [hw1]; simp
  have k1 : ∀ j, j < w.heap.size → w1.heap[j]? = w.heap[j]? := fun j hj => by rw [hw1, Below.heap_alloc _ _ _ (by simp; omega), Below.heap_alloc _ _ _ hj]
  have ht1 : w1.heap[b]? = some (tabObj n m hb (.slice (some ⟨gh, 0, none⟩) hs.length cap) turn) := (k1 b hlt).trans ht
  have hgl : gh < w.heap.size := (hh.row.lt gh rfl).2
  have hc1 : w1.cell? ⟨gh, turn, none⟩ = some (.int .i64 (len : Int)) := (World.cell?_of_block (k1 gh hgl)).trans hcell
  have he1 : w1.heap[w.heap.size + 1]? = some (entObj e) := by
    rw [hw1]
    have := heap_alloc_new (w.alloc (wayObj ⟨b, 2, hb⟩ pre)) (entObj e)
    simpa using this
  have HNH : Hid (Calls Try.prog 55 #[.pointer (some ⟨b, 0, none⟩)] w1.drew fun r w' => r = .returned (.int .i64 (len : Int)) ∧ w'.heap[b]? = some (tabObj n m hb (.slice (some ⟨gh, 0, none⟩) hs.length cap) ((turn + 1) % hs.length)) ∧ Chg (fun k => k = b) w1 w') :=
    (nextHeight_any b n m hb turn gh hs.length cap len w1.drew ht1 hc1 hpos hsm).mono fun r w' hr => ⟨hr.1, hr.2.1, (Chg.drew _ w1 1).then hr.2.2⟩
  have htm : (turn + 1) % hs.length < hs.length := Nat.mod_lt _ (by omega)
  have HE : Hid (∀ w2, Chg (fun k => k = b) w1 w2 → w2.heap[w.heap.size + 1]? = some (entObj e)) := fun w2 h2 => (h2.block _ (lt_of_block he1) (by omega)).trans he1
  have HG : Hid (∀ w2, w2.heap[b]? = some (tabObj n m hb (.slice (some ⟨gh, 0, none⟩) hs.length cap) ((turn + 1) % hs.length)) → Chg (fun k => k = b) w1 w2 →
      Grow w S b hb n m ((turn + 1) % hs.length) (.slice (some ⟨gh, 0, none⟩) hs.length cap) hs pre post (w2.heap.size + 1) w2.heap.size len e w.heap.size 0 ((w2.alloc (.cells M 70)).alloc (nodeObj e w2.heap.size len))) := fun w2 h2 hc2 => Grow.born hsk ht hh hS hSb hw1 h2 htm hc2 hM h8
  obtain ⟨e0, e1, e2, e3, _⟩ := ent_cells he1
  generalize (turn + 1) % hs.length = turn' at *
  unfold wayObj entObj at hw1
  unfold nodeObj at HG
  unfold wayV env
  unfold Pos.val at *
  clear hsk ht hh hS hSb hcell k1 ht1 hc1 he1
  go_enter Try.func43, Try.ntmps43
  go_wp2_with fail
  rw [← hw1]
  clear hw1
  go_region_held3 (fun w' => w'.cell? ⟨w.heap.size + 1, 0, none⟩ = some (.string e.key) ∧ w'.cell? ⟨w.heap.size + 1, 1, none⟩ = some (.int .i64 e.seq) ∧ w'.cell? ⟨w.heap.size + 1, 2, none⟩ = some (.bool e.dead) ∧ w'.cell? ⟨w.heap.size + 1, 3, none⟩ = some (.string e.val)) (first | with_reducible exact ⟨e0, e1, e2, e3⟩ | with_reducible exact ⟨p3, p4, p5, p6⟩ | exact ⟨by assumption, by assumption, by assumption, by assumption⟩ | go_keep)
    ((go_at_call 55; refine (show Calls _ _ _ _ _ from HNH.out).mono ?_; rintro r w2 ⟨rfl, h2, hc2⟩; obtain ⟨p3, p4, p5, p6, _⟩ := ent_cells (HE.out w2 hc2); have hl2 := lt_of_block (HE.out w2 hc2)))
  have G0 : Hid _ := HG.out w2 h2 hc2
  clear HG HE HNH h2 hc2 p3 p4 p5 p6 e0 e1 e2 e3 hmk
  generalize (w2.alloc (.cells M 70)).alloc (.cells #[.string e.key, .int .i64 e.seq, .bool e.dead, .string e.val, .slice (some ⟨w2.heap.size, 0, none⟩) len len] 44) = W at *
  generalize w2.heap.size + 1 = x at *
  generalize w2.heap.size = nb at *
  have c4 := (Grow.links G0.out hl1).1
  generalize lastAt 0 ⟨b, 2, hb⟩ pre = L0
  generalize lastAt 1 ⟨b, 2, hb⟩ pre = L1
  generalize lastAt 2 ⟨b, 2, hb⟩ pre = L2
  generalize lastAt 3 ⟨b, 2, hb⟩ pre = L3
  generalize lastAt 4 ⟨b, 2, hb⟩ pre = L4
  generalize lastAt 5 ⟨b, 2, hb⟩ pre = L5
  generalize lastAt 6 ⟨b, 2, hb⟩ pre = L6
  generalize lastAt 7 ⟨b, 2, hb⟩ pre = L7
  go_wp2
  go_loopw [19] (fun i wr => ∃ k : Nat, k ≤ len ∧ i = .int .i64 k ∧ Hid (Grow w S b hb n m turn' (.slice (some ⟨gh, 0, none⟩) hs.length cap) hs pre post x nb len e w.heap.size k wr)) (fun i _ => len - (intOf i).toNat)
  case atStart => exact ⟨0, by omega, rfl, G0⟩
  case round =>
    obtain ⟨k, hk, rfl, HK⟩ := hrel
    by_cases hlt : k < len
    · obtain ⟨q1, q2, ⟨l2, q3, q4⟩, q5, ⟨v6, q6⟩, q7⟩ := Grow.links HK.out hlt
      have HH : Hid _ := Grow.half HK.out hlt (v := ptr (first k post)) rfl
      unfold Pos.val at q2 HH
      unfold ptr at q5 HH
      generalize first k post = F at *
      generalize lastAt k ⟨b, 2, hb⟩ pre = P at *
      have hk0 : (0 : Int) ≤ (k : Int) := by omega
      have hk1 : (k : Int) < (len : Int) := by omega
      have hk2 : (k : Int) < (l2 : Int) := by omega
      have hk8 : (k : Int) < 8 := by omega
      clear c4 G0
      go_wp2_with fail
      go_region
      obtain ⟨r1, ⟨l3, r2, r3⟩, ⟨u, r4⟩, r5, r6⟩ := HH.out
      have HR : Hid _ := r6
      clear r6 HH HK q1 q2 q3 q4 q5 q6 q7
      generalize wr.setCell ⟨nb, k, none⟩ (.pointer (Option.map (fun n => { block := n.blk, off := 0 }) F)) = w5 at *
      have hk3 : (k : Int) < (l3 : Int) := by omega
      go_wp2
      go_roundw
      case rel => exact ⟨k + 1, by omega, by go_num, Grow.drew HR.out 1⟩
      case measure => simp [intOf]; omega
    · obtain rfl : k = len := by omega
      go_wp2
      go_end0
      exact ⟨rfl, x, nb, k, turn', hl1, HK.out.skip, HK.out.tab, HK.out.hts, HK.out.chg⟩
end Go.Proofs.Ytdaibmafnamfgaa.Mm
