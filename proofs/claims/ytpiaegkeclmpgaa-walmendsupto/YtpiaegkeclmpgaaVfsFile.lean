/-
  Package vfs: a file that is held, found, put, left behind a crash.
-/
import Derived.Test.YtpiaegkeclmpgaaVfsPower
import Derived.Test.YtpiaegkeclmpgaaCmClone
import Derived.Handy
namespace Go.Proofs.Ytpiaegkeclmpgaa.Vf
open Go.RowKit Cm
attribute [local go_sem ↓] Go.wp_at_zero Go.wp_at_succ
set_option linter.unusedVariables false

/-- What a store into the files' map comes to. -/
theorem FSX.stored {w w1 w2 : World} {S : Nat → Prop} {b bm : Nat} {fo : Option Nat} {V : Lit → Option Value} {s : St} {x : Name} {u : Value} {f : File}
    (hb : w.heap[b]? = some (head s fo bm)) (hSb : S b) (hSm : S bm) (hO : FatesO w S bm fo s.fates) (hM : MapAt w Try.prog 9 bm s.cnt V) (hF : Files w S V s.files (fun y => y = x))
    (hR : RowAt w S u f.bytes) (hs : f.synced ≤ f.bytes.length) (hap : ∀ y v m, y ≠ x → V (.string y) = some (fv v m) → u.ownBlock = none ∨ u.ownBlock ≠ v.ownBlock)
    (hxl : x.length ≤ 281474976710656) (h1 : Below w.heap.size w w1) (hM2 : MapAt w2 Try.prog 9 bm (if (V (.string x)).isSome then s.cnt else s.cnt + 1) (upd V (.string x) (some (fv u f.synced)))) (ht : w1.mapTurned w2 bm) :
    FSAt w2 S b (s.put x f) ∧ Chg S w w2 := by
  have hg := ht.grown
  have hsz := h1.size
  have hk : ∀ k, k < w.heap.size → k ≠ bm → w2.heap[k]? = w.heap[k]? := fun k hk hkm => (hg.block k (by omega) (by simpa using hkm)).trans (h1.block k hk)
  have hrow : ∀ {v : Value} {bs : List UInt8}, RowAt w S v bs → RowAt w2 S v bs := fun {v bs} hv => ⟨own_keep hv.1 fun k e => hk k (hv.1.lt k e).2 (by
    rintro rfl
    rcases hv.1.2 with ⟨rfl, _⟩ | ⟨g, cap, cur, rfl, _, hg', _⟩
    · simp [Value.ownBlock] at e
    · simp [Value.ownBlock] at e
      subst e
      exact hM.no_cells hg'), hv.2⟩
  refine ⟨⟨fo, bm, upd V (.string x) (some (fv u f.synced)), ?_, hSb, hSm, ?_, ?_, ?_⟩, (Chg.of_below h1).then (Chg.turned ht hSm)⟩
  · exact (hk b (lt_of_block hb) (by rintro rfl; exact hM.no_cells hb)).trans hb
  · rcases hO with h | ⟨bf, n, e, hn, hO⟩
    · exact .inl h
    · obtain ⟨h1, G, h2, h3⟩ := hO
      exact .inr ⟨bf, n, e, hn, h1, G, h2.keep (hk bf h2.lt hn), h3⟩
  · rw [hF.dom x] at hM2
    exact hM2
  · refine ⟨fun y => ?_, fun y hy => ?_, fun y g _ hg' => ?_, fun y z v n v' m hyz _ _ hy hz => ?_⟩
    · show _ = (setF _ _ _ y).isSome
      by_cases e : y = x
      · subst e; rw [upd_same _ (k := .string y) trivial, setF_same]; rfl
      · rw [upd_other _ (by simpa using e), setF_other _ _ e, hF.dom]
    · by_cases e : y = x
      · subst e; exact hxl
      · have hy : (setF s.files x (some f) y).isSome = true := hy
        rw [setF_other _ _ e] at hy
        exact hF.short y hy
    · have hg' : setF s.files x (some f) y = some g := hg'
      by_cases e : y = x
      · subst e
        rw [setF_same] at hg'
        cases hg'
        exact ⟨u, upd_same _ (k := .string y) trivial _, hrow hR, hs⟩
      · rw [setF_other _ _ e] at hg'
        obtain ⟨v, q1, q2, q3⟩ := hF.some_ y g e hg'
        exact ⟨v, by rw [upd_other _ (by simpa using e)]; exact q1, hrow q2, q3⟩
    · by_cases ey : y = x
      · subst ey
        rw [upd_same _ (k := .string y) trivial] at hy
        obtain ⟨rfl, _⟩ := fv_inj (Option.some.inj hy)
        rw [upd_other _ (by simpa using hyz.symm)] at hz
        exact hap z v' m hyz.symm hz
      · rw [upd_other _ (by simpa using ey)] at hy
        by_cases ez : z = x
        · subst ez
          rw [upd_same _ (k := .string z) trivial] at hz
          obtain ⟨rfl, _⟩ := fv_inj (Option.some.inj hz)
          rcases hap y v n ey hy with h | h
          · by_cases h0 : v.ownBlock = none
            · exact .inl h0
            · exact .inr (by rw [h]; exact h0)
          · exact .inr h.symm
        · rw [upd_other _ (by simpa using ez)] at hz
          exact hF.apart y z v n v' m hyz ey ez hy hz

set_option maxRecDepth 100000 in
set_option maxHeartbeats 500000 in
theorem hold_any (S : Nat → Prop) (b bm : Nat) (fo : Option Nat) (V : Lit → Option Value) (s : St) (x : ByteArray) (u : Value) (f : File) (w : World)
    (hb : w.heap[b]? = some (head s fo bm)) (hSb : S b) (hSm : S bm) (hO : FatesO w S bm fo s.fates) (hM : MapAt w Try.prog 9 bm s.cnt V) (hF : Files w S V s.files (fun y => y = x.data.toList))
    (hR : RowAt w S u f.bytes) (hs : f.synced ≤ f.bytes.length) (hap : ∀ y v m, y ≠ x.data.toList → V (.string y) = some (fv v m) → u.ownBlock = none ∨ u.ownBlock ≠ v.ownBlock)
    (hx : x.size ≤ 281474976710656) (hn : s.cnt < 9223372036854775807) :
    Calls Try.prog 28 #[.pointer (some ⟨b, 0, none⟩), .string x, fv u f.synced] w fun e w' => e = .returned (.tuple #[]) ∧ FSAt w' S b (s.put x.data.toList f) ∧ Chg S w w' := by
  have c4 : w.cell? ⟨b, 4, none⟩ = some (.map (some bm)) := by rw [Joins.cell_of_block hb]; rfl
  have hkey := keyOfS (s := x) (by unfold maxLen; omega)
  have HA : Hid _ := fun w1 w2 h1 hM2 ht => FSX.stored (w1 := w1) (w2 := w2) hb hSb hSm hO hM hF hR hs hap (by rw [← Lib.size_eq]; exact hx) h1 hM2 ht
  have HM : Hid (∀ w1, Below w.heap.size w w1 → MapAt w1 Try.prog 9 bm s.cnt V) := fun w1 h1 => hM.keep (h1.block bm hM.lt)
  have hform := own_form' hR.1
  have hlt := lt_of_block hb
  have hbm : b ≠ bm := by rintro rfl; exact hM.no_cells hb
  have hmlt := hM.lt
  clear hb hSb hSm hO hM hF hR hs hap hform
  have HK : Hid (∀ w2, Below (w.alloc (.cells #[u, .int .i64 f.synced] 64)).heap.size (w.alloc (.cells #[u, .int .i64 f.synced] 64)) w2 → w2.cell? ⟨b, 4, none⟩ = some (.map (some bm)) ∧ w2.cell? ⟨w.heap.size, 0, none⟩ = some u ∧ w2.cell? ⟨w.heap.size, 1, none⟩ = some (.int .i64 f.synced)) := fun w2 h2 => by
    have hbb := Below.heap_alloc w (.cells #[u, .int .i64 f.synced] 64) b hlt
    refine ⟨?_, ?_, ?_⟩
    · rw [World.cell?_of_block ((h2.block b (by simp; omega)).trans hbb)]; exact c4
    · rw [World.cell?_of_block (h2.block w.heap.size (by simp)), Joins.cell_of_block (heap_alloc_new w _)]; rfl
    · rw [World.cell?_of_block (h2.block w.heap.size (by simp)), Joins.cell_of_block (heap_alloc_new w _)]; rfl
  have HU : Hid (∀ w2, Below (w.alloc (.cells #[u, .int .i64 f.synced] 64)).heap.size (w.alloc (.cells #[u, .int .i64 f.synced] 64)) w2 → ∃ w3, (Instr.mapUpdate 41 (.map (some bm)) (.string x) (.agg #[u, .int .i64 f.synced])).run Try.prog w2 = .ok () w3 ∧ Hid (FSAt w3 S b (s.put x.data.toList f) ∧ Chg S w w3) ∧ Hid (w3.cell? ⟨b, 4, none⟩ = some (.map (some bm)) ∧ w3.cell? ⟨w.heap.size, 0, none⟩ = some u ∧ w3.cell? ⟨w.heap.size, 1, none⟩ = some (.int .i64 f.synced))) := fun w2 h2 => by
    have h2' : Below w.heap.size w w2 := ((Below.refl _ _).alloc (Nat.le_refl _) _).trans (h2.mono (by simp))
    obtain ⟨w3, hrun, h3, h4⟩ := (HM.out w2 h2').store (val := fv u f.synced) keyS Try.underlying41 (zeroFile w2) (by unfold maxLen; omega) hkey
    have hz := h2.size
    simp only [World.alloc, Array.size_push] at hz
    have hg : ∀ k, k < w2.heap.size → k ≠ bm → w3.heap[k]? = w2.heap[k]? := fun k hk hne => h4.grown.block k hk (by simpa using hne)
    obtain ⟨q1, q2, q3⟩ := HK.out w2 h2
    refine ⟨w3, hrun, HA.out w2 w3 h2' h3 h4, ?_, ?_, ?_⟩
    · rw [World.cell?_of_block (hg b (by omega) hbm)]; exact q1
    · rw [World.cell?_of_block (hg w.heap.size (by omega) (by omega))]; exact q2
    · rw [World.cell?_of_block (hg w.heap.size (by omega) (by omega))]; exact q3
  have H4 := (HK.out _ (Below.refl _ _))
  have k0 := H4.1
  have k1 := H4.2.1
  have k2 := H4.2.2
  clear H4
  unfold fv
  go_enter Try.func28, Try.ntmps28
  go_wp2_with fail
  go_region_held3 (fun w' => w'.cell? ⟨b, 4, none⟩ = some (.map (some bm)) ∧ w'.cell? ⟨w.heap.size, 0, none⟩ = some u ∧ w'.cell? ⟨w.heap.size, 1, none⟩ = some (.int .i64 f.synced)) (first | exact HR2.out | go_keep | exact HK.out _ ⟨hb2.os, hb2.tape, hb2.output, hb2.size, hb2.block⟩)
    ((go_at_call 22; refine (clone_any x _ hx).mono ?_; rintro e w2 ⟨rfl, hb2⟩; obtain ⟨w3, hrun, HR, HR2⟩ := HU.out w2 ⟨hb2.os, hb2.tape, hb2.output, hb2.size, hb2.block⟩))
  go_wp2
  go_end0
  exact ⟨rfl, HR.out.1, HR.out.2⟩

def zeroF : Value := .agg #[.slice none 0 0, .int .i64 0]
set_option maxRecDepth 100000 in
set_option maxHeartbeats 500000 in
theorem find_any (b bm : Nat) (fo : Option Nat) (V : Lit → Option Value) (s : St) (x : ByteArray) (w : World)
    (hb : w.heap[b]? = some (head s fo bm)) (hM : MapAt w Try.prog 9 bm s.cnt V) (hx : x.size ≤ 281474976710656) (hv : ∀ v, V (.string x.data.toList) = some v → ∃ ao l c n, v = fv (.slice ao l c) n) :
    Calls Try.prog 26 #[.pointer (some ⟨b, 0, none⟩), .string x] w fun e w' => e = .returned (.tuple #[if s.down then zeroF else (V (.string x.data.toList)).getD zeroF, .int .i64 (if s.down then 7 else if (V (.string x.data.toList)).isSome then 0 else 5)]) ∧ Below w.heap.size w w' := by
  have c3 : w.cell? ⟨b, 3, none⟩ = some (.bool s.down) := by rw [Joins.cell_of_block hb]; rfl
  have c4 : w.cell? ⟨b, 4, none⟩ = some (.map (some bm)) := by rw [Joins.cell_of_block hb]; rfl
  have hkey := keyOfS (s := x) (by unfold maxLen; omega)
  have hlt := lt_of_block hb
  have HM : Hid (∀ w1, Below w.heap.size w w1 → MapAt w1 Try.prog 9 bm s.cnt V) := fun w1 h1 => hM.keep (h1.block bm hM.lt)
  clear hb hM
  cases hd : s.down
  · rw [hd] at c3
    cases hV : V (.string x.data.toList) with
    | none =>
      have hrun := fun o => ((HM.out (w.alloc o) ((Below.refl _ _).alloc (Nat.le_refl _) _)).run_look_ok keyS Try.underlying41 (zeroFile _) hkey)
      rw [hV] at hrun
      simp only [Option.getD_none, Option.isSome_none] at hrun
      clear hv hd hV hkey
      go_enter Try.func26, Try.ntmps26
      go_wp2
      go_returns
      exact ⟨rfl, ((Below.refl _ _).alloc (Nat.le_refl _) _).alloc (by simp) _⟩
    | some v =>
      obtain ⟨ao, l, c, n, rfl⟩ := hv v hV
      have hrun := fun o => ((HM.out (w.alloc o) ((Below.refl _ _).alloc (Nat.le_refl _) _)).run_look_ok keyS Try.underlying41 (zeroFile _) hkey)
      rw [hV] at hrun
      simp only [Option.getD_some, Option.isSome_some, fv] at hrun
      clear hv hd hV hkey
      go_enter Try.func26, Try.ntmps26
      go_wp2
      go_returns
      exact ⟨rfl, ((Below.refl _ _).alloc (Nat.le_refl _) _).alloc (by simp) _⟩
  · rw [hd] at c3
    clear hv hd hkey
    go_enter Try.func26, Try.ntmps26
    go_wp2
    go_returns
    exact ⟨rfl, (Below.refl _ _).alloc (Nat.le_refl _) _⟩
end Go.Proofs.Ytpiaegkeclmpgaa.Vf
