/-
  Package mem: versions added, a version found.
-/
import Derived.Test.YtdaibmafnamfgaaMemLists
namespace Go.Proofs.Ytdaibmafnamfgaa.Mm
open Go.RowKit Cm
set_option linter.unusedVariables false

theorem putS {S : Nat → Prop} {b : Nat} {vs : List En} (y : En) (w : World) (h : Tab w S b vs) (hS : ∀ k, w.heap.size ≤ k → S k) (hy : y.ok) (hl : vs.length ≤ 100000000000) (hm : bytesE vs ≤ 100000000000) (hz : sizeE y ≤ 100000000000) :
    Calls Try.prog 19 #[.pointer (some ⟨b, 0, none⟩), env y] w fun r w' => r = .returned (.tuple #[]) ∧ Tab w' S b (putOne vs y) ∧ Chg S w w' := by
  obtain ⟨hb, turn, hv, hs, ns, h1, rfl, h3, h4, h5⟩ := h
  rw [List.length_map] at h1 hl
  refine (put_walk S b hb turn hv hs ns y w h1 h4 h3 hS hl hm hz).mono ?_
  rintro r w' ⟨rfl, ⟨n', m', turn', ns', q1, q2, rfl, rfl, q5⟩, q6⟩
  refine ⟨rfl, ⟨hb, turn', hv, hs, ns', ?_, q2, q5, h4.put y, h5.put hy⟩, q6⟩
  rw [← q2, List.length_map]
  exact q1

set_option maxRecDepth 100000 in
set_option maxHeartbeats 1000000 in
theorem addS {S : Nat → Prop} {b : Nat} {vs : List En} (ao : Option Addr) (cap : Nat) (xs : List En) (w : World) (h : Tab w S b vs) (hS : ∀ k, w.heap.size ≤ k → S k) (hx : ElemsAt enShape w ao xs) (hap : xs ≠ [] → ∀ ad, ao = some ad → ¬ S ad.block) (hok : AllOk xs)
    (hl : vs.length + xs.length ≤ 100000000000) (hm : bytesE vs + bytesE xs ≤ 100000000000) :
    Calls Try.prog 9 #[.pointer (some ⟨b, 0, none⟩), .slice ao xs.length cap] w fun r w' => r = .returned (.tuple #[]) ∧ Tab w' S b (addAll vs xs) ∧ Chg S w w' := by
  have HX : Hid (∀ wr, Chg S w wr → ElemsAt enShape wr ao xs) := fun wr hc => by
    by_cases h0 : xs = []
    · exact .inl h0
    · exact hx.keep (fun a e hlt => hc.block _ hlt (hap h0 a e)) hc.size
  have hxl : xs.length ≤ 100000000000 := by omega
  have HT : Hid (Tab w S b vs) := h
  have HP : Hid (∀ wr k, k < xs.length → Chg S w wr → Tab wr S b (addAll vs (xs.take k)) → Calls Try.prog 19 #[.pointer (some ⟨b, 0, none⟩), env (clean (xs.getD k En.zero))] wr fun r w' => r = .returned (.tuple #[]) ∧ Tab w' S b (addAll vs (xs.take (k + 1))) ∧ Chg S wr w') := fun wr k hk hc ht => by
    have hl1 := addAll_len vs (xs.take k)
    have hb1 := bytes_at hk
    have hz := sizeE_clean (xs.getD k En.zero)
    have hle : (xs.take k).length ≤ xs.length := by rw [List.length_take]; omega
    have := putS (clean (xs.getD k En.zero)) wr ht (fun j hj => hS j (Nat.le_trans hc.size hj)) (clean_ok (hok _ (by rw [getD_lt _ _ _ hk]; exact List.getElem_mem hk))) (by omega) (by omega) (by omega)
    rw [putOne_clean, ← addAll_snoc, ← take_at hk] at this
    exact this
  have HO : Hid (∀ wr k, k < xs.length → Calls Try.prog 20 #[env (xs.getD k En.zero)] wr fun r w' => r = .returned (env (clean (xs.getD k En.zero))) ∧ Below wr.heap.size wr w') := fun wr k hk => own_any _ wr (by have := bytes_at hk; omega)
  clear h hx hap hok hl hm
  unfold env at HP HO
  go_enter Try.func9, Try.ntmps9
  go_wp2
  go_loopw [8] (fun i wr => ∃ k : Nat, k ≤ xs.length ∧ i = .int .i64 k ∧ Hid (Tab wr S b (addAll vs (xs.take k))) ∧ Hid (Chg S w wr)) (fun i _ => xs.length - (intOf i).toNat)
  case atStart => exact ⟨0, by omega, rfl, HT, Chg.refl _ _⟩
  case round =>
    obtain ⟨k, hk, rfl, HTk, HC⟩ := hrel
    by_cases hlt : k < xs.length
    · obtain ⟨pb, off, rfl, c0, c1, c2, c3⟩ := elem_cells (HX.out wr HC.out) hlt
      have HPk : Hid (∀ wq, Below wr.heap.size wr wq → _) := fun wq hq => HP.out wq k hlt (HC.out.then (Chg.of_below hq)) (Tab.below HTk.out hq)
      have HOk : Hid (∀ wq, _) := fun wq => HO.out wq k hlt
      have HCk : Hid (∀ wq wz, Below wr.heap.size wr wq → Chg S wq wz → Chg S w wz) := fun wq wz h1 h2 => (HC.out.then (Chg.of_below h1)).then h2
      generalize xs.getD k En.zero = y at *
      generalize clean y = y' at *
      have hk0 : (0 : Int) ≤ (k : Int) := by omega
      have hk1 : (k : Int) < (xs.length : Int) := by omega
      clear HP HO HTk HC
      go_wp2_with fail
      refine (show Calls _ _ _ _ _ from HOk.out _).mono ?_
      rintro r w2 ⟨rfl, hb2⟩
      have hbq : Below wr.heap.size wr w2 := ((Below.refl _ _).alloc (Nat.le_refl _) _).trans (hb2.mono (by simp))
      have HPq : Hid _ := HPk.out w2 hbq
      have HCq : Hid (∀ wz, Chg S w2 wz → Chg S w wz) := fun wz hz => HCk.out w2 wz hbq hz
      clear hb2 hbq HPk HCk HOk
      go_wp2_with fail
      refine (show Calls _ _ _ _ _ from HPq.out).mono ?_
      rintro r w3 ⟨rfl, ht3, hc3⟩
      have HT3 : Hid _ := ht3
      have HC3 : Hid _ := HCq.out w3 hc3
      clear ht3 hc3 HPq HCq
      go_wp2
      go_roundw
      case rel => exact ⟨k + 1, by omega, by go_num, HT3, HC3⟩
      case measure => simp [intOf]; omega
    · obtain rfl : k = xs.length := by omega
      rw [List.take_length] at HTk
      go_wp2
      go_end0
      exact ⟨rfl, HTk.out, HC.out⟩
def foundV (o : Option En) : Value := .tuple #[env (o.getD En.zero), .bool o.isSome]
end Go.Proofs.Ytdaibmafnamfgaa.Mm
