/-
  The document's Seal, and the walk of the statement FrameSeals.
-/
import Derived.Test.YtckcoleaoleadaaFrameRef
import Derived.Test.YtckcoleaoleadaaFrameJoinsWalk
namespace Go.Proofs.Ytckcoleaoleadaa.Fr
open Go.RowKit Cm
set_option linter.unusedVariables false

set_option maxRecDepth 100000 in
set_option maxHeartbeats 2000000 in
theorem refSeal_any (ao : Option Addr) (cap : Nat) (xs : List ByteArray) (w : World) (hc : CellsAt w ao (strVals xs)) (hb : 8 * xs.length + total xs ≤ 70368744177600) :
    Calls Try.prog 13 #[.slice ao xs.length cap] w fun e w' => e = .returned (sealed xs) ∧ Below w.heap.size w w' := by
  obtain ⟨i0, hi0, hz0, hz1, hz2⟩ := info_parts info8
  have hlen : xs.length ≤ 70368744177600 := by omega
  go_enter Try.func13, Try.ntmps13
  go_wp2
  go_loopw [4, 9] (fun v i wr => ∃ k : Nat, k ≤ xs.length ∧ i = .int .i64 k ∧ Hid (∀ x ∈ xs.take k, x.size ≤ 65536) ∧ Hid (wr.ownsRow w.heap.size 5 1 v (framesB (xs.take k)).length ((framesB (xs.take k)).map B8)) ∧ Hid (Below w.heap.size w wr)) (fun _ i _ => xs.length - (intOf i).toNat)
  case atStart => exact ⟨0, by omega, rfl, fun x hx => by simp at hx, World.ownsRow_nil _ _ _ _, Below.refl _ _⟩
  case round =>
    obtain ⟨k, hk, rfl, HS, HO, HB⟩ := hrel
    have hsr := HB.out.size
    by_cases hlt : k < xs.length
    · rcases hc.below HB.out with h0 | ⟨b, off, rfl, hbl, hcells⟩
      · have : xs.length = 0 := by have := congrArg List.length h0; simpa [strVals] using this
        omega
      have hck := hcells k (by simpa [strVals] using hlt)
      have hx : (strVals xs)[k]? = some (.string (xs.getD k ByteArray.empty)) := by simp [strVals, hlt]
      have hmem : xs.getD k ByteArray.empty ∈ xs := by rw [getD_lt _ _ _ hlt]; exact List.getElem_mem hlt
      have hsz := size_total hmem
      have HN : Hid _ := framesB_snoc xs k hlt
      have HT : Hid (xs.take (k + 1) = xs.take k ++ [xs.getD k ByteArray.empty]) := by rw [getD_lt _ _ _ hlt]; exact List.take_succ_eq_append_getElem hlt
      have HL1 : Hid ((framesB (xs.take (k + 1))).length ≤ 70368744177600) := by have := framesB_take xs (k + 1); show _ ≤ _; omega
      rw [hx] at hck
      rw [HN.out, List.length_append, frame_len, ← Lib.size_eq] at HL1
      generalize xs.getD k ByteArray.empty = s at *
      have hsz : s.size ≤ 70368744177600 := by omega
      by_cases hbig : 65536 < s.size
      · have HA : Hid (sealed xs = .tuple #[.string ⟨#[]⟩, .int .i64 2]) := sealed_long (fun h => by have := h s hmem; omega)
        clear hcells hx HN HL1 hmem HT hb
        go_wp2
        go_ret2
        rw [HA.out]
        exact ⟨rfl, HB.out⟩
      · have HS1 : Hid (∀ x ∈ xs.take (k + 1), x.size ≤ 65536) := by
          intro x hx
          rw [HT.out] at hx
          rcases List.mem_append.1 hx with h | h
          · exact HS.out x h
          · simp at h; rw [h]; omega
        generalize framesB (xs.take k) = bs at *
        clear hcells hx hmem HT hb
        go_wp2_with fail
        refine (refFrame_any s (by omega) _).mono ?_
        rintro e w1 ⟨rfl, hb1⟩
        have hown1 := own_keep_below HO.out hb1
        have hs1 := hb1.size
        obtain ⟨F, hF⟩ : ∃ F, F = str (frame s.data.toList) := ⟨_, rfl⟩
        rw [← hF]
        have HFs : Hid (F.size = 8 + s.size) := by rw [hF, str_size, frame_len, ← Lib.size_eq]; exact hid_rfl
        have HFd : Hid (F.data.toList = frame s.data.toList) := by rw [hF]; exact hid_rfl
        clear hF
        go_wp2_with (at_builtin; refine wpList_append_str_at _ rfl _ _ 24 9 rfl w.heap.size 5 i0 Try.underlying24 Try.underlying9 hi0 hz0 hz1 hz2 u4 bs.length (bs.map B8) rfl hown1 F rfl ?c1 ?c3 ?c2 ?_)
        case c1 => have := HL1.out; have := HFs.out; unfold maxLen; omega
        case c2 => omega
        case c3 => have := HL1.out; have := HFs.out; omega
        intro v2 w2 hown2 hgrow2 hat2
        have HB2 : Hid (Below w.heap.size w w2) := own_text_below HB.out (Nat.le_refl _) hb1 HO.out hgrow2
        have HO2 : Hid (w2.ownsRow w.heap.size 5 1 v2 (framesB (xs.take (k + 1))).length ((framesB (xs.take (k + 1))).map B8)) := by rw [HN.out]; exact own_bytes HFd.out hown2
        clear hown1 hown2 hgrow2 hat2 hb1
        go_wp2
        go_roundw
        case rel => exact ⟨k + 1, by omega, by go_num, HS1, HO2, HB2⟩
        case measure => simp [intOf]; omega
    · have hk' : k = xs.length := by omega
      subst hk'
      rw [List.take_length] at HO HS
      have hstr := own_string HO.out
      have HA : Hid (sealed xs = .tuple #[.string (str (framesB xs)), .int .i64 0]) := sealed_ok HS.out
      go_wp2
      go_ret2
      rw [HA.out]
      exact ⟨rfl, HB.out⟩

theorem own_form {w : World} {B n : Nat} {v : Value} {vs : List Value} (h : w.ownsRow B 9 1 v n vs) (hn : 0 < n) : ∃ g cap, v = .slice (some ⟨g, 0, none⟩) n cap ∧ B ≤ g ∧ g < w.heap.size ∧ n ≤ cap ∧ CellsAt w (some ⟨g, 0, none⟩) vs := by
  obtain ⟨ao, c, hv, hc⟩ := own_cells h
  rcases h.2 with ⟨rfl, h0⟩ | ⟨g, cap, cur, rfl, hB, hg, hle, _⟩
  · omega
  · simp only [Value.slice.injEq] at hv
    obtain ⟨rfl, _, rfl⟩ := hv
    exact ⟨g, cap, rfl, hB, lt_of_block hg, by simpa using hle, hc⟩
/-- Two rows of texts, the second behind the first, of which the beginning is taken. -/
theorem cells_front {w : World} {ao : Option Addr} {xs : List ByteArray} {s : ByteArray} (h : CellsAt w ao (strVals (xs ++ [s]))) : ∃ b off, ao = some ⟨b, off, none⟩ ∧ CellsAt w (some ⟨b, off, none⟩) (strVals xs) ∧ w.cell? ⟨b, off + xs.length, none⟩ = some (.string s) := by
  rcases h with h | ⟨b, off, rfl, hlt, hc⟩
  · simp [strVals] at h
  · refine ⟨b, off, rfl, .inr ⟨b, off, rfl, hlt, fun j hj => ?_⟩, ?_⟩
    · have hj' : j < xs.length := by simpa [strVals] using hj
      rw [hc j (by simp [strVals]; omega)]
      simp [strVals, List.getElem?_append_left, hj']
    · rw [hc xs.length (by simp [strVals])]
      simp [strVals]

set_option maxRecDepth 100000 in
set_option maxHeartbeats 2000000 in
theorem seals_walk (ao : Option Addr) (ca : Nat) (xs : List ByteArray) (w : World) (hx : CellsAt w ao (strVals xs)) (nx : ao = none → ca = 0) (hb : 8 * xs.length + total xs ≤ 35184372088) :
    Calls Try.prog 4 #[.slice ao xs.length ca] w fun e w' => e = .returned (.bool true) ∧ Below w.heap.size w w' := by
  obtain ⟨i0, hi0, hz0, hz1, hz2⟩ := info_parts infoStr
  have hlx : xs.length ≤ 35184372088 := by omega
  have HBd : Hid (8 * xs.length + total xs ≤ 35184372088) := hb
  clear hb
  go_enter Try.func4, Try.ntmps4
  go_wp2_with fail
  refine (lives_any _).mono ?_
  rintro e w3 ⟨rfl, hB3⟩
  have hs3 := hB3.size
  have hx3 := (hx.below hB3).alloc (.cells #[] 9)
  go_wp2_with (at_builtin; refine wpList_append_any _ rfl _ _ 22 rfl w.heap.size 9 i0 (.string ⟨#[]⟩) 16 Try.underlying22 hi0 hz0 hz1 hz2 rfl _ 0 [] rfl (own_empty w3 _ hs3) ao xs.length ca (strVals xs) rfl nx (by simp [strVals]) hx3 ?c0 ?c1 ?c2 ?c3 ?_)
  case c0 => intro u hu; obtain ⟨x, _, rfl⟩ := List.mem_map.1 hu; rfl
  case c1 => unfold maxLen; omega
  case c2 => omega
  case c3 => simp; omega
  intro v4 w4 hown4 hgrow4 hat4
  have hB4 : Below w.heap.size w w4 := (hB3.alloc hs3 _).grown hgrow4 (by simp; omega) (fun k hk => ((own_empty w3 _ hs3).lt k hk).1)
  have hs4 := hB4.size
  clear hgrow4 hat4 hx3 hB3 hs3
  obtain ⟨P, hP⟩ : ∃ P : ByteArray, P = ⟨#[115, 112, 97, 114, 101]⟩ := ⟨_, rfl⟩
  go_wp2_with (at_builtin; refine wpList_append_any _ rfl _ _ 22 rfl w.heap.size 9 i0 (.string ⟨#[]⟩) 16 Try.underlying22 hi0 hz0 hz1 hz2 rfl v4 xs.length (strVals xs) rfl (hown4.alloc _) (some ⟨w4.heap.size, 0, none⟩) 1 1 (strVals [⟨#[115, 112, 97, 114, 101]⟩]) rfl (by simp) rfl (cells1' _) ?d0 ?d1 ?d2 ?d3 ?_)
  case d0 => intro u hu; obtain ⟨x, _, rfl⟩ := List.mem_map.1 hu; rfl
  case d1 => unfold maxLen; omega
  case d2 => omega
  case d3 => simp; omega
  intro v5 w5 hown5 hgrow5 hat5
  have hB5 : Below w.heap.size w w5 := (hB4.alloc hs4 _).grown hgrow5 (by simp; omega) (fun k hk => (hown4.lt k hk).1)
  have hs5 := hB5.size
  obtain ⟨g5, c5, rfl, hg5, hgl5, hcap5, hc5⟩ := own_form hown5 (by omega)
  have hc5 : CellsAt w5 (some ⟨g5, 0, none⟩) (strVals (xs ++ [⟨#[115, 112, 97, 114, 101]⟩])) := by rw [strVals, List.map_append]; exact hc5
  clear hgrow5 hat5 hown4 hown5 hB4 hs4 hP
  have hfr : ∀ w', Below w5.heap.size w5 w' → CellsAt w' (some ⟨g5, 0, none⟩) (strVals xs) ∧ w'.cell? ⟨g5, 0 + xs.length, none⟩ = some (.string ⟨#[115, 112, 97, 114, 101]⟩) := fun w' h => by
    obtain ⟨b, off, he, h1, h2⟩ := cells_front (hc5.below h)
    simp only [Option.some.injEq, Addr.mk.injEq] at he
    obtain ⟨rfl, rfl, _⟩ := he
    exact ⟨h1, h2⟩
  have HFr : Hid _ := hfr
  have hcapi : (xs.length : Int) ≤ (c5 : Int) := by omega
  clear hfr hc5
  go_wp2_with fail
  refine (seal_small (some ⟨g5, 0, none⟩) c5 xs _ (HFr.out _ (Below.refl _ _)).1 (by have := HBd.out; omega)).mono ?_
  rintro e w6 ⟨rfl, hb6⟩
  have hB6 : Below w.heap.size w w6 := hB5.trans (hb6.mono hs5)
  have hs6 := hB6.size
  have hz6 := hb6.size
  rw [sealed_eq]
  obtain ⟨tx, htx⟩ : ∃ t, t = text xs := ⟨_, rfl⟩
  obtain ⟨cx, hcx⟩ : ∃ t, t = code xs := ⟨_, rfl⟩
  rw [← htx, ← hcx]
  go_wp2_with fail
  refine (refSeal_any ao ca xs _ (hx.below hB6) (by have := HBd.out; omega)).mono ?_
  rintro e w7 ⟨rfl, hb7⟩
  have hB7 : Below w.heap.size w w7 := hB6.trans (hb7.mono hs6)
  have hf7 := HFr.out w7 (hb6.trans (hb7.mono hz6))
  rw [sealed_eq, ← htx, ← hcx]
  clear hb6 hb7 hB6 hs6 hz6 htx hcx
  go_wp2_with fail
  refine (same_any (some ⟨g5, 0, none⟩) ao c5 ca xs _ hf7.1 (hx.below hB7) (by omega)).mono ?_
  rintro e w8 ⟨rfl, n8, rfl⟩
  have hl8 : (w7.drewN n8).cell? ⟨g5, xs.length, none⟩ = some (.string ⟨#[115, 112, 97, 114, 101]⟩) := by have h := hf7.2; rw [Nat.zero_add] at h; exact h
  have hk0 : (0 : Int) ≤ (xs.length : Int) := by omega
  have hk1 : (xs.length : Int) < (xs.length : Int) + 1 := by omega
  go_wp2
  go_ret
  exact ⟨rfl, below_drew hB7⟩

end Go.Proofs.Ytckcoleaoleadaa.Fr
