/-
  Package frame: what Seal answers of any payloads.
-/
import Derived.Test.YtpiaegkeclmpgaaFrameFirst
namespace Go.Proofs.Ytpiaegkeclmpgaa.Fr
open Go.RowKit Cm
set_option linter.unusedVariables false

def framesB (xs : List ByteArray) : List UInt8 := xs.flatMap fun s => frame s.data.toList
theorem framesB_snoc (xs : List ByteArray) (k : Nat) (h : k < xs.length) : framesB (xs.take (k + 1)) = framesB (xs.take k) ++ frame (xs.getD k ByteArray.empty).data.toList := by
  rw [List.take_succ_eq_append_getElem h, getD_lt _ _ _ h]; simp only [framesB, List.flatMap_append, List.flatMap_cons, List.flatMap_nil, List.append_nil]
/-- What Seal answers. -/
def sealed (xs : List ByteArray) : Value := if (∀ x ∈ xs, x.size ≤ 65536) then .tuple #[.string (str (framesB xs)), .int .i64 0] else .tuple #[.string ⟨#[]⟩, .int .i64 2]
theorem str_size (l : List UInt8) : (str l).size = l.length := by rw [Lib.size_eq]; rfl
theorem str_data (l : List UInt8) : (str l).data.toList = l := rfl
theorem cells2' {w : World} (X Z : ByteArray) : CellsAt (w.alloc (.cells #[.string X, .string Z] 9)) (some ⟨w.heap.size, 0, none⟩) (strVals [X, Z]) := by
  refine .inr ⟨w.heap.size, 0, rfl, by simp, fun j hj => ?_⟩
  have := cell_of_row _ _ (0 + j) _ _ _ (heap_alloc_new w (.cells #[.string X, .string Z] 9))
  refine this.trans ?_
  simp [strVals]

set_option maxRecDepth 100000 in
set_option maxHeartbeats 2000000 in
theorem seal_any (ao : Option Addr) (cap : Nat) (xs : List ByteArray) (w : World) (hc : CellsAt w ao (strVals xs)) (hlen : xs.length ≤ 140737488351232) (hs : ∀ x ∈ xs, x.size ≤ 9223372036854775807)
    (htot : ∀ k, k ≤ xs.length → (∀ x ∈ xs.take k, x.size ≤ 65536) → (framesB (xs.take k)).length ≤ 140737488355328) :
    Calls Try.prog 24 #[.slice ao xs.length cap] w fun e w' => e = .returned (sealed xs) ∧ Below w.heap.size w w' := by
  obtain ⟨i0, hi0, hz0, hz1, hz2⟩ := info_parts info8
  go_enter Try.func24, Try.ntmps24
  go_wp2
  go_loopw [4, 10] (fun v i wr => ∃ k : Nat, k ≤ xs.length ∧ i = .int .i64 k ∧ Hid (∀ x ∈ xs.take k, x.size ≤ 65536) ∧ Hid (wr.ownsRow w.heap.size 5 1 v (framesB (xs.take k)).length ((framesB (xs.take k)).map B8)) ∧ Hid (Below w.heap.size w wr)) (fun _ i _ => xs.length - (intOf i).toNat)
  case atStart => exact ⟨0, by omega, rfl, fun x hx => by simp at hx, World.ownsRow_nil _ _ _ _, Below.refl _ _⟩
  case round =>
    obtain ⟨k, hk, rfl, HS, HO, HB⟩ := hrel
    have hsr := HB.out.size
    by_cases hlt : k < xs.length
    · rcases hc.below HB.out with h0 | ⟨b, off, rfl, hbl, hcells⟩
      · have : xs.length = 0 := by have := congrArg List.length h0; simpa [strVals] using this
        omega
      have hck := hcells k (by simpa [strVals] using hlt)
      have hx : (strVals xs)[k]? = some (.string (xs.getD k ByteArray.empty)) := by simp [strVals, hlt]
      have hmem : xs.getD k ByteArray.empty ∈ xs := by rw [getD_lt _ _ _ hlt]; exact List.getElem_mem hlt
      have hsz := hs _ hmem
      have HN : Hid _ := framesB_snoc xs k hlt
      have HT : Hid (xs.take (k + 1) = xs.take k ++ [xs.getD k ByteArray.empty]) := by rw [getD_lt _ _ _ hlt]; exact List.take_succ_eq_append_getElem hlt
      have HL := htot (k + 1) hlt
      rw [hx] at hck
      generalize xs.getD k ByteArray.empty = s at *
      by_cases hbig : 65536 < s.size
      · have HA : Hid (sealed xs = .tuple #[.string ⟨#[]⟩, .int .i64 2]) := by
          show sealed xs = _
          unfold sealed; rw [if_neg (fun h => by have := h s hmem; omega)]
        clear hcells hs hx HN HL htot hmem HT
        go_wp2
        go_ret2
        rw [HA.out]
        exact ⟨rfl, HB.out⟩
      · have HS1 : Hid (∀ x ∈ xs.take (k + 1), x.size ≤ 65536) := by
          intro x hx
          rw [HT.out] at hx
          rcases List.mem_append.1 hx with h | h
          · exact HS.out x h
          · simp at h; rw [h]; omega
        have HL1 : Hid _ := HL HS1.out
        rw [HN.out, List.length_append, frame_len, ← Lib.size_eq] at HL1
        generalize framesB (xs.take k) = bs at *
        clear hcells hs hx HL htot hmem HT
        go_wp2_with fail
        refine (wordText_any s.size (by omega) _).mono ?_
        rintro e w1 ⟨rfl, hb1⟩
        have hown1 := own_keep_below HO.out hb1
        have hs1 := hb1.size
        obtain ⟨F, hF⟩ : ∃ F, F = str (four s.size) := ⟨_, rfl⟩
        rw [← hF]
        have HFs : Hid (F.size = 4) := by rw [hF, str_size]; exact hid_rfl
        have HFd : Hid (F.data.toList = four s.data.toList.length) := by rw [hF, ← Lib.size_eq]; exact hid_rfl
        clear hF
        go_wp2_with (at_builtin; refine wpList_append_str_at _ rfl _ _ 62 9 rfl w.heap.size 5 i0 Try.underlying62 Try.underlying9 hi0 hz0 hz1 hz2 u4 bs.length (bs.map B8) rfl hown1 F rfl ?c1 ?c3 ?c2 ?_)
        case c1 => have := HL1.out; have := HFs.out; unfold maxLen; omega
        case c2 => omega
        case c3 => have := HL1.out; have := HFs.out; omega
        intro v2 w2 hown2 hgrow2 hat2
        have HB2 : Hid (Below w.heap.size w w2) := own_text_below HB.out (Nat.le_refl _) hb1 HO.out hgrow2
        have hown2 := own_bytes HFd.out hown2
        have hs2 := HB2.out.size
        have hgs2 := hgrow2.size
        clear hown1 hgrow2 hat2 hb1 HO HB
        have hlb2 : Hid ((bs ++ four s.data.toList.length).length = bs.length + 4) := by rw [List.length_append, four_len]; exact hid_rfl
        go_wp2_with fail
        refine (sum_any (some ⟨w2.heap.size, 0, none⟩) 2 [F, s] _ (cells2' F s) (by simp) ?c4).mono ?_
        case c4 => have := HFs.out; intro x hx; simp at hx; rcases hx with rfl | rfl <;> omega
        rintro e w3 ⟨rfl, rfl⟩
        have HSu : Hid (cat [F, s] = four s.data.toList.length ++ s.data.toList) := by
          show cat [F, s] = _
          simp only [cat, List.flatMap_cons, List.flatMap_nil, List.append_nil, HFd.out]
        have hsl := sum_lt (cat [F, s])
        rw [HSu.out] at hsl ⊢
        generalize hq : sum (four s.data.toList.length ++ s.data.toList) = q at *
        have HQ : Hid _ := hq
        clear hq
        obtain ⟨bs2, hbs2⟩ : ∃ bs2, bs2 = bs ++ four s.data.toList.length := ⟨_, rfl⟩
        rw [← hbs2] at hown2 hlb2
        have HBS : Hid _ := hbs2
        clear hbs2
        go_wp2_with fail
        refine (wordText_any q hsl _).mono ?_
        rintro e w3 ⟨rfl, hb3⟩
        have hb3' : Below w2.heap.size w2 w3 := ((Below.refl _ _).alloc (Nat.le_refl _) _).trans (hb3.mono (by simp))
        have hown3 := own_keep_below hown2 hb3'
        have hs3 := hb3'.size
        obtain ⟨G, hG⟩ : ∃ G, G = str (four q) := ⟨_, rfl⟩
        rw [← hG]
        have HGs : Hid (G.size = 4) := by rw [hG, str_size]; exact hid_rfl
        have HGd : Hid (G.data.toList = four q) := by rw [hG]; exact hid_rfl
        clear hG hb3
        go_wp2_with (at_builtin; refine wpList_append_str_at _ rfl _ _ 62 9 rfl w.heap.size 5 i0 Try.underlying62 Try.underlying9 hi0 hz0 hz1 hz2 v2 bs2.length (bs2.map B8) rfl hown3 G rfl ?d1 ?d3 ?d2 ?_)
        case d1 => have := HL1.out; have := hlb2.out; have := HGs.out; unfold maxLen; omega
        case d2 => omega
        case d3 => have := HL1.out; have := hlb2.out; have := HGs.out; omega
        intro v4 w4 hown4 hgrow4 hat4
        have HB4 : Hid (Below w.heap.size w w4) := own_text_below HB2.out (Nat.le_refl _) hb3' hown2 hgrow4
        have hown4 := own_bytes HGd.out hown4
        have hs4 := HB4.out.size
        clear hown3 hgrow4 hat4 hb3' hown2
        have hlb4 : Hid ((bs2 ++ four q).length = bs2.length + 4) := by rw [List.length_append, four_len]; exact hid_rfl
        obtain ⟨bs4, hbs4⟩ : ∃ bs4, bs4 = bs2 ++ four q := ⟨_, rfl⟩
        rw [← hbs4] at hown4 hlb4
        have HBS4 : Hid _ := hbs4
        clear hbs4
        go_wp2_with (at_builtin; refine wpList_append_str_at _ rfl _ _ 62 9 rfl w.heap.size 5 i0 Try.underlying62 Try.underlying9 hi0 hz0 hz1 hz2 v4 bs4.length (bs4.map B8) rfl hown4 s rfl ?e1 ?e3 ?e2 ?_)
        case e1 => have := HL1.out; have := hlb2.out; have := hlb4.out; unfold maxLen; omega
        case e2 => omega
        case e3 => have := HL1.out; have := hlb2.out; have := hlb4.out; omega
        intro v5 w5 hown5 hgrow5 hat5
        have HB5 : Hid (Below w.heap.size w w5) := own_text_below HB4.out (Nat.le_refl _) (Below.refl _ _) hown4 hgrow5
        have HO5 : Hid (w5.ownsRow w.heap.size 5 1 v5 (framesB (xs.take (k + 1))).length ((framesB (xs.take (k + 1))).map B8)) := by
          show World.ownsRow _ _ _ _ _ _ _
          have h := own_bytes rfl hown5
          rw [HBS4.out, HBS.out] at h
          rw [HN.out, frame, HQ.out]
          simpa only [List.append_assoc] using h
        clear hown5 hgrow5 hat5 hown4
        go_wp2
        go_roundw
        case rel => exact ⟨k + 1, by omega, by go_num, HS1, HO5, HB5⟩
        case measure => simp [intOf]; omega
    · have hk' : k = xs.length := by omega
      subst hk'
      rw [List.take_length] at HO HS
      have hstr := own_string HO.out
      have HA : Hid (sealed xs = .tuple #[.string (str (framesB xs)), .int .i64 0]) := by
        show sealed xs = _
        unfold sealed; rw [if_pos HS.out]
      go_wp2
      go_ret2
      rw [HA.out]
      exact ⟨rfl, HB.out⟩

end Go.Proofs.Ytpiaegkeclmpgaa.Fr
