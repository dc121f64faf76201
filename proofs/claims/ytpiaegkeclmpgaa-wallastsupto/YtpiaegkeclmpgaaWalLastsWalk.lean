/-
  The walk of the statement WalLasts.
-/
import Derived.Test.YtpiaegkeclmpgaaWalLastsMath
namespace Go.Proofs.Ytpiaegkeclmpgaa.Wl
open Go.RowKit Cm Vf
set_option linter.unusedVariables false

set_option maxRecDepth 100000 in
set_option maxHeartbeats 2000000 in
theorem lasts_walk (a0 a1 : Option Addr) (cap0 cap1 : Nat) (bs : List Bt) (fs : List (Int × Int)) (keep : Int) (w : World) (hc : CellsAt w a0 (bs.map Bt.val)) (hbs : ∀ b ∈ bs, b.at_ w) (hf : ElemsAt pairShape w a1 fs)
    (hfb : ∀ f ∈ fs, -9223372036854775808 ≤ f.1 ∧ f.1 ≤ 9223372036854775807) (hb : weights bs ≤ 1099511627) (hfl : fs.length ≤ 1099511627) :
    Calls Try.prog 4 #[.slice a0 bs.length cap0, .slice a1 fs.length cap1, .int .i64 keep] w fun e w' => e = .returned (.bool true) ∧ Below w.heap.size w w' := by
  obtain ⟨i0, hi0, hz0, hz1, hz2⟩ := info_parts infoStr
  have hlen := weights_len bs
  have HX : Hid (∀ wr, Below w.heap.size w wr → CellsAt wr a0 (bs.map Bt.val)) := fun wr h => hc.below h
  have HXs : Hid (∀ wr, Below w.heap.size w wr → ∀ b ∈ bs, CellsAt wr b.ao (strVals b.xs) ∧ (b.ao = none → b.cap = 0)) := fun wr h b hb => ⟨(hbs b hb).1.below h, (hbs b hb).2.1⟩
  have HCc : Hid (∀ b ∈ bs, b.xs.length ≤ b.cap) := fun b hb => (hbs b hb).2.2
  have HFs : Hid (∀ wr, Below w.heap.size w wr → FatesIn wr a1 fs) := fun wr h => pairs_in (hf.later h)
  have HFl : Hid (fs ≠ [] → ∀ ad, a1 = some ad → ad.block < w.heap.size) := fun h => pairs_lt hf h
  have HFb : Hid _ := hfb
  clear hc hbs hf hfb
  go_enter Try.func4, Try.ntmps4
  go_wp2_with fail
  refine (lives_any w).mono ?_
  rintro e w0 ⟨rfl, hb0⟩
  have hs0 := hb0.size
  go_wp2_with fail
  refine (newHeld LN w0).mono ?_
  rintro e w1 ⟨rfl, H1, hb1⟩
  have hs1 := hb1.size
  have H1 : Hid (Held w1 (fun k => w0.heap.size ≤ k) (w0.heap.size + 1) LN [] [] 0) := H1
  go_wp2_with fail
  refine (H1.out.open isLN (by decide)).mono ?_
  rintro e w2 ⟨lb, ao2, cap2, rfl, _, L2, hl2, hb2⟩
  have hs2 := hb2.size
  have hlb := L2.lt
  have L2 : Hid (LogAt w2 lb 0 (w0.heap.size + 1) LN false) := L2
  have H2 : Hid (Held w2 (Cut (fun k => w0.heap.size ≤ k) w1 w2) (w0.heap.size + 1) LN [] [] 0) := H1.out.cutTo hb2
  have HB2 : Hid (Below w.heap.size w w2) := (hb0.trans (hb1.mono hs0)).trans (hb2.mono (by omega))
  have hSn : ∀ k, w2.heap.size ≤ k → Cut (fun k => w0.heap.size ≤ k) w1 w2 k := fun k e => .inr e
  have hSl : ∀ k, Cut (fun k => w0.heap.size ≤ k) w1 w2 k → w0.heap.size ≤ k := fun k e => Cut.lo (fun k e => e) (by omega) e
  have hSb : ¬ Cut (fun k => w0.heap.size ≤ k) w1 w2 lb := Cut.out hl2 hlb
  generalize Cut (fun k => w0.heap.size ≤ k) w1 w2 = S2 at *
  have hcell := Held.cell H2.out
  have HAr : Hid _ := H2.out.arm hSn a1 cap1 fs (HFs.out w2 HB2.out) (fun h ad e hk => by have := HFl.out h ad e; have := hSl _ hk; omega) (by omega) HFb.out
  clear hb0 hb1 hb2 H1 H2 HFs HFl HFb
  go_wp2_with fail
  refine (show Calls _ _ _ _ _ from HAr.out).mono ?_
  rintro e w3 ⟨rfl, A3, hc3⟩
  have hs3 := hc3.size
  have A3 : Hid (Armed w3 S2 (w0.heap.size + 1) LN [] 0) := A3
  have G3 : Hid (Going w w3 w0.heap.size S2 (w0.heap.size + 1) lb [] 0 (.slice none 0 0)) :=
    ⟨fun k e => hSn k (by omega), hSl, hSb, ⟨0, Nat.le_refl _, L2.out.chg hc3 hSb⟩, World.ownsRow_nil _ _ _ _, (fun k e => by simp [Value.ownBlock] at e), ⟨hs0, by omega, by omega⟩, HB2.out.trans (hc3.below (fun k e => Nat.le_trans hs0 (hSl k e)) (by omega))⟩
  clear hc3 HAr HB2 L2 hcell hSn hSl hSb
  generalize hBB : w0.heap.size = B at *
  have hb0 : w.heap.size ≤ B := hs0
  generalize hbb : B + 1 = b at *
  clear hBB hs1 hs2 hs3 hl2 hlb
  go_wp2
  go_loopw [41, 11, 12] (fun i v c wr => ∃ (k a : Nat) (ys : List ByteArray) (S : Nat → Prop), k ≤ bs.length ∧ i = .int .i64 k ∧ c = .slice none 0 0 ∧ a ≤ 2 * k ∧ bulk ys ≤ 8 * weights (bs.take k) ∧ Hid (small ys) ∧ Hid (Armed wr S b LN ys a) ∧ Hid (Going w wr B S b lb ys (weights (bs.take k)) v)) (fun i _ _ _ => bs.length - (intOf i).toNat)
  case atStart => exact ⟨0, 0, [], S2, by omega, rfl, rfl, by omega, by simp [bulk_nil], small_nil, A3, by simpa [weights] using G3⟩
  case round =>
    obtain ⟨k, a, ys, S, hk, rfl, rfl, ha, hby, HSy, HA, HG⟩ := hrel
    have hwk := weights_le bs k
    have HB : Hid (Below w.heap.size w wr) := HG.out.below
    have hsr := HB.out.size
    obtain ⟨av, cv, rfl⟩ := own_any HG.out.row
    by_cases hlt : k < bs.length
    · rcases HX.out wr HB.out with h0 | ⟨pb, off, rfl, hbl, hcells⟩
      · have : bs.length = 0 := by have := congrArg List.length h0; simpa using this
        omega
      have hck := hcells k (by simpa using hlt)
      have hx : (bs.map Bt.val)[k]? = some (bs.getD k Bt.zero).val := by simp [hlt]
      have hmem : bs.getD k Bt.zero ∈ bs := by rw [getD_lt _ _ _ hlt]; exact List.getElem_mem hlt
      have hwt := weights_take bs k hlt
      have hw1 := weights_le bs (k + 1)
      have hbw := bulk_weight (bs.getD k Bt.zero)
      have HXk : Hid (∀ wr, Below w.heap.size w wr → CellsAt wr (bs.getD k Bt.zero).ao (strVals (bs.getD k Bt.zero).xs) ∧ ((bs.getD k Bt.zero).ao = none → (bs.getD k Bt.zero).cap = 0)) := fun wr h => HXs.out wr h _ hmem
      have hcc : (bs.getD k Bt.zero).xs.length ≤ (bs.getD k Bt.zero).cap := HCc.out _ hmem
      rw [hx] at hck
      generalize bs.getD k Bt.zero = bt at *
      obtain ⟨ac, cc, cs⟩ := bt
      replace hck : wr.cell? ⟨pb, off + k, none⟩ = some (.slice ac cs.length cc) := hck
      replace hwt : weights (bs.take (k + 1)) = weights (bs.take k) + (cs.length + total cs + 1) := hwt
      replace hbw : bulk cs ≤ 8 * (cs.length + total cs + 1) := hbw
      replace HXk : Hid (∀ wr, Below w.heap.size w wr → CellsAt wr ac (strVals cs) ∧ (ac = none → cc = 0)) := HXk
      replace hcc : cs.length ≤ cc := hcc
      have hcs : cs.length ≤ bulk cs := by unfold bulk; omega
      obtain ⟨n, hn, HL⟩ := HG.out.log
      have HAsk : Hid _ := Armed.ask HA.out HG.out.new HL HG.out.nlog ac cc (HXk.out wr HB.out).1 (by omega) (by omega) (by omega) (by omega)
      have hk0 : (0 : Int) ≤ (k : Int) := by omega
      have hk1 : (k : Int) < (bs.length : Int) := by omega
      clear hcells hx hmem hbl HL HXs
      go_wp2_with fail
      refine (show Calls _ _ _ _ _ from HAsk.out).mono ?_
      rintro e w4 ⟨hans, ⟨n', hn', L4⟩, hc4⟩
      have G4 : Hid (Going w w4 B S b lb ys (weights (bs.take (k + 1))) (.slice av ys.length cv)) := HG.out.moved hc4 ⟨n', by omega, L4⟩
      have HB4 : Hid (Below w.heap.size w w4) := G4.out.below
      have hs4 := HB4.out.size
      obtain ⟨hX4, nX4⟩ := HXk.out w4 HB4.out
      clear hc4 L4 HAsk HG HA HB hck
      rcases hans with ⟨rfl, hsc, a', ha', A4⟩ | ⟨rfl, a', ha', A4⟩ | ⟨rfl, a', ha', A4⟩ | ⟨rfl, hsc, hcut⟩
      · have A4 : Hid (Armed w4 S b LN (ys ++ cs) a') := A4
        have HSc : Hid (small cs) := hsc
        have hyl : ys.length ≤ bulk ys := by unfold bulk; omega
        go_wp2_with (at_builtin; refine wpList_append_any _ rfl _ _ 22 rfl B 9 i0 (.string ⟨#[]⟩) 16 Try.underlying22 hi0 hz0 hz1 hz2 rfl (.slice av ys.length cv) ys.length (strVals ys) rfl G4.out.row ac cs.length cc (strVals cs) rfl nX4 (by simp [strVals]) hX4 ?c0 ?c1 ?c2 ?c3 ?_)
        case c0 => intro u hu; obtain ⟨x, _, rfl⟩ := List.mem_map.1 hu; rfl
        case c1 => unfold maxLen; omega
        case c2 => omega
        case c3 => exact G4.out.base.2.2
        intro v5 w5 hown5 hg5 hat5
        have hrow5 : w5.ownsRow B 9 1 v5 (ys ++ cs).length (strVals (ys ++ cs)) := by rw [List.length_append, strVals, List.map_append]; exact hown5
        have G5 : Hid (Going w w5 B (Cut S w4 w5) b lb (ys ++ cs) (weights (bs.take (k + 1))) v5) := G4.out.grown hg5 hat5 hrow5
        have A5 : Hid (Armed w5 (Cut S w4 w5) b LN (ys ++ cs) a') := G4.out.armed hg5 A4.out
        have hby5 : bulk (ys ++ cs) ≤ 8 * weights (bs.take (k + 1)) := by rw [bulk_append]; omega
        have HSy5 : Hid (small (ys ++ cs)) := small_append HSy.out HSc.out
        clear hown5 hg5 hat5 hrow5 G4 A4 hX4 HXk
        go_wp2
        go_roundw
        case rel => exact ⟨k + 1, a', ys ++ cs, _, by omega, by go_num, rfl, by omega, hby5, HSy5, A5, G5⟩
        case measure => simp [intOf]; omega
      · have A4 : Hid (Armed w4 S b LN ys a') := A4
        clear hX4 HXk
        go_wp2
        go_roundw
        case rel => exact ⟨k + 1, a', ys, S, by omega, by go_num, rfl, by omega, by omega, HSy, A4, G4⟩
        case measure => simp [intOf]; omega
      · have A4 : Hid (Armed w4 S b LN ys a') := A4
        clear hX4 HXk
        go_wp2
        go_roundw
        case rel => exact ⟨k + 1, a', ys, S, by omega, by go_num, rfl, by omega, by omega, HSy, A4, G4⟩
        case measure => simp [intOf]; omega
      · have HCut : Hid (Cutoff w4 S b LN ys cs) := hcut
        have HSc : Hid (small cs) := hsc
        have HRow : Hid (w4.ownsRow B 9 1 (.slice av ys.length cv) ys.length (strVals ys)) := G4.out.row
        have HCs : Hid (CellsAt w4 ac (strVals cs)) := hX4
        clear hX4 HXk hcut hsc G4
        -- HCut : Cutoff w4 S b LN ys cs, HRow : w4.ownsRow .. (.slice av ys.length cv) .., HCs : CellsAt w4 ac (strVals cs), HB4 : Below
        go_wp2_with fail
        refine (HCut.out.crash HSc.out HSy.out (by omega) keep).mono ?_
        rintro e w5 ⟨b5, i, r, rfl, hi, hr, H5, hb5⟩
        have H5 : Hid (Held w5 (fun k => w4.heap.size ≤ k) b5 LN (ys ++ cs.take i) r 0) := H5
        have hs5 := hb5.size
        have hbt := bulk_take cs i
        have HB5 : Hid (Below w.heap.size w w5) := HB4.out.trans (hb5.mono hs4)
        have HRow5 : Hid (w5.ownsRow B 9 1 (.slice av ys.length cv) ys.length (strVals ys)) := own_keep HRow.out fun k e => hb5.block k (World.ownsRow.lt HRow.out k e).2
        have HCs5 : Hid (CellsAt w5 ac (strVals cs)) := HCs.out.below hb5
        clear hb5 HCut HRow HCs HB4
        go_wp2_with fail
        refine (H5.out.open isLN (by rw [bulk_append]; omega)).mono ?_
        rintro e w6 ⟨l6, ao6, cap6, rfl, ho6, _, _, hb6⟩
        have hs6 := hb6.size
        have HB6 : Hid (Below w.heap.size w w6) := HB5.out.trans (hb6.mono (by omega))
        have HRow6 : Hid (w6.ownsRow B 9 1 (.slice av ys.length cv) ys.length (strVals ys)) := own_keep HRow5.out fun k e => hb6.block k (World.ownsRow.lt HRow5.out k e).2
        have HCs6 : Hid (CellsAt w6 ac (strVals cs)) := HCs5.out.below hb6
        have HF6 : Hid (CellsAt w6 ao6 (strVals (ys ++ cs.take i))) := (own_slice ho6).1
        have HFl : Hid ((ys ++ cs.take i).length = ys.length + i) := by rw [List.length_append, List.length_take]; show ys.length + min i cs.length = _; omega
        rw [HFl.out]
        have hyl : ys.length ≤ bulk ys := by unfold bulk; omega
        have o1 : ys.length ≤ 1000000000000 := by omega
        have o2 : cs.length ≤ 1000000000000 := by omega
        have o3 : i ≤ 1000000000000 := by omega
        have ho47 : i ≤ 140737488351232 := by omega
        have HO6 : Hid (w6.ownsRow w5.heap.size 9 1 (.slice ao6 (ys ++ cs.take i).length cap6) (ys ++ cs.take i).length (strVals (ys ++ cs.take i))) := ho6
        have hy47 : ys.length ≤ 140737488351232 := by omega
        have f7 : (ys.length : Int) ≤ (cap6 : Int) := cap_int (own_cap ho6) HFl.out
        have f8 : (i : Int) ≤ (cc : Int) := Int.ofNat_le.2 (Nat.le_trans hi hcc)
        clear hb6 H5 HRow5 HCs5 HB5 ho6 hwt hbw hcs hby hwk hn hn' ha hr hbt hyl hb hfl hlen hw1 hcc
        have HS1 : Hid (∀ n, Calls Try.prog 16 #[.slice ao6 ys.length cap6, .slice av ys.length cv] (w6.drewN n) fun e w' => e = .returned (.bool true) ∧ ∃ m, w' = (w6.drewN n).drewN m) := fun n => same_any ao6 av cap6 cv ys _ (cells_left HF6.out).drew (own_slice HRow6.out).1.drew hy47
        have HS2 : Hid (∀ n, Calls Try.prog 16 #[.slice (if cap6 = ys.length then ao6 else Option.map (fun x => x.add ys.length) ao6) i (cap6 - ys.length), .slice ac i cc] (w6.drewN n) fun e w' => e = .returned (.bool true) ∧ ∃ m, w' = (w6.drewN n).drewN m) := fun n => same_take hi (cells_rest HFl.out HO6.out).drew (cells_take HCs6.out i).drew ho47
        go_upto_region 26 with fail
        go_quiet ((first | (go_at_call_of 16 (Value.slice ao6 ys.length cap6); exact same_quiet (HS1.out _)) | (go_at_call_of 16 (Value.slice ac i cc); exact same_quiet (HS2.out _))))
        all_goals go_wp2
        all_goals go_ret
        all_goals exact ⟨rfl, Fr.below_drew HB6.out⟩
    · obtain rfl : k = bs.length := by omega
      have HCut : Hid (Cutoff wr S b LN ys []) := HA.out.cutoff (by omega)
      have HRow : Hid (wr.ownsRow B 9 1 (.slice av ys.length cv) ys.length (strVals ys)) := HG.out.row
      have hyl : ys.length ≤ bulk ys := by unfold bulk; omega
      have o1 : ys.length ≤ 1000000000000 := by omega
      clear HG HA HX HXs HCc A3 G3
      go_wp2_with fail
      refine (HCut.out.crash small_nil HSy.out (by rw [bulk_nil]; omega) keep).mono ?_
      rintro e w5 ⟨b5, i, r, rfl, hi, hr, H5, hb5⟩
      have H5' : Held w5 (fun k => wr.heap.size ≤ k) b5 LN ys r 0 := by simpa using H5
      have H5 : Hid (Held w5 (fun k => wr.heap.size ≤ k) b5 LN ys r 0) := H5'
      clear H5'
      have hr0 : r.length = 0 := by rw [bulk_nil] at hr; omega
      have hs5 := hb5.size
      have HB5 : Hid (Below w.heap.size w w5) := HB.out.trans (hb5.mono hsr)
      have HRow5 : Hid (w5.ownsRow B 9 1 (.slice av ys.length cv) ys.length (strVals ys)) := own_keep HRow.out fun k e => hb5.block k (World.ownsRow.lt HRow.out k e).2
      clear hb5 HCut HRow HB
      go_wp2_with fail
      refine (H5.out.open isLN (by omega)).mono ?_
      rintro e w6 ⟨l6, ao6, cap6, rfl, ho6, _, _, hb6⟩
      have hs6 := hb6.size
      have HB6 : Hid (Below w.heap.size w w6) := HB5.out.trans (hb6.mono (by omega))
      have HRow6 : Hid (w6.ownsRow B 9 1 (.slice av ys.length cv) ys.length (strVals ys)) := own_keep HRow5.out fun k e => hb6.block k (World.ownsRow.lt HRow5.out k e).2
      have HF6 : Hid (CellsAt w6 ao6 (strVals ys)) := (own_slice ho6).1
      have hy47 : ys.length ≤ 140737488351232 := by omega
      have f7 : (ys.length : Int) ≤ (cap6 : Int) := Int.ofNat_le.2 (own_cap ho6)
      have HS1 : Hid (∀ n, Calls Try.prog 16 #[.slice ao6 ys.length cap6, .slice av ys.length cv] (w6.drewN n) fun e w' => e = .returned (.bool true) ∧ ∃ m, w' = (w6.drewN n).drewN m) := fun n => same_any ao6 av cap6 cv ys _ HF6.out.drew (own_slice HRow6.out).1.drew hy47
      have HS2 : Hid (∀ n ao ca, Calls Try.prog 16 #[.slice ao 0 ca, .slice none 0 0] (w6.drewN n) fun e w' => e = .returned (.bool true) ∧ ∃ m, w' = (w6.drewN n).drewN m) := fun n ao ca => same_any ao none ca 0 [] _ (.inl rfl) (.inl rfl) (by decide)
      clear hb6 H5 HRow5 HB5 ho6 hby hwk ha hr hyl hb hfl hlen hi hr0
      go_upto_region 26 with fail
      go_quiet ((first | (go_at_call_of 16 (Value.slice ao6 ys.length cap6); exact same_quiet (HS1.out _)) | (go_at_call_of 16 (Value.slice none 0 0); exact same_quiet (HS2.out _ _ _))))
      all_goals go_wp2
      all_goals go_ret
      all_goals exact ⟨rfl, Fr.below_drew HB6.out⟩
end Go.Proofs.Ytpiaegkeclmpgaa.Wl
