/-
  The walk of the statement WalMends.
-/
import Derived.Test.YtpiaegkeclmpgaaWalMendsMath
namespace Go.Proofs.Ytpiaegkeclmpgaa.Wl
open Go.RowKit Cm Vf
set_option linter.unusedVariables false

set_option maxRecDepth 100000 in
set_option maxHeartbeats 2000000 in
theorem mends_walk (a0 : Option Addr) (cap0 : Nat) (bs : List Bt) (M : ByteArray) (keep : Int) (w : World) (hc : CellsAt w a0 (bs.map Bt.val)) (hbs : ∀ b ∈ bs, b.at_ w) (hb : weights bs ≤ 1099511627) (hM : M.size ≤ 1099511627) :
    Calls Try.prog 5 #[.slice a0 bs.length cap0, .string M, .int .i64 keep] w fun e w' => e = .returned (.bool true) ∧ Below w.heap.size w w' := by
  have hlen := weights_len bs
  have HX : Hid (∀ wr, Below w.heap.size w wr → CellsAt wr a0 (bs.map Bt.val)) := fun wr h => hc.below h
  have HXs : Hid (∀ wr, Below w.heap.size w wr → ∀ b ∈ bs, CellsAt wr b.ao (strVals b.xs)) := fun wr h b hb => (hbs b hb).1.below h
  clear hc hbs
  go_enter Try.func5, Try.ntmps5
  go_wp2_with fail
  refine (lives_any w).mono ?_
  rintro e w0 ⟨rfl, hb0⟩
  have hs0 := hb0.size
  by_cases hbig : 65536 < M.size
  · go_wp2
    go_ret
    exact ⟨rfl, hb0⟩
  have hMs : M.size ≤ 65536 := by omega
  go_wp2_with fail
  refine (newHeld LN w0).mono ?_
  rintro e w1 ⟨rfl, H1, hb1⟩
  have hs1 := hb1.size
  have H1 : Hid (Held w1 (fun k => w0.heap.size ≤ k) (w0.heap.size + 1) LN [] [] 0) := H1
  go_wp2_with fail
  refine (H1.out.open isLN (by decide)).mono ?_
  rintro e w2 ⟨lb, ao2, cap2, rfl, _, L2, hl2, hb2⟩
  have hs2 := hb2.size
  have hlb := L2.lt
  have L2 : Hid (LogAt w2 lb 0 (w0.heap.size + 1) LN false) := L2
  have H2 : Hid (Held w2 (Cut (fun k => w0.heap.size ≤ k) w1 w2) (w0.heap.size + 1) LN [] [] 0) := H1.out.cutTo hb2
  have HB2 : Hid (Below w.heap.size w w2) := (hb0.trans (hb1.mono hs0)).trans (hb2.mono (by omega))
  have hSn : ∀ k, w2.heap.size ≤ k → Cut (fun k => w0.heap.size ≤ k) w1 w2 k := fun k e => .inr e
  have hSl : ∀ k, Cut (fun k => w0.heap.size ≤ k) w1 w2 k → w.heap.size ≤ k := fun k e => Cut.lo (fun k e => by omega) (by omega) e
  have hSb : ¬ Cut (fun k => w0.heap.size ≤ k) w1 w2 lb := Cut.out hl2 hlb
  have hlw : w.heap.size ≤ lb := by omega
  generalize Cut (fun k => w0.heap.size ≤ k) w1 w2 = S2 at *
  clear hb0 hb1 hb2 H1
  generalize hbb : w0.heap.size + 1 = b at *
  clear hbb hs1 hl2 hlb hbig
  go_wp2
  go_loopw [46] (fun i wr => ∃ (k a n : Nat) (ys : List ByteArray), k ≤ bs.length ∧ i = .int .i64 k ∧ a ≤ 2 * k ∧ n ≤ weights (bs.take k) ∧ bulk ys ≤ 8 * weights (bs.take k) ∧ w2.heap.size ≤ wr.heap.size ∧ Hid (Held wr S2 b LN ys [] a) ∧ Hid (LogAt wr lb n b LN false) ∧ Hid (Below w.heap.size w wr)) (fun i _ => bs.length - (intOf i).toNat)
  case atStart => exact ⟨0, 0, 0, [], by omega, rfl, by omega, by omega, by simp [bulk_nil], Nat.le_refl _, H2, L2, HB2⟩
  case round =>
    obtain ⟨k, a, n, ys, hk, rfl, ha, hn, hby, hsz, HH, HL, HB⟩ := hrel
    have hwk := weights_le bs k
    have hsr := HB.out.size
    by_cases hlt : k < bs.length
    · rcases HX.out wr HB.out with h0 | ⟨pb, off, rfl, hbl, hcells⟩
      · have : bs.length = 0 := by have := congrArg List.length h0; simpa using this
        omega
      have hck := hcells k (by simpa using hlt)
      have hx : (bs.map Bt.val)[k]? = some (bs.getD k Bt.zero).val := by simp [hlt]
      have hmem : bs.getD k Bt.zero ∈ bs := by rw [getD_lt _ _ _ hlt]; exact List.getElem_mem hlt
      have hwt := weights_take bs k hlt
      have hw1 := weights_le bs (k + 1)
      have hbw := bulk_weight (bs.getD k Bt.zero)
      have hXk := HXs.out wr HB.out _ hmem
      rw [hx] at hck
      generalize bs.getD k Bt.zero = bt at *
      obtain ⟨ac, cc, cs⟩ := bt
      replace hck : wr.cell? ⟨pb, off + k, none⟩ = some (.slice ac cs.length cc) := hck
      replace hwt : weights (bs.take (k + 1)) = weights (bs.take k) + (cs.length + total cs + 1) := hwt
      replace hbw : bulk cs ≤ 8 * (cs.length + total cs + 1) := hbw
      replace hXk : CellsAt wr ac (strVals cs) := hXk
      have HAsk : Hid _ := Held.asked HH.out (fun k e => hSn k (by omega)) HL.out hSb ac cc hXk (by omega) (by omega) (by omega) (by omega)
      have hk0 : (0 : Int) ≤ (k : Int) := by omega
      have hk1 : (k : Int) < (bs.length : Int) := by omega
      clear hcells hx hmem hbl hXk HH HL
      go_wp2_with fail
      refine (show Calls _ _ _ _ _ from HAsk.out).mono ?_
      rintro e w4 ⟨⟨E, rfl⟩, ⟨ys', a', n', q1, q2, q3, H4, L4⟩, hc4⟩
      have hs4 := hc4.size
      have HB4 : Hid (Below w.heap.size w w4) := HB.out.trans (hc4.below (fun k e => e.elim (hSl k) (fun e => by omega)) hsr)
      have H4 : Hid (Held w4 S2 b LN ys' [] a') := H4
      have L4 : Hid (LogAt w4 lb n' b LN false) := L4
      clear hc4 HAsk HB hck
      go_wp2
      go_roundw
      case rel => exact ⟨k + 1, a', n', ys', by omega, by go_num, by omega, by omega, by omega, by omega, H4, L4, HB4⟩
      case measure => simp [intOf]; omega
    · obtain rfl : k = bs.length := by omega
      have hcell := Held.cell HH.out
      have HAr : Hid _ := HH.out.arm1 (fun k e => hSn k (by omega)) 0 2 (by decide)
      clear HX HXs H2 L2 HB2
      go_wp2_with fail
      refine (show Calls _ _ _ _ _ from HAr.out).mono ?_
      rintro e w3 ⟨rfl, A3, hc3⟩
      have hs3 := hc3.size
      have A3 : Hid (Armed w3 S2 b LN ys a) := A3
      have L3 : Hid (LogAt w3 lb n b LN false) := HL.out.chg hc3 hSb
      have HB3 : Hid (Below w.heap.size w w3) := HB.out.trans (hc3.below hSl hsr)
      have HSy : Hid (small ys) := A3.out.small
      have HAsk : Hid _ := Armed.ask (xs := [M]) (A3.out.keep (w' := w3.alloc (.cells #[.string M] 9)) fun k _ hk => Below.heap_alloc _ _ _ hk) (fun k e => hSn k (by simp at e; omega)) (L3.out.below ((Below.refl _ _).alloc (Nat.le_refl _) _)) hSb (some ⟨w3.heap.size, 0, none⟩) 1 (Fr.cells1' _) (by rw [bulk_one]; omega) (by omega) (by omega) (by omega)
      clear hc3 HAr HH HL HB hcell A3 L3
      go_wp2_with fail
      refine (show Calls _ _ _ _ _ from HAsk.out).mono ?_
      rintro e w4 ⟨hans, _, hc4⟩
      obtain ⟨⟨E, rfl⟩, ys', cs, hcut, hsy, hsc, hbk⟩ := hans.cut HSy.out (by omega)
      have hct : Chg (fun k => S2 k ∨ k = lb) w3 w4 := (Chg.alloc _ w3 _).then hc4
      have HB4 : Hid (Below w.heap.size w w4) := HB3.out.trans (hct.below (fun k e => e.elim (hSl k) (fun e => by omega)) HB3.out.size)
      have hs4 := HB4.out.size
      have HCut : Hid (Cutoff w4 S2 b LN ys' cs) := hcut
      rw [bulk_one] at hbk
      have hbk' : bulk ys' + bulk cs ≤ 8796093089000 := by omega
      have HSy' : Hid (small ys') := hsy
      have HSc : Hid (small cs) := hsc
      clear hc4 hct HAsk HB3 HSy hans hcut hsy hsc hbk hby hwk hlen hb ha hn hk hlt hs3 hsr hsz
      go_wp2_with fail
      refine (HCut.out.crash HSc.out HSy'.out (by omega) keep).mono ?_
      rintro e w5 ⟨b5, i, r, rfl, hi, hr, H5, hb5⟩
      have hbt := bulk_take cs i
      obtain ⟨zs, hzs⟩ : ∃ zs, zs = ys' ++ cs.take i := ⟨_, rfl⟩
      rw [← hzs] at H5
      have hzb : bulk zs + r.length ≤ 17592186178000 := by rw [hzs, bulk_append]; omega
      have hzl : zs.length ≤ 17592186178000 := by have : zs.length ≤ bulk zs := (by unfold bulk; omega); omega
      have H5 : Hid (Held w5 (fun k => w4.heap.size ≤ k) b5 LN zs r 0) := H5
      have hs5 := hb5.size
      have HB5 : Hid (Below w.heap.size w w5) := HB4.out.trans (hb5.mono hs4)
      clear hb5 HCut HSc HSy' HB4 hbt hi hr hbk' hzs hSn hSl hSb hlw
      go_wp2_with fail
      refine (H5.out.open isLN (by omega)).mono ?_
      rintro e w6 ⟨lk, ao6, cap6, rfl, ho6, L6, hl6, hb6⟩
      have hs6 := hb6.size
      have hlk := L6.lt
      have HB6 : Hid (Below w.heap.size w w6) := HB5.out.trans (hb6.mono (by omega))
      have H6 : Hid (Held w6 (Cut (fun k => w4.heap.size ≤ k) w5 w6) b5 LN zs r 0) := H5.out.cutTo hb6
      have hSn : ∀ k, w6.heap.size ≤ k → Cut (fun k => w4.heap.size ≤ k) w5 w6 k := fun k e => .inr e
      have hSl : ∀ k, Cut (fun k => w4.heap.size ≤ k) w5 w6 k → w.heap.size ≤ k := fun k e => Cut.lo (fun k e => by omega) (by omega) e
      have hSk : ¬ Cut (fun k => w4.heap.size ≤ k) w5 w6 lk := Cut.out hl6 hlk
      have L6' : w6.heap[lk]? = some (.cells _ _ _) := L6
      have hSf : ∀ ad, ao6 = some ad → ¬ Cut (fun k => w4.heap.size ≤ k) w5 w6 ad.block ∧ ad.block ≠ lk := fun ad e => by
        have h1 := (own_slice ho6).2.1 ad e
        refine ⟨Cut.out h1.1 h1.2, fun q => ?_⟩
        have := own_far ho6 L6' (by decide)
        rw [e] at this
        exact this (by show some ad.block = some lk; rw [q])
      have HF6 : Hid (CellsAt w6 ao6 (strVals zs)) := (own_slice ho6).1
      have hfl : ∀ ad, ao6 = some ad → ad.block < w6.heap.size := fun ad e => ((own_slice ho6).2.1 ad e).2
      have hlw : w.heap.size ≤ lk := by omega
      generalize Cut (fun k => w4.heap.size ≤ k) w5 w6 = S at *
      clear hb6 H5 HB5 ho6 L6'
      by_cases h0 : 0 < r.length
      · rw [decide_eq_true h0] at L6
        have L6 : Hid (LogAt w6 lk zs.length b5 LN true) := L6
        go_wp2_with fail
        refine (torn_any _ _ _ _ _ _ L6.out).mono ?_
        rintro e w7 ⟨rfl, rfl⟩
        have HTo : Hid _ := Held.torn (w := w7.alloc (.cells #[.string ⟨#[120]⟩] 9)) (H6.out.alloc _) (L6.out.below ((Below.refl _ _).alloc (Nat.le_refl _) _)) (some ⟨w7.heap.size, 0, none⟩) 1 1
        have HRw : Hid _ := Held.rewrite (w := w7.alloc (.cells #[.string ⟨#[120]⟩] 9)) (H6.out.alloc _) (fun k e => hSn k (by simp at e; omega)) isLN ao6 cap6 (HF6.out.alloc _) (by omega) (by obtain ⟨s, f, _, q, _⟩ := H6.out; exact q.small) (by decide)
        go_wp2_with fail
        refine (show Calls _ _ _ _ _ from HTo.out).mono ?_
        rintro e w8 ⟨rfl, rfl⟩
        go_wp2_with fail
        refine (show Calls _ _ _ _ _ from HRw.out).mono ?_
        rintro e w8 ⟨rfl, ⟨a8, ha8, H8⟩, hc8⟩
        have hc78 : Chg S w7 w8 := (Chg.alloc _ w7 _).then hc8
        have hs8 := hc78.size
        have HB8 : Hid (Below w.heap.size w w8) := HB6.out.trans (hc78.below hSl HB6.out.size)
        have HF8 : Hid (CellsAt w8 ao6 (strVals zs)) := cells_chg HF6.out hc78 (fun ad e => (hSf ad e).1)
        have H8 : Hid (Held w8 S b5 LN zs [] a8) := H8
        clear hc8 hc78 HTo HRw H6 L6 HF6 HB6
        go_wp2_with fail
        refine (H8.out.open isLN (by simp; omega)).mono ?_
        rintro e w9 ⟨la, ao9, cap9, rfl, ho9, L9, hl9, hb9⟩
        have hs9 := hb9.size
        have hlt9 := L9.lt
        have L9 : Hid (LogAt w9 la zs.length b5 LN false) := L9
        have H9 : Hid (Held w9 (Cut S w8 w9) b5 LN zs [] a8) := H8.out.cutTo hb9
        have HB9 : Hid (Below w.heap.size w w9) := HB8.out.trans (hb9.mono (by omega))
        have HF9 : Hid (CellsAt w9 ao6 (strVals zs)) := HF8.out.below hb9
        have HG9 : Hid (CellsAt w9 ao9 (strVals zs)) := (own_slice ho9).1
        have hSn9 : ∀ k, w9.heap.size ≤ k → Cut S w8 w9 k := fun k e => .inr e
        have hSl9 : ∀ k, Cut S w8 w9 k → w.heap.size ≤ k := fun k e => Cut.lo hSl (by omega) e
        have hSk9 : ¬ Cut S w8 w9 la := Cut.out hl9 hlt9
        have hSf9 : ∀ ad, ao6 = some ad → ¬ Cut S w8 w9 ad.block ∧ ad.block ≠ la := fun ad e => by
          have h1 := hfl ad e
          exact ⟨Cut.not (hSf ad e).1 (by omega), by omega⟩
        have hlw9 : w.heap.size ≤ la := by omega
        clear ho9 hb9 H8 HF8 HB8
        go_wp2_with fail
        refine (torn_any _ _ _ _ _ _ L9.out).mono ?_
        rintro e w10 ⟨rfl, rfl⟩
        go_wp2_with fail
        refine (same_any ao9 ao6 cap9 cap6 zs _ HG9.out HF9.out (by omega)).mono ?_
        rintro e w11 ⟨rfl, n11, rfl⟩
        have HT : Hid (Held (w10.drewN n11) (Cut S w8 w10) b5 LN zs [] a8) := H9.out.keep fun _ _ _ => rfl
        have LT : Hid (LogAt (w10.drewN n11) la zs.length b5 LN false) := L9.out.keep rfl
        have HFt : Hid (CellsAt (w10.drewN n11) ao6 (strVals zs)) := HF9.out.drew
        have HBt : Hid (Below w.heap.size w (w10.drewN n11)) := Fr.below_drew HB9.out
        have hst : w.heap.size ≤ (w10.drewN n11).heap.size := HBt.out.size
        have hSn9' : ∀ k, (w10.drewN n11).heap.size ≤ k → Cut S w8 w10 k := hSn9
        clear hSn hSl hSk hSf hSn9 HB9 HF9 HG9 L9 H9 hfl hlw hlk hl6 hl9 hlt9 hs9 hs8 hs6 hs5 hs4
        generalize Cut S w8 w10 = S' at *
        generalize w10.drewN n11 = wt at *
        -- H: Held wt S b5 LN zs [] at; LogAt wt lk; the found row
        have HAp : Hid _ := Held.append (xs := [⟨#[120]⟩]) (HT.out.alloc (.cells #[.string ⟨#[120]⟩] 9)) (fun k e => hSn9' k (by simp at e; omega)) (LT.out.below ((Below.refl _ _).alloc (Nat.le_refl _) _)) hSk9 isLN (some ⟨wt.heap.size, 0, none⟩) 1 (Fr.cells1' _) (by decide) (by omega) (small_one (by decide)) (by decide) (by omega) (by omega)
        go_wp2_with fail
        refine (show Calls _ _ _ _ _ from HAp.out).mono ?_
        rintro e w9 ⟨rfl, H9, L9, hc9⟩
        have hct : Chg (fun k => S' k ∨ k = la) wt w9 := (Chg.alloc _ wt _).then hc9
        have hs9 := hct.size
        have HB9 : Hid (Below w.heap.size w w9) := HBt.out.trans (hct.below (fun k e => e.elim (hSl9 k) (fun e => by omega)) hst)
        have HF9 : Hid (CellsAt w9 ao6 (strVals zs)) := cells_chg HFt.out hct (fun ad e q => q.elim (hSf9 ad e).1 (hSf9 ad e).2)
        have H9 : Hid (Held w9 S' b5 LN (zs ++ [⟨#[120]⟩]) [] (a8 + 2)) := H9
        have L9 : Hid (LogAt w9 la (zs.length + 1) b5 LN false) := L9
        clear hc9 hct HAp HT LT HFt HBt
        go_wp2_with fail
        refine (count_any _ _ _ _ _ _ L9.out).mono ?_
        rintro e w10 ⟨rfl, rfl⟩
        go_wp2_with fail
        refine (H9.out.open isLN (by rw [bulk_append, bulk_one]; show _ + (8 + 1) + 0 ≤ _; omega)).mono ?_
        rintro e w11 ⟨l11, ao11, cap11, rfl, ho11, _, _, hb11⟩
        have HB11 : Hid (Below w.heap.size w w11) := HB9.out.trans (hb11.mono (by omega))
        have HF11 : Hid (CellsAt w11 ao6 (strVals zs)) := HF9.out.below hb11
        have hzl : (zs ++ [⟨#[120]⟩] : List ByteArray).length = zs.length + 1 := by simp
        obtain ⟨g11, c11, hv11, _, _, hcap11, hc11⟩ := own_some ho11 (by omega)
        simp only [Value.slice.injEq] at hv11
        obtain ⟨rfl, _, rfl⟩ := hv11
        obtain ⟨gb, off, he, hfr, hla⟩ := cells_front hc11
        simp only [Option.some.injEq, Addr.mk.injEq] at he
        obtain ⟨rfl, rfl, _⟩ := he
        rw [hzl]
        rw [hzl] at hcap11
        have HS1 : Hid (Calls Try.prog 16 #[.slice (some ⟨g11, 0, none⟩) zs.length cap11, .slice ao6 zs.length cap6] w11 fun e w' => e = .returned (.bool true) ∧ ∃ m, w' = w11.drewN m) := same_any _ ao6 cap11 cap6 zs _ hfr HF11.out (by omega)
        have hl11 : ∀ m, (w11.drewN m).cell? ⟨g11, zs.length, none⟩ = some (.string ⟨#[120]⟩) := fun m => by have h := hla; rw [Nat.zero_add] at h; exact h
        have hcapi : (zs.length : Int) ≤ (cap11 : Int) := by omega
        have hk0 : (0 : Int) ≤ (zs.length : Int) := by omega
        have hk1 : (zs.length : Int) < (zs.length : Int) + 1 := by omega
        clear hb11 HB9 HF9 H9 L9 hfr hla hc11 ho11 hzl
        go_wp2_with fail
        refine (show Calls _ _ _ _ _ from HS1.out).mono ?_
        rintro e w12 ⟨rfl, n12, rfl⟩
        have hl12 := hl11 n12
        go_wp2
        go_ret
        exact ⟨rfl, Fr.below_drew HB11.out⟩
      · have hr0 : r = [] := List.eq_nil_of_length_eq_zero (by omega)
        subst hr0
        have LT : Hid (LogAt w6 lk zs.length b5 LN false) := L6
        have hst : w.heap.size ≤ w6.heap.size := HB6.out.size
        go_wp2_with fail
        refine (torn_any _ _ _ _ _ _ LT.out).mono ?_
        rintro e wt ⟨rfl, rfl⟩
        clear hfl hlk hl6 hs6 hs5 hs4
        -- H: Held wt S b5 LN zs [] at; LogAt wt lk; the found row
        have HAp : Hid _ := Held.append (xs := [⟨#[120]⟩]) (H6.out.alloc (.cells #[.string ⟨#[120]⟩] 9)) (fun k e => hSn k (by simp at e; omega)) (LT.out.below ((Below.refl _ _).alloc (Nat.le_refl _) _)) hSk isLN (some ⟨wt.heap.size, 0, none⟩) 1 (Fr.cells1' _) (by decide) (by omega) (small_one (by decide)) (by decide) (by omega) (by omega)
        go_wp2_with fail
        refine (show Calls _ _ _ _ _ from HAp.out).mono ?_
        rintro e w9 ⟨rfl, H9, L9, hc9⟩
        have hct : Chg (fun k => S k ∨ k = lk) wt w9 := (Chg.alloc _ wt _).then hc9
        have hs9 := hct.size
        have HB9 : Hid (Below w.heap.size w w9) := HB6.out.trans (hct.below (fun k e => e.elim (hSl k) (fun e => by omega)) hst)
        have HF9 : Hid (CellsAt w9 ao6 (strVals zs)) := cells_chg HF6.out hct (fun ad e q => q.elim (hSf ad e).1 (hSf ad e).2)
        have H9 : Hid (Held w9 S b5 LN (zs ++ [⟨#[120]⟩]) [] (0 + 2)) := H9
        have L9 : Hid (LogAt w9 lk (zs.length + 1) b5 LN false) := L9
        clear hc9 hct HAp H6 LT HF6 HB6
        go_wp2_with fail
        refine (count_any _ _ _ _ _ _ L9.out).mono ?_
        rintro e w10 ⟨rfl, rfl⟩
        go_wp2_with fail
        refine (H9.out.open isLN (by rw [bulk_append, bulk_one]; show _ + (8 + 1) + 0 ≤ _; omega)).mono ?_
        rintro e w11 ⟨l11, ao11, cap11, rfl, ho11, _, _, hb11⟩
        have HB11 : Hid (Below w.heap.size w w11) := HB9.out.trans (hb11.mono (by omega))
        have HF11 : Hid (CellsAt w11 ao6 (strVals zs)) := HF9.out.below hb11
        have hzl : (zs ++ [⟨#[120]⟩] : List ByteArray).length = zs.length + 1 := by simp
        obtain ⟨g11, c11, hv11, _, _, hcap11, hc11⟩ := own_some ho11 (by omega)
        simp only [Value.slice.injEq] at hv11
        obtain ⟨rfl, _, rfl⟩ := hv11
        obtain ⟨gb, off, he, hfr, hla⟩ := cells_front hc11
        simp only [Option.some.injEq, Addr.mk.injEq] at he
        obtain ⟨rfl, rfl, _⟩ := he
        rw [hzl]
        rw [hzl] at hcap11
        have HS1 : Hid (Calls Try.prog 16 #[.slice (some ⟨g11, 0, none⟩) zs.length cap11, .slice ao6 zs.length cap6] w11 fun e w' => e = .returned (.bool true) ∧ ∃ m, w' = w11.drewN m) := same_any _ ao6 cap11 cap6 zs _ hfr HF11.out (by omega)
        have hl11 : ∀ m, (w11.drewN m).cell? ⟨g11, zs.length, none⟩ = some (.string ⟨#[120]⟩) := fun m => by have h := hla; rw [Nat.zero_add] at h; exact h
        have hcapi : (zs.length : Int) ≤ (cap11 : Int) := by omega
        have hk0 : (0 : Int) ≤ (zs.length : Int) := by omega
        have hk1 : (zs.length : Int) < (zs.length : Int) + 1 := by omega
        clear hb11 HB9 HF9 H9 L9 hfr hla hc11 ho11 hzl
        go_wp2_with fail
        refine (show Calls _ _ _ _ _ from HS1.out).mono ?_
        rintro e w12 ⟨rfl, n12, rfl⟩
        have hl12 := hl11 n12
        go_wp2
        go_ret
        exact ⟨rfl, Fr.below_drew HB11.out⟩
end Go.Proofs.Ytpiaegkeclmpgaa.Wl
