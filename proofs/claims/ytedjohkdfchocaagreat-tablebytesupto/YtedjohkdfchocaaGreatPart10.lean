/-
  The texts BloomRef, BloomRefBuild.
-/
import Derived.Test.YtedjohkdfchocaaGreatQBloomMay
import Derived.Test.YtedjohkdfchocaaGreatQBloomRefMath
import Derived.Test.YtedjohkdfchocaaGreatQBloomBuild
import Derived.Laws.MakeOwn

/-
  The document's answers of layer 7: hash, probe, bit, what a filter says.
-/
namespace Go.Proofs.YtedjohkdfchocaaGreat.Bl
open Go.RowKit Cm
set_option linter.unusedVariables false

set_option maxHeartbeats 1000000 in
theorem hashR_any (s : ByteArray) (hs : s.size ≤ 9223372036854775807) (w : World) :
    Calls Tryz.prog 52 #[.string s] w fun e w' => e = .returned (.int .u64 (hash s : Nat)) ∧ w' = w := by
  go_enter Tryz.func52, Tryz.ntmps52
  go_wp2
  go_loop [3, 4] (fun rv i => ∃ k m : Nat, k ≤ s.size ∧ i = .int .i64 k ∧ rv = .int .u64 m ∧ m < 18446744073709551616 ∧ Hid (m = run 14695981039346656037 (s.data.toList.take k))) (fun _ i => s.size - (intOf i).toNat)
  case atStart => exact ⟨0, 14695981039346656037, by omega, rfl, rfl, by omega, hid_rfl⟩
  case round =>
    obtain ⟨k, m, hk, rfl, rfl, hm, HM⟩ := hrel
    by_cases hlt : k < s.size
    · have HF := run_bytes 14695981039346656037 s k hlt
      rw [← HM.out] at HF
      have HF0 : Hid _ := HF
      have hfl := feed_lt m s[k]
      clear HF
      have HE : Hid _ := feed_run m hm s[k]
      generalize hcj : s[k] = c at *
      generalize feed m c = F at *
      go_wp2
      go_round
      case rel => exact ⟨k + 1, F, by omega, by go_num, by rw [HE.out], hfl, HF0⟩
      case measure => simp [intOf]; omega
    · have hk' : k = s.size := by omega
      subst hk'
      have HM2 : Hid (m = hash s) := by rw [HM.out, List.take_of_length_le (by simp)]; exact hid_rfl
      go_wp2
      go_ret
      rw [← HM2.out]
      exact ⟨rfl, rfl⟩

theorem fin_probe {x : Int} {n m p : Nat} (hx : x = n) (hp : p = n % m) (hl : p < m) (hm : m ≤ 9223372036854775807) : wrap64 (x % (m : Int)) = p := by
  subst hx
  rw [← Int.natCast_emod, ← hp]
  unfold wrap64
  omega
set_option maxHeartbeats 1000000 in
theorem probeR_any (h k m : Nat) (hh : h < 18446744073709551616) (hk : k < 4) (hm : 0 < m) (hm2 : m ≤ 9223372036854775807) (w : World) :
    Calls Tryz.prog 53 #[.int .u64 h, .int .i64 k, .int .i64 m] w fun e w' => e = .returned (.int .i64 (probe h k m : Nat)) ∧ w' = w := by
  have hl := probe_lt h k hm
  have HP : Hid (probe h k m = (h % 4294967296 + k * odd (h / 4294967296)) % m) := rfl
  generalize probe h k m = p at *
  rcases Nat.mod_two_eq_zero_or_one (h / 4294967296) with h2 | h2
  · have ho : odd (h / 4294967296) = h / 4294967296 + 1 := by unfold odd; rw [if_pos h2]
    rw [ho] at HP
    clear ho
    match k, hk with
    | 0, _ =>
      go_enter Tryz.func53, Tryz.ntmps53
      go_wp2
      go_ret
      exact ⟨by rw [fin_probe (by omega) HP.out hl hm2]; rfl, rfl⟩
    | 1, _ =>
      go_enter Tryz.func53, Tryz.ntmps53
      go_wp2
      go_ret
      exact ⟨by rw [fin_probe (by omega) HP.out hl hm2]; rfl, rfl⟩
    | 2, _ =>
      go_enter Tryz.func53, Tryz.ntmps53
      go_wp2
      go_ret
      exact ⟨by rw [fin_probe (by omega) HP.out hl hm2]; rfl, rfl⟩
    | 3, _ =>
      go_enter Tryz.func53, Tryz.ntmps53
      go_wp2
      go_ret
      exact ⟨by rw [fin_probe (by omega) HP.out hl hm2]; rfl, rfl⟩
  · have ho : odd (h / 4294967296) = h / 4294967296 := by unfold odd; rw [if_neg (by omega)]
    rw [ho] at HP
    clear ho
    match k, hk with
    | 0, _ =>
      go_enter Tryz.func53, Tryz.ntmps53
      go_wp2
      go_ret
      exact ⟨by rw [fin_probe (by omega) HP.out hl hm2]; rfl, rfl⟩
    | 1, _ =>
      go_enter Tryz.func53, Tryz.ntmps53
      go_wp2
      go_ret
      exact ⟨by rw [fin_probe (by omega) HP.out hl hm2]; rfl, rfl⟩
    | 2, _ =>
      go_enter Tryz.func53, Tryz.ntmps53
      go_wp2
      go_ret
      exact ⟨by rw [fin_probe (by omega) HP.out hl hm2]; rfl, rfl⟩
    | 3, _ =>
      go_enter Tryz.func53, Tryz.ntmps53
      go_wp2
      go_ret
      exact ⟨by rw [fin_probe (by omega) HP.out hl hm2]; rfl, rfl⟩

theorem half_bit (f : ByteArray) (p : Nat) (h : p / 8 < f.size) : ((((f[p / 8].toNat / 2 ^ (p % 8) : Nat) : Int) % 2) == 1) = bitAt f.data.toList p := by
  have e : f.data.toList.getD (p / 8) 0 = f[p / 8] := by
    rw [getD_lt _ _ _ (by simpa using h)]
    rfl
  unfold bitAt
  rw [e, Nat.testBit_eq_decide_div_mod_eq]
  generalize f[p / 8].toNat / 2 ^ (p % 8) = x
  rcases Nat.mod_two_eq_zero_or_one x with h | h
  · rw [show (x : Int) % 2 = 0 by omega, h]; rfl
  · rw [show (x : Int) % 2 = 1 by omega, h]; rfl
end Go.Proofs.YtedjohkdfchocaaGreat.Bl

/-
  The document's filter of keys.
-/
namespace Go.Proofs.YtedjohkdfchocaaGreat.Bl
open Go.RowKit Cm
set_option linter.unusedVariables false

theorem infoBool : (Tryz.prog.info? 4).map (fun i => (i.zero, i.size, i.bytes)) = some (some (.bool false), 1, 1) := by kernel_rfl
/-- The bits lie in a block of their own. -/
def BitsAt (w : World) (g : Nat) (bs : List Bool) : Prop := w.heap[g]? = some (.cells (bs.map Value.bool).toArray 4)
theorem BitsAt.cell {w : World} {g : Nat} {bs : List Bool} (h : BitsAt w g bs) {j : Nat} (hj : j < bs.length) : w.cell? ⟨g, j, none⟩ = some (.bool (bs.getD j false)) := by
  rw [Joins.cell_of_block h]
  simp [hj]
theorem BitsAt.frozen {w : World} {g : Nat} {bs : List Bool} (h : BitsAt w g bs) (j : Nat) : w.frozen? ⟨g, j, none⟩ = false := by
  simp [World.frozen?, show w.heap[g]? = _ from h]
theorem BitsAt.set {w : World} {g : Nat} {bs : List Bool} (h : BitsAt w g bs) (j : Nat) (c : Bool) : BitsAt (w.setCell ⟨g, j, none⟩ (.bool c)) g (bs.set j c) := by
  unfold BitsAt
  rw [Joins.block_setCell h]
  simp
theorem BitsAt.keep {w w' : World} {g : Nat} {bs : List Bool} (h : BitsAt w g bs) (hb : w'.heap[g]? = w.heap[g]?) : BitsAt w' g bs := hb.trans h
theorem bytes_one (c : UInt8) (w : World) : CellsAt (w.alloc (.cells #[B8 c] 5)) (some ⟨w.heap.size, 0, none⟩) [B8 c] := by
  right
  refine ⟨w.heap.size, 0, rfl, by simp, fun j hj => ?_⟩
  rw [Joins.cell_of_block (heap_alloc_new w _)]
  simp
theorem byteB_toNat (B : List Bool) (i : Nat) : (byteB B i).toNat = val (bitOf B i) 0 8 := by
  unfold byteB
  exact UInt8.toNat_ofNat_of_lt' (val_lt _ _ _)
theorem val_small {b : Nat → Bool} {t u : Nat} (h : u ≤ 7) : val b t u ≤ 127 := by
  have h1 := val_lt b t u
  have h2 : 2 ^ u ≤ 2 ^ 7 := Nat.pow_le_pow_right (by decide) h
  omega
theorem made_falses (n : Nat) : madeCells (Value.bool false).cells (n * 1) = ((List.replicate n false).map Value.bool).toArray := by
  apply Array.ext'
  rw [List.toList_toArray]
  apply List.ext_getElem
  · simp [madeCells]
  · intro i h1 h2
    simp [madeCells, Value.cells, Nat.mod_one]

set_option maxRecDepth 100000 in
set_option maxHeartbeats 1000000 in
theorem buildR_any (ao : Option Addr) (cap : Nat) (xs : List ByteArray) (w : World) (hc : CellsAt w ao (strVals xs)) (hlen : xs.length ≤ 8796093022208) (hs : ∀ x ∈ xs, x.size ≤ 9223372036854775807) :
    Calls Tryz.prog 25 #[.slice ao xs.length cap] w fun e w' => (∃ f : ByteArray, e = .returned (.string f) ∧ IsFilter xs f.data.toList) ∧ Below w.heap.size w w' := by
  by_cases h0 : xs.length = 0
  · have hn : xs = [] := List.eq_nil_of_length_eq_zero h0
    subst hn
    go_enter Tryz.func25, Tryz.ntmps25
    go_wp2
    go_ret
    exact ⟨⟨_, rfl, by simpa using (Part.start 0 ByteArray.empty).done (xs := [])⟩, Below.refl _ _⟩
  obtain ⟨i0, hi0, hz0, hz1, hz2⟩ := info_parts infoBool
  obtain ⟨i1, hi1, hy0, hy1, hy2⟩ := info_parts info8
  obtain ⟨N, hN⟩ : ∃ N, N = len xs.length := ⟨_, rfl⟩
  have hN1 : N = (10 * xs.length + 7) / 8 := hN
  have hNl : N ≤ 10995116277761 := by omega
  have hNp : 0 < N := by omega
  obtain ⟨Z, hZ⟩ : ∃ Z, Z = ((List.replicate (8 * N) false).map Value.bool).toArray := ⟨_, rfl⟩
  have hmk : ∀ w : World, (Instr.makeSlice 97 (.int .i64 (8 * (N : Int))) (.int .i64 (8 * (N : Int)))).run Tryz.prog w = .ok (.slice (some ⟨w.heap.size, 0, none⟩) (8 * N) (8 * N)) (w.alloc (.cells Z 4)) := fun w => by
    have := run_make (P := Tryz.prog) w 97 4 i0 (.bool false) Tryz.underlying97 hi0 hz0 .i64 .i64 (8 * N : Nat) (8 * N : Nat) (by omega) (by omega) (by rw [hz2]; omega) (by omega)
    rw [hz1] at this
    simp only [Int.toNat_natCast, made_falses] at this
    rw [hZ, show (8 * (N : Int)) = ((8 * N : Nat) : Int) by omega]
    exact this
  have hq : (10 * (xs.length : Int) + 7) / 8 = N := by omega
  have HN1 : Hid _ := hN1
  have HN : Hid _ := hN
  have HZ : Hid (BitsAt (w.alloc (.cells Z 4)) w.heap.size (List.replicate (8 * N) false)) := by rw [hZ]; exact heap_alloc_new w _
  clear hN1 hN hZ hi0 hz0 hz1 hz2
  have HS : Hid _ := hs
  clear hs
  go_enter Tryz.func25, Tryz.ntmps25
  have hbe : ((xs.length : Int) == 0) = false := beq_eq_false_iff_ne.2 (by omega)
  go_wp2
  rw [hq]
  clear hq hmk hbe
  go_loopw [26] (fun i wr => ∃ (k : Nat) (bs : List Bool), k ≤ xs.length ∧ i = .int .i64 k ∧ Hid (PartB (xs.take k) (8 * N) ByteArray.empty 0 bs) ∧ Hid (BitsAt wr w.heap.size bs) ∧ Hid (Below w.heap.size w wr)) (fun i _ => xs.length - (intOf i).toNat)
  case atStart => exact ⟨0, List.replicate (8 * N) false, by omega, rfl, PartB.start (8 * N) _, HZ, (Below.refl _ _).alloc (Nat.le_refl _) _⟩
  case round =>
    obtain ⟨k, bs, hk, rfl, HP, HR, HB⟩ := hrel
    by_cases hlt : k < xs.length
    · rcases hc.below HB.out with h0 | ⟨b, off, rfl, hbl, hcells⟩
      · have : xs.length = 0 := by have := congrArg List.length h0; simpa [strVals] using this
        omega
      have hck := hcells k (by simpa [strVals] using hlt)
      have hx : (strVals xs)[k]? = some (.string (xs.getD k ByteArray.empty)) := by simp [strVals, hlt]
      have hsz : (xs.getD k ByteArray.empty).size ≤ 9223372036854775807 := HS.out _ (by rw [getD_lt _ _ _ hlt]; exact List.getElem_mem hlt)
      have HX : Hid (xs.take (k + 1) = xs.take k ++ [xs.getD k ByteArray.empty]) := by rw [List.take_succ_eq_append_getElem hlt, getD_lt _ _ _ hlt]; exact hid_rfl
      rw [hx] at hck
      generalize xs.getD k ByteArray.empty = s at *
      have HPL : Hid (∀ j, probe (hash s) j (8 * N) < 8 * N) := fun j => probe_lt (hash s) j (by omega)
      have HC : Hid (∀ (j : Nat) (w : World), j < 4 → Calls Tryz.prog 53 #[.int .u64 (hash s : Nat), .int .i64 j, .int .i64 (8 * (N : Int))] w fun e w' => e = .returned (.int .i64 (probe (hash s) j (8 * N) : Nat)) ∧ w' = w) := fun j w hj => by
        have := probeR_any (hash s) j (8 * N) (hash_lt s) hj (by omega) (by omega) w
        rw [show ((8 * N : Nat) : Int) = 8 * (N : Int) by omega] at this
        exact this
      have HH : Hid (∀ w : World, Calls Tryz.prog 52 #[.string s] w fun e w' => e = .returned (.int .u64 (hash s : Nat)) ∧ w' = w) := hashR_any s hsz
      clear hcells hx
      go_wp2_with fail
      refine (HH.out _).mono ?_
      rintro e w1 ⟨rfl, rfl⟩
      clear HH
      generalize w1 = w2 at *
      go_wp2
      go_loopw [8] (fun i wr => ∃ (j : Nat) (cs : List Bool), j ≤ 4 ∧ i = .int .i64 j ∧ Hid (PartB (xs.take k) (8 * N) s j cs) ∧ Hid (BitsAt wr w.heap.size cs) ∧ Hid (Below w.heap.size w wr)) (fun i _ => 4 - (intOf i).toNat)
      case atStart => exact ⟨0, bs, by omega, rfl, HP.out.other, HR, HB⟩
      case round =>
        obtain ⟨j, cs, hj, rfl, HP2, HR2, HB2⟩ := hrel
        by_cases hjl : j < 4
        · have HC2 : Hid _ := HC.out j wr hjl
          have hp := HPL.out j
          have HN2 : Hid _ := HP2.out.step (by omega)
          have hcl : cs.length = 8 * N := HP2.out.1
          have hd : probe (hash s) j (8 * N) < cs.length := by omega
          have hcell := HR2.out.cell hd
          have hfz := HR2.out.frozen (probe (hash s) j (8 * N))
          generalize probe (hash s) j (8 * N) = p at *
          have HSet : Hid _ := HR2.out.set p true
          have HBs : Hid (∀ v, Below w.heap.size w (wr.setCell ⟨w.heap.size, p, none⟩ v)) := fun v => HB2.out.setCell (Nat.le_refl _) v
          clear hcl
          go_wp2_with fail
          refine (show Calls _ _ _ _ _ from HC2.out).mono ?_
          rintro e w3 ⟨rfl, rfl⟩
          clear HC2
          go_wp2
          go_roundw
          case rel => exact ⟨j + 1, _, by omega, by go_num, HN2, HSet, HBs.out _⟩
          case measure => simp [intOf]; omega
        · have hj' : j = 4 := by omega
          subst hj'
          have HN3 : Hid (PartB (xs.take (k + 1)) (8 * N) ByteArray.empty 0 cs) := by rw [HX.out]; exact HP2.out.turn
          go_wp2
          go_roundw
          case rel => exact ⟨k + 1, cs, by omega, by go_num, HN3, HR2, HB2⟩
          case measure => simp [intOf]; omega
    · have hk' : k = xs.length := by omega
      subst hk'
      rw [List.take_length] at HP
      have HF : Hid (IsFilter xs (pack bs N)) := by have := HP.out; rw [HN.out] at this ⊢; exact this.done
      have hbl : bs.length = 8 * N := HP.out.1
      generalize wr = w2 at *
      have hs2 := HB.out.size
      have hbl2 := (Array.getElem?_eq_some_iff.1 (show w2.heap[w.heap.size]? = _ from HR.out)).1
      go_wp2
      go_loopw [9, 10] (fun v i wr => ∃ (k : Nat) (cs : List UInt8), k ≤ N ∧ i = .int .i64 k ∧ cs.length = k ∧ Hid (cs = pack bs k) ∧ Hid (wr.ownsRow w2.heap.size 5 1 v cs.length (cs.map B8)) ∧ Hid (Below w2.heap.size w2 wr)) (fun _ i _ => N - (intOf i).toNat)
      case atStart => exact ⟨0, [], by omega, rfl, rfl, hid_rfl, World.ownsRow_nil _ _ _ _, Below.refl _ _⟩
      case round =>
        obtain ⟨k, cs, hk, rfl, hcl, HJ, HO, HB2⟩ := hrel
        have hsr := HB2.out.size
        by_cases hkN : k < N
        · have HN := pack_succ bs k
          rw [← HJ.out] at HN
          have HJ2 : Hid _ := HN.symm
          have HBy : Hid _ := byteB_toNat bs k
          have HCl : Hid _ := hcl
          have hcl2 : cs.length + 1 ≤ 10995116277761 := by omega
          have HBits : Hid (BitsAt wr w.heap.size bs) := HR.out.keep (HB2.out.block _ hbl2)
          clear HN hcl
          generalize byteB bs k = c at *
          go_wp2
          go_loop [11, 12] (fun x i => ∃ t u m : Nat, t ≤ 8 ∧ u + t = 8 ∧ i = .int .i64 ((t : Int) - 1) ∧ x = .int .u8 m ∧ m < 256 ∧ Hid (m = val (bitOf bs k) t u)) (fun _ i => (intOf i + 1).toNat)
          case atStart => exact ⟨8, 0, 0, by omega, by omega, rfl, rfl, by omega, hid_rfl⟩
          case round =>
            obtain ⟨t, u, m, ht, hut, rfl, rfl, hm, HM⟩ := hrel
            rcases t with _ | t
            · have hu : u = 8 := by omega
              subst hu
              obtain rfl : m = c.toNat := by rw [HM.out, HBy.out]
              clear HM HBy
              go_wp2_with (at_builtin; refine wpList_append_any _ rfl _ _ 76 rfl w2.heap.size 5 i1 (.int .u8 0) 1 Tryz.underlying76 hi1 hy0 hy1 hy2 rfl u9 cs.length (cs.map B8) rfl (HO.out.alloc _) (some ⟨wr.heap.size, 0, none⟩) 1 1 [B8 c] rfl (by simp) rfl ?c0 ?c1 ?c2 ?c3 ?c4 ?_)
              case c0 => exact bytes_one c wr
              case c1 => rfl
              case c2 => unfold maxLen; omega
              case c3 => omega
              case c4 => omega
              intro v' w4 hown4 hg4 hat4
              have HO4 : Hid (w4.ownsRow w2.heap.size 5 1 v' (cs ++ [c]).length ((cs ++ [c]).map B8)) := by
                show World.ownsRow _ _ _ _ _ _ _
                rw [List.length_append, List.map_append]; exact hown4
              have HB4 : Hid (Below w2.heap.size w2 w4) := (HB2.out.alloc (by omega) _).grown hg4 (by simp; omega) (fun j hj => (HO.out.lt j hj).1)
              clear hown4 hg4 hat4 HO HB2 HBits
              go_wp2
              go_roundw
              case rel => exact ⟨k + 1, cs ++ [c], by omega, by go_num, by have := HCl.out; simp; omega, HJ2, HO4, HB4⟩
              case measure => simp [intOf]; omega
            · rw [show (((t + 1 : Nat) : Int) - 1) = (t : Int) by omega]
              have hm7 : m ≤ 127 := by rw [HM.out]; exact val_small (by omega)
              have hd : 8 * k + t < bs.length := by omega
              have hcell := HBits.out.cell hd
              have HV : Hid (val (bitOf bs k) t (u + 1) = 2 * m + (if bs.getD (8 * k + t) false = true then 1 else 0)) := by rw [HM.out]; exact hid_rfl
              rcases Bool.eq_false_or_eq_true (bs.getD (8 * k + t) false) with hb | hb
              · rw [hb] at hcell HV
                clear hb
                go_wp2
                go_round
                case rel => exact ⟨t, u + 1, 2 * m + 1, by omega, by omega, rfl, by go_num, by omega, by rw [HV.out]; exact hid_rfl⟩
                case measure => simp [intOf]
              · rw [hb] at hcell HV
                clear hb
                go_wp2
                go_round
                case rel => exact ⟨t, u + 1, 2 * m, by omega, by omega, rfl, by go_num, by omega, by rw [HV.out]; exact hid_rfl⟩
                case measure => simp [intOf]
        · have hk' : k = N := by omega
          subst hk'
          have hcv : (convert 76 9 u9).run Tryz.prog wr = .ok (.string ⟨cs.toArray⟩) wr := own_string HO.out
          have HF2 : Hid (IsFilter xs cs) := by rw [HJ.out]; exact HF
          have HB4 : Hid (Below w.heap.size w wr) := HB.out.trans (HB2.out.mono hs2)
          clear HO HJ hcl
          go_wp2
          go_ret
          exact ⟨⟨_, rfl, HF2.out⟩, HB4.out⟩

end Go.Proofs.YtedjohkdfchocaaGreat.Bl
