/-
  The texts BloomBuild.
-/
import Derived.Test.YtedjohkdfchocaaGreatQBloomMay
import Derived.Laws.MakeOwn

/-
  Package bloom: the filter of keys.
-/
namespace Go.Proofs.YtedjohkdfchocaaGreat.Bl
open Go.RowKit Cm
set_option linter.unusedVariables false

/-- The bytes lie in a block of their own. -/
def RowAt (w : World) (g : Nat) (bs : List UInt8) : Prop := w.heap[g]? = some (.cells (bs.map B8).toArray 5)
theorem RowAt.cell {w : World} {g : Nat} {bs : List UInt8} (h : RowAt w g bs) {j : Nat} (hj : j < bs.length) : w.cell? ⟨g, j, none⟩ = some (.int .u8 ((bs.getD j 0).toNat : Int)) := by
  rw [Joins.cell_of_block h]
  simp [hj, B8]
theorem RowAt.frozen {w : World} {g : Nat} {bs : List UInt8} (h : RowAt w g bs) (j : Nat) : w.frozen? ⟨g, j, none⟩ = false := by
  simp [World.frozen?, show w.heap[g]? = _ from h]
theorem RowAt.set {w : World} {g : Nat} {bs : List UInt8} (h : RowAt w g bs) (j : Nat) (c : UInt8) : RowAt (w.setCell ⟨g, j, none⟩ (B8 c)) g (bs.set j c) := by
  unfold RowAt
  rw [Joins.block_setCell h]
  simp
theorem RowAt.below {w w' : World} {g : Nat} {bs : List UInt8} (h : RowAt w g bs) (hb : Below w.heap.size w w') : RowAt w' g bs :=
  (hb.block g (Array.getElem?_eq_some_iff.1 h).1).trans h
theorem made_zeros (n : Nat) : madeCells (Value.int .u8 0).cells (n * 1) = ((List.replicate n (0 : UInt8)).map B8).toArray := by
  apply Array.ext'
  rw [List.toList_toArray]
  apply List.ext_getElem
  · simp [madeCells]
  · intro i h1 h2
    simp [madeCells, B8, Value.cells, Nat.mod_one]
theorem Part.other {xs : List ByteArray} {m : Nat} {x y : ByteArray} {f : List UInt8} (h : Part xs m x 0 f) : Part xs m y 0 f :=
  ⟨h.1, fun q hq => by rw [h.2 q hq]; simp⟩
theorem or_set (c : UInt8) (p : Nat) : Value.int .u8 (bits .or .u8 (c.toNat : Int) (2 ^ (p % 8) % 256)) = B8 (UInt8.ofNat (c.toNat ||| 2 ^ (p % 8))) := by
  have hl := or_pow_lt c (p % 8) (by omega)
  have h2 : 2 ^ (p % 8) < 2 ^ 8 := Nat.pow_lt_pow_right (by decide) (Nat.mod_lt p (by decide))
  have hc := c.toNat_lt
  unfold B8
  rw [UInt8.toNat_ofNat_of_lt' hl]
  have e0 : ((2 : Int) ^ (p % 8)) = ((2 ^ (p % 8) : Nat) : Int) := by simp
  rw [e0]
  generalize 2 ^ (p % 8) = y at *
  rw [show (y : Int) % 256 = (y : Int) by omega, u8_or_nat _ _ (by omega) (by omega)]
theorem idx_any (h m k : Nat) (hk : k < 4) (w : World) : (Instr.index 91 (probesV h m) (.int .i64 k)).run Tryz.prog w = .ok (.int .u64 (probe h k m : Nat)) w := by
  match k, hk with
  | 0, _ => exact idx0 _ _ _ _ _
  | 1, _ => exact idx1 _ _ _ _ _
  | 2, _ => exact idx2 _ _ _ _ _
  | 3, _ => exact idx3 _ _ _ _ _

set_option maxHeartbeats 1000000 in
theorem build_any (ao : Option Addr) (cap : Nat) (xs : List ByteArray) (w : World) (hc : CellsAt w ao (strVals xs)) (hlen : xs.length ≤ 8796093022208) (hs : ∀ x ∈ xs, x.size ≤ 9223372036854775807) :
    Calls Tryz.prog 17 #[.slice ao xs.length cap] w fun e w' => (∃ f : ByteArray, e = .returned (.string f) ∧ IsFilter xs f.data.toList) ∧ Below w.heap.size w w' := by
  obtain ⟨i0, hi0, hz0, hz1, hz2⟩ := info_parts info8
  obtain ⟨N, hN⟩ : ∃ N, N = len xs.length := ⟨_, rfl⟩
  have hN1 : N = (10 * xs.length + 7) / 8 := hN
  have hNl : N ≤ 10995116277761 := by omega
  obtain ⟨Z, hZ⟩ : ∃ Z, Z = ((List.replicate N (0 : UInt8)).map B8).toArray := ⟨_, rfl⟩
  have hmk : ∀ w : World, (Instr.makeSlice 76 (.int .i64 N) (.int .i64 N)).run Tryz.prog w = .ok (.slice (some ⟨w.heap.size, 0, none⟩) N N) (w.alloc (.cells Z 5)) := fun w => by
    have := run_make (P := Tryz.prog) w 76 5 i0 (.int .u8 0) Tryz.underlying76 hi0 hz0 .i64 .i64 N N (by omega) (by omega) (by rw [hz2]; omega) (by omega)
    rw [hz1] at this
    simp only [Int.toNat_natCast, made_zeros] at this
    rw [hZ]
    exact this
  have hq : (10 * (xs.length : Int) + 7) / 8 = N := by omega
  have HN1 : Hid _ := hN1
  have HN : Hid _ := hN
  have HZ : Hid (RowAt (w.alloc (.cells Z 5)) w.heap.size (List.replicate N 0)) := by rw [hZ]; exact heap_alloc_new w _
  clear hN1 hN hZ hi0 hz0 hz1 hz2
  have HS : Hid _ := hs
  clear hs
  go_enter Tryz.func17, Tryz.ntmps17
  go_wp2
  clear hq hmk
  go_loopw [16] (fun i wr => ∃ (k : Nat) (bs : List UInt8), k ≤ xs.length ∧ i = .int .i64 k ∧ Hid (Part (xs.take k) (8 * N) ByteArray.empty 0 bs) ∧ Hid (RowAt wr w.heap.size bs) ∧ Hid (Below w.heap.size w wr)) (fun i _ => xs.length - (intOf i).toNat)
  case atStart => exact ⟨0, List.replicate N 0, by omega, rfl, Part.start N _, HZ, (Below.refl _ _).alloc (Nat.le_refl _) _⟩
  case round =>
    obtain ⟨k, bs, hk, rfl, HP, HR, HB⟩ := hrel
    by_cases hlt : k < xs.length
    · rcases hc.below HB.out with h0 | ⟨b, off, rfl, hbl, hcells⟩
      · have : xs.length = 0 := by have := congrArg List.length h0; simpa [strVals] using this
        omega
      have hck := hcells k (by simpa [strVals] using hlt)
      have hx : (strVals xs)[k]? = some (.string (xs.getD k ByteArray.empty)) := by simp [strVals, hlt]
      have hsz : (xs.getD k ByteArray.empty).size ≤ 9223372036854775807 := HS.out _ (by rw [getD_lt _ _ _ hlt]; exact List.getElem_mem hlt)
      have HX : Hid (xs.take (k + 1) = xs.take k ++ [xs.getD k ByteArray.empty]) := by rw [List.take_succ_eq_append_getElem hlt, getD_lt _ _ _ hlt]; exact hid_rfl
      rw [hx] at hck
      generalize xs.getD k ByteArray.empty = s at *
      have hNp : 0 < N := by have := HN1.out; omega
      have HC : Hid (Calls Tryz.prog 46 #[.string s, .int .i64 N] wr fun e w' => e = .returned (probesV (hash s) (8 * N)) ∧ Below wr.heap.size wr w') := probes_any s hsz N hNp (by omega) wr
      have HI : Hid _ := idx_any (hash s) (8 * N)
      have HPL : Hid (∀ j, probe (hash s) j (8 * N) < 8 * N) := fun j => probe_lt (hash s) j (by omega)
      generalize probesV (hash s) (8 * N) = V at *
      clear hcells hx
      go_wp2_with fail
      refine HC.out.mono ?_
      rintro e w1 ⟨rfl, hb1⟩
      have HR1 : Hid _ := HR.out.below hb1
      have HB1 : Hid (Below w.heap.size w w1) := HB.out.trans (hb1.mono HB.out.size)
      clear HC hb1 HR HB
      go_wp2
      go_loopw [24] (fun i wr => ∃ (j : Nat) (cs : List UInt8), j ≤ 4 ∧ i = .int .i64 j ∧ Hid (Part (xs.take k) (8 * N) s j cs) ∧ Hid (RowAt wr w.heap.size cs) ∧ Hid (Below w.heap.size w wr)) (fun i _ => 4 - (intOf i).toNat)
      case atStart => exact ⟨0, bs, by omega, rfl, HP.out.other, HR1, HB1⟩
      case round =>
        obtain ⟨j, cs, hj, rfl, HP2, HR2, HB2⟩ := hrel
        by_cases hjl : j < 4
        · have hi := HI.out j hjl
          have hp := HPL.out j
          have HN2 : Hid _ := HP2.out.step (by omega)
          have hcl : 8 * cs.length = 8 * N := HP2.out.1
          have hd : probe (hash s) j (8 * N) / 8 < cs.length := by omega
          have hcell := HR2.out.cell hd
          have hfz := HR2.out.frozen (probe (hash s) j (8 * N) / 8)
          unfold setBit at HN2
          generalize probe (hash s) j (8 * N) = p at *
          have HSet : Hid _ := fun c => HR2.out.set (p / 8) c
          have HBs : Hid (∀ v, Below w.heap.size w (wr.setCell ⟨w.heap.size, p / 8, none⟩ v)) := fun v => HB2.out.setCell (Nat.le_refl _) v
          generalize cs.getD (p / 8) 0 = c at *
          have hpN : p / 8 < N := by omega
          clear hcl
          go_wp2
          go_roundw
          case rel => rw [or_set]; exact ⟨j + 1, _, by omega, by go_num, HN2, HSet.out _, HBs.out _⟩
          case measure => simp [intOf]; omega
        · have hj' : j = 4 := by omega
          subst hj'
          have HN3 : Hid (Part (xs.take (k + 1)) (8 * N) ByteArray.empty 0 cs) := by rw [HX.out]; exact HP2.out.turn
          go_wp2
          go_roundw
          case rel => exact ⟨k + 1, cs, by omega, by go_num, HN3, HR2, HB2⟩
          case measure => simp [intOf]; omega
    · have hk' : k = xs.length := by omega
      subst hk'
      rw [List.take_length] at HP
      have HF : Hid (IsFilter xs bs) := by have := HP.out; rw [HN.out] at this; exact this.done
      have hbl : bs.length = N := by have := HP.out.1; omega
      have hst : (convert 76 9 (.slice (some ⟨w.heap.size, 0, none⟩) N N)).run Tryz.prog wr = .ok (.string ⟨bs.toArray⟩) wr := by
        rw [← hbl]
        refine run_convert_bytes_back wr 76 9 5 ⟨w.heap.size, 0, none⟩ _ bs Tryz.underlying76 Tryz.underlying5 Tryz.underlying9 fun j hj => ?_
        have := HR.out.cell hj
        rw [getD_lt _ _ _ hj] at this
        rw [Go.WideShapes.add_plain]
        simpa using this
      clear hbl
      go_wp2
      go_ret
      exact ⟨⟨_, rfl, HF.out⟩, HB.out⟩

end Go.Proofs.YtedjohkdfchocaaGreat.Bl
