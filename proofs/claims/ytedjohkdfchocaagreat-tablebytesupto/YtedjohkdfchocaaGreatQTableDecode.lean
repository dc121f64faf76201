/-
  The texts TableDecode.
-/
import Derived.Test.YtedjohkdfchocaaGreatQTableMath
import Derived.Test.YtedjohkdfchocaaGreatQBlockDecodeWalk

/-
  Package table: 'decode' answers the versions of the blocks, one behind the other.
-/
namespace Go.Proofs.YtedjohkdfchocaaGreat.Tb
open Go.RowKit Cm Mm Bk
open Pk (dnum RdAt)
set_option linter.unusedVariables false

def TDecAns (w : World) (ps : List ByteArray) (e : Ending) (w' : World) : Prop :=
  ((∃ es v, Reads ps es ∧ e = .returned (.tuple #[v, .int .i64 0]) ∧ w'.ownsRow w.heap.size 25 4 v es.length (enShape.vals es)) ∨ ((∃ i, i < ps.length ∧ ∀ es, IsBlock (bs (ps.getD i ByteArray.empty)) es → 8 < es.length) ∧ e = .returned (.tuple #[.slice none 0 0, .int .i64 10]))) ∧ Below w.heap.size w w'
theorem TDecAns.bad {w w' : World} {ps : List ByteArray} {i : Nat} (hi : i < ps.length) (h : ∀ es, IsBlock (bs (ps.getD i ByteArray.empty)) es → 8 < es.length) (hb : Below w.heap.size w w') : TDecAns w ps (.returned (.tuple #[.slice none 0 0, .int .i64 10])) w' := ⟨.inr ⟨⟨i, hi, h⟩, rfl⟩, hb⟩
theorem take_text {ps : List ByteArray} {k : Nat} (h : k < ps.length) : ps.take (k + 1) = ps.take k ++ [ps.getD k ByteArray.empty] := by
  rw [List.take_succ_eq_append_getElem h, getD_lt _ _ _ h]
theorem text_cell {w : World} {ao : Option Addr} {ps : List ByteArray} (h : CellsAt w ao (strVals ps)) {k : Nat} (hk : k < ps.length) : ∃ b off, ao = some ⟨b, off, none⟩ ∧ w.cell? ⟨b, off + k, none⟩ = some (.string (ps.getD k ByteArray.empty)) := by
  rcases h with h | ⟨b, off, e, _, hc⟩
  · simp [strVals] at h; subst h; cases hk
  · refine ⟨b, off, e, ?_⟩
    rw [hc k (by simpa [strVals] using hk), getD_lt _ _ _ hk]
    simp [strVals, hk]
theorem grown_below {w X Y : World} {B n k : Nat} {e : TypeId} {v : Value} {vs : List Value} (hb : Below B w X) (hB : B ≤ w.heap.size) (hown : X.ownsRow B e k v n vs) (hg : X.grownBy Y v.ownBlock) : Below B w Y :=
  hb.grown hg (by have := hb.size; omega) (fun j hj => (hown.lt j hj).1)
set_option maxRecDepth 100000 in
set_option maxHeartbeats 1000000 in
theorem decode_any (bo : Option Addr) (ca : Nat) (ps : List ByteArray) (w : World) (hc : CellsAt w bo (strVals ps)) (hsm : ∀ p ∈ ps, p.size ≤ 65536) (hl : ps.length ≤ 1000000000) (ht : total ps ≤ 1000000000) :
    Calls Tryz.prog 29 #[.slice bo ps.length ca] w fun e w' => TDecAns w ps e w' := by
  obtain ⟨i0, hi, hz0, hz1, hz2⟩ := info_parts infoEn
  have HC : Hid (∀ X, Below w.heap.size w X → CellsAt X bo (strVals ps)) := fun X hX => hc.below hX
  have HSM : Hid (∀ k, k < ps.length → (ps.getD k ByteArray.empty).size ≤ 65536) := fun k hk => by rw [getD_lt _ _ _ hk]; exact hsm _ (List.getElem_mem hk)
  have HGR : Hid (∀ k es, k ≤ ps.length → Reads (ps.take k) es → es.length ≤ 1000000000) := fun k es hk h => by
    have h1 := (h.great (fun p hp => hsm p (List.mem_of_mem_take hp))).1
    have h2 := Fr.total_take ps k
    omega
  clear hc hsm
  go_enter Tryz.func29, Tryz.ntmps29
  go_wp2
  go_loopw [4, 12] (fun v i wr => ∃ (k : Nat) (es : List En), k ≤ ps.length ∧ i = .int .i64 k ∧ Hid (Reads (ps.take k) es) ∧ Hid (wr.ownsRow w.heap.size 25 4 v es.length (enShape.vals es)) ∧ Hid (Below w.heap.size w wr)) (fun _ i _ => ps.length - (intOf i).toNat)
  case atStart => exact ⟨0, [], by omega, rfl, (by show Reads _ _; exact rfl), World.ownsRow_nil _ _ _ _, Below.refl _ _⟩
  case round =>
    obtain ⟨k, es, hk, rfl, HR, HO, HB⟩ := hrel
    by_cases hlt : k < ps.length
    · obtain ⟨b, off, rfl, c0⟩ := text_cell (HC.out wr HB.out) hlt
      have hk0 : (0 : Int) ≤ (k : Int) := by omega
      have hk1 : (k : Int) < (ps.length : Int) := by omega
      have HS : Hid _ := HSM.out k hlt
      have HLB : Hid _ := HGR.out k es hk HR.out
      have HGN : Hid (∀ a, IsBlock (bs (ps.getD k ByteArray.empty)) a → Reads (ps.take (k + 1)) (es ++ a) ∧ (es ++ a).length ≤ 1000000000) := fun a ha => by
        have h := HR.out.snoc ha
        rw [← take_text hlt] at h
        exact ⟨h, HGR.out _ _ (by omega) h⟩
      have HBAD : Hid (∀ X, (∀ a, IsBlock (bs (ps.getD k ByteArray.empty)) a → 8 < a.length) → Below w.heap.size w X → TDecAns w ps (.returned (.tuple #[.slice none 0 0, .int .i64 10])) X) := fun X h hb => TDecAns.bad hlt h hb
      generalize ps.getD k ByteArray.empty = T at *
      obtain ⟨v, hv⟩ : ∃ v, v = u4 := ⟨_, rfl⟩
      clear HC HSM HGR HR
      have HRD : Hid _ := Pk.read_any T wr
      obtain ⟨X1, hX1⟩ : ∃ X1, X1 = wr.alloc (.cells #[.string T] 136) := ⟨_, rfl⟩
      have HX1 : Hid (Below wr.heap.size wr X1 ∧ RdAt X1 wr.heap.size T) := by rw [hX1]; exact ⟨(Below.refl _ _).alloc (Nat.le_refl _) _, Pk.read_at wr T⟩
      rw [← hX1] at HRD
      clear hX1
      go_wp2_with fail
      refine (show Calls _ _ _ _ _ from HRD.out).mono ?_
      rintro e X1' ⟨rfl, rfl⟩
      rcases hd : dnum T.data.toList with _ | ⟨n, m⟩
      · have HN : Hid _ := Pk.rNum_none wr.heap.size T X1' HX1.out.2 (by have := HS.out; unfold maxLen; omega) hd
        have HNO : Hid (∀ a, IsBlock (bs T) a → 8 < a.length) := fun a ha => absurd ha (Led.none hd a)
        clear hd HRD
        go_wp2_with fail
        refine (show Calls _ _ _ _ _ from HN.out).mono ?_
        rintro e X2 ⟨rfl, rfl⟩
        go_wp2
        go_ret2
        exact HBAD.out _ HNO.out (HB.out.trans (HX1.out.1.mono HB.out.size))
      · have HN : Hid _ := Pk.rNum_some wr.heap.size T X1' HX1.out.2 (by have := HS.out; unfold maxLen; omega) n m hd
        obtain ⟨X2, hX2⟩ : ∃ X2, X2 = X1'.setCell ⟨wr.heap.size, 0, none⟩ (.string (T.extract m T.size)) := ⟨_, rfl⟩
        have HX2 : Hid (Below wr.heap.size wr X2) := by rw [hX2]; exact HX1.out.1.setCell (p := ⟨wr.heap.size, 0, none⟩) (Nat.le_refl _) _
        have HNB : Hid (8 < n → ∀ a, IsBlock (bs T) a → 8 < a.length) := fun h a ha => by
          have h1 := ha.number
          have h2 : dnum (bs T) = some (n, m) := hd
          rw [h2] at h1
          cases h1
          exact h
        have hnl := (Pk.dnum_some hd).1
        rw [← hX2] at HN
        clear hd HRD hX2
        by_cases hn8 : 8 < n
        · have HNO : Hid _ := HNB.out hn8
          have hn8' : decide (8 < (n : Int)) = true := decide_eq_true (by omega)
          clear HNB
          go_wp2_with fail
          refine (show Calls _ _ _ _ _ from HN.out).mono ?_
          rintro e X2' ⟨rfl, rfl⟩
          go_wp2
          go_ret2
          exact HBAD.out _ HNO.out (HB.out.trans (HX2.out.mono HB.out.size))
        · have hn8' : decide (8 < (n : Int)) = false := decide_eq_false (by omega)
          have hn9 : ¬ (8 : Int) < (n : Int) := by omega
          clear HNB
          have HDE : Hid (∀ X, Calls Tryz.prog 58 #[.string T] X fun e w' => DecAns X (bs T) e w') := fun X => Bk.decode_any T X (by have := HS.out; omega)
          go_wp2_with fail
          refine (show Calls _ _ _ _ _ from HN.out).mono ?_
          rintro e X2' ⟨rfl, rfl⟩
          clear HN
          go_wp2_with fail
          refine (show Calls _ _ _ _ _ from HDE.out _).mono ?_
          rintro e X3 (⟨a, va, hI, rfl, hoa, hb3⟩ | ⟨hno, rfl, hb3⟩)
          · obtain ⟨ga, ca', rfl, hn1, _, _, hel⟩ := own_rows (F := enShape) (show X3.ownsRow _ _ enShape.sz _ _ _ from hoa)
            have hb13 : Below wr.heap.size wr X3 := HX2.out.trans (hb3.mono HX2.out.size)
            have ho3 : X3.ownsRow w.heap.size 25 enShape.sz u4 es.length (enShape.vals es) := rows_keep HO.out (fun j hj => hb13.block j (World.ownsRow.lt HO.out j hj).2)
            have hB3 : Below w.heap.size w X3 := HB.out.trans (hb13.mono HB.out.size)
            have HO3 : Hid _ := ho3
            have HB3 : Hid _ := hB3
            obtain ⟨hg1, hg2⟩ := HGN.out a hI
            have HG1 : Hid _ := hg1
            rw [List.length_append] at hg2
            have hs3 := hB3.size
            clear hI hoa hb3 hb13 hg1 HO HB HX1 HX2 HDE HGN HBAD ho3 hB3
            go_wp2_with (at_builtin; refine wpList_append_rows (F := enShape) _ rfl _ _ 22 rfl w.heap.size 25 i0 _ 48 Tryz.underlying22 hi hz0 hz1 hz2 rfl u4 es.length es rfl HO3.out ga a.length ca' a rfl hn1 rfl hel ?c1 ?c2 ?c3 ?_)
            case c1 => unfold maxLen; omega
            case c2 => omega
            case c3 => omega
            intro v4 X4 hown4 hgrow4 hat4
            have HO4 : Hid (X4.ownsRow w.heap.size 25 4 v4 (es ++ a).length (enShape.vals (es ++ a))) := by rw [List.length_append]; exact hown4
            have HB4 : Hid (Below w.heap.size w X4) := grown_below HB3.out (Nat.le_refl _) HO3.out hgrow4
            clear hown4 hgrow4 hat4 HO3 HB3 hel
            go_wp2
            go_roundw
            case rel => exact ⟨k + 1, es ++ a, by omega, by go_num, HG1, HO4, HB4⟩
            case measure => simp [intOf]; omega
          · have HNO : Hid (∀ a, IsBlock (bs T) a → 8 < a.length) := fun a ha => absurd ha (hno a)
            have HB3 : Hid (Below w.heap.size w X3) := HB.out.trans ((HX2.out.trans (hb3.mono HX2.out.size)).mono HB.out.size)
            clear hno hb3
            go_wp2
            go_ret2
            exact HBAD.out _ HNO.out HB3.out
    · obtain rfl : k = ps.length := by omega
      have HR' : Hid (Reads ps es) := by have := HR.out; rw [List.take_length] at this; exact this
      clear HR HC HSM HGR
      go_wp2
      go_ret2
      exact ⟨.inl ⟨es, _, HR'.out, rfl, HO.out⟩, HB.out⟩
end Go.Proofs.YtedjohkdfchocaaGreat.Tb
