/-
  The texts TableLives.
-/
import Derived.Test.YtedjohkdfchocaaGreatQTableKit
import Derived.Test.YtedjohkdfchocaaGreatQTableCalls

/-
  The statements' own example: nine versions of one key, in two blocks.
-/
namespace Go.Proofs.YtedjohkdfchocaaGreat.Tb
open Go.RowKit Cm Mm Bk
open Fr (framesB str sealed)
set_option linter.unusedVariables false

def ninth (i : Nat) : En := ⟨⟨#[107]⟩, 9 - (i : Int), false, ⟨#[118]⟩⟩
def nine (k : Nat) : List En := (List.range k).map ninth
theorem nine_succ (k : Nat) : nine (k + 1) = nine k ++ [ninth k] := by simp [nine, List.range_succ]
theorem nine_len (k : Nat) : (nine k).length = k := by simp [nine]
theorem nine_right : right (nine 9) = true := by decide
theorem nine_ok : AllOk (nine 9) := fun e he => by
  obtain ⟨i, hi, rfl⟩ := List.mem_map.1 he
  have : i < 9 := by simpa using hi
  exact ⟨by show _ ≤ (9 : Int) - i; omega, by show (9 : Int) - i ≤ _; omega⟩
theorem nine_small : (nine 9).length + bytesE (nine 9) ≤ 1048576 := by decide
theorem pays_small {es : List En} (h : es.length + bytesE es ≤ 1000) : ∀ x ∈ tpays es, x.size ≤ 65536 := fun x hx => by
  have h1 := index_len es (nch es) (Nat.le_refl _)
  have h3 := bytes_take es (8 * nch es)
  have h6 : nch es ≤ (es.length + 7) / 8 := Nat.le_refl _
  rcases List.mem_append.1 hx with hx | hx
  · obtain ⟨k, hk, rfl⟩ := List.mem_map.1 hx
    have h4 := block_len (chunk es k)
    have h5 := chunk_bytes es k
    have h7 := chunk_len es k
    unfold blk
    rw [Fr.str_size]
    omega
  · simp only [tailB, List.mem_cons, List.not_mem_nil, or_false] at hx
    rcases hx with rfl | rfl | rfl
    · rw [Fr.str_size]; omega
    · rw [Fr.str_size, filt_len]
      have := ks_len es es.length
      unfold keysE Bl.len
      omega
    · have h7 := (Pk.enc_len (place es (nch es))).2
      have h8 := (Pk.enc_len es.length).2
      rw [Fr.str_size]
      simp only [footer, List.length_append, List.length_cons, List.length_nil]
      omega
theorem nine_table : tableV (nine 9) = .tuple #[.string (str (framesB (tpays (nine 9)))), .int .i64 0] := by
  unfold tableV
  rw [nine_right, if_pos rfl, Fr.sealed_ok (pays_small (by decide))]
theorem nine_get : getE (nine 9) ⟨#[107]⟩ 4 = some (ninth 5) := by rfl
theorem nine_nch : nch (nine 9) = 2 := by decide
set_option maxRecDepth 100000 in
set_option maxHeartbeats 1000000 in
theorem lives_any (w : World) : Calls Tryz.prog 4 #[] w fun e w' => e = .returned (.bool true) ∧ Below w.heap.size w w' := by
  obtain ⟨i0, hi, hz0, hz1, hz2⟩ := info_parts infoEn
  go_enter Tryz.func4, Tryz.ntmps4
  go_wp2
  go_loopw [1, 2] (fun v i wr => ∃ k : Nat, k ≤ 9 ∧ i = .int .i64 k ∧ Hid (wr.ownsRow w.heap.size 25 4 v (nine k).length (enShape.vals (nine k))) ∧ Hid (Below w.heap.size w wr)) (fun _ i _ => 9 - (intOf i).toNat)
  case atStart => exact ⟨0, by omega, rfl, World.ownsRow_nil _ _ _ _, Below.refl _ _⟩
  case round =>
    obtain ⟨k, hk, rfl, HO, HB⟩ := hrel
    by_cases hlt : k < 9
    · have hel : ElemsAt enShape (wr.alloc (entObj (ninth k))) (some ⟨wr.heap.size, 0, none⟩) [ninth k] := elems1 (ninth k)
      unfold entObj ninth at hel
      have ho := World.ownsRow.alloc HO.out (.cells #[.string ⟨#[107]⟩, .int .i64 (9 - (k : Int)), .bool false, .string ⟨#[118]⟩] 25)
      rw [nine_len] at ho
      have hsz := HB.out.size
      have HOA : Hid _ := ho
      have HN : Hid _ := nine_succ k
      clear ho
      go_wp2_with (at_builtin; refine wpList_append_rows (F := enShape) _ rfl _ _ 22 rfl w.heap.size 25 i0 _ 48 Tryz.underlying22 hi hz0 hz1 hz2 rfl u1 k (nine k) rfl HOA.out (some ⟨wr.heap.size, 0, none⟩) 1 1 [⟨⟨#[107]⟩, 9 - (k : Int), false, ⟨#[118]⟩⟩] rfl (by simp) rfl hel ?d1 ?d2 ?d3 ?_)
      case d1 => unfold maxLen; omega
      case d2 => omega
      case d3 => omega
      intro v3 w3 hown3 hgrow3 hat3
      have HO3 : Hid (w3.ownsRow w.heap.size 25 4 v3 (nine (k + 1)).length (enShape.vals (nine (k + 1)))) := by
        rw [nine_len, HN.out]
        exact hown3
      have HB3 : Hid (Below w.heap.size w w3) := grown_below (HB.out.alloc hsz _) (Nat.le_refl _) HOA.out hgrow3
      clear hown3 hgrow3 hat3 hel HOA HO HB
      go_wp2
      go_roundw
      case rel => exact ⟨k + 1, by omega, by go_num, HO3, HB3⟩
      case measure => simp [intOf]; omega
    · obtain rfl : k = 9 := by omega
      obtain ⟨ao, ca, rfl, _, _, hca, hel⟩ := own_rows (F := enShape) (show wr.ownsRow _ _ enShape.sz _ _ _ from HO.out)
      have HBU : Hid _ := build_any ao ca (nine 9) wr hel nine_ok hca (small_of nine_small)
      rw [nine_table] at HBU
      have HIT : Hid _ := built nine_ok nine_small nine_table
      rw [nine_len] at HBU hca
      clear hel HO
      rw [nine_len]
      generalize str (framesB (tpays (nine 9))) = S at *
      go_wp2_with fail
      refine (show Calls _ _ _ _ _ from HBU.out).mono ?_
      rintro e w1 ⟨rfl, hb1⟩
      have HB1 : Hid (Below w.heap.size w w1) := HB.out.trans (hb1.mono HB.out.size)
      clear hb1 HBU HB
      go_wp2_with fail
      refine (open_any S w1 (by have := HIT.out.2; omega)).mono ?_
      intro e w2 hA
      obtain ⟨b, rfl, ht, hsm⟩ := open_built HIT.out.1 hA
      have HB2 : Hid (Below w.heap.size w w2) := HB1.out.trans (hA.2.mono HB1.out.size)
      have HG : Hid _ := tGet_any b (nine 9) ⟨#[107]⟩ 4 w2 w1 w1.heap.size ht (right_sorted nine_right) (Nat.le_refl _) (by rw [nine_len]; omega)
      rw [nine_get] at HG
      have HT : Hid (∀ X, Below w2.heap.size w2 X → TabAt w1 w1.heap.size b (nine 9) X) := fun X hX => ht.later (Nat.le_refl _) hX
      unfold foundT env ninth at HG
      clear hA ht hsm HIT HB1
      go_wp2_with fail
      refine (show Calls _ _ _ _ _ from HG.out).mono ?_
      rintro e w3 ⟨rfl, hb3⟩
      have HLN : Hid (∀ X, Below w2.heap.size w2 X → Calls Tryz.prog 12 #[.pointer (some ⟨b, 0, none⟩)] X fun e w' => e = .returned (.int .i64 9) ∧ w' = X) := fun X hX => by
        have := tLen_any b (nine 9) X w1 _ (HT.out X hX)
        rwa [nine_len] at this
      have HBL : Hid (∀ X, Below w2.heap.size w2 X → Calls Tryz.prog 13 #[.pointer (some ⟨b, 0, none⟩)] X fun e w' => e = .returned (.int .i64 2) ∧ w' = X) := fun X hX => by
        have := tBlocks_any b (nine 9) X w1 _ (HT.out X hX) (by rw [nine_len]; omega)
        rwa [nine_nch] at this
      have HB3 : Hid _ := hb3
      have HB23 : Hid (Below w.heap.size w w3) := HB2.out.trans (hb3.mono HB2.out.size)
      clear hb3 HG HT HB2
      go_wp2_with (first | (go_at_call 12; refine (show Calls _ _ _ _ _ from HLN.out _ (HB3.out.alloc HB3.out.size _)).mono ?_; rintro e wa ⟨rfl, rfl⟩) | (go_at_call 13; refine (show Calls _ _ _ _ _ from HBL.out _ (HB3.out.alloc HB3.out.size _)).mono ?_; rintro e wb ⟨rfl, rfl⟩))
      go_ret
      exact ⟨rfl, HB23.out.alloc HB23.out.size _⟩
end Go.Proofs.YtedjohkdfchocaaGreat.Tb
