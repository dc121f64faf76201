/-
  The texts TableRefBlocks.
-/
import Derived.Test.YtedjohkdfchocaaQTableMath
import Derived.Test.YtedjohkdfchocaaPart1
import Derived.BigQuiet

/-
  The document's answer for layer 9: the versions eight by eight; their keys, each once.
-/
namespace Go.Proofs.Ytedjohkdfchocaa.Tb
open Go.RowKit Cm Mm Bk
set_option linter.unusedVariables false

def slv (b off : Nat) (es : List En) (ca j : Nat) : Value := .slice (some ⟨b, off + 8 * j * 4, none⟩) (chunk es j).length (ca - 8 * j)
def slvs (b off : Nat) (es : List En) (ca k : Nat) : List Value := (List.range k).map (slv b off es ca)
theorem slvs_succ (b off : Nat) (es : List En) (ca k : Nat) : slvs b off es ca (k + 1) = slvs b off es ca k ++ [slv b off es ca k] := by simp [slvs, List.range_succ]
theorem infoSl : (Try.prog.info? 23).map (fun i => (i.zero, i.size, i.bytes)) = some (some (.slice none 0 0), 1, 24) := by kernel_rfl
theorem cell_slice (w : World) (v : Value) (t : TypeId) : CellsAt (w.alloc (.cells #[v] t)) (some ⟨w.heap.size, 0, none⟩) [v] := by
  refine .inr ⟨w.heap.size, 0, rfl, by simp, fun j hj => ?_⟩
  rw [Joins.cell_of_block (heap_alloc_new w (.cells #[v] t)), Nat.zero_add]
  obtain rfl : j = 0 := by simpa using hj
  rfl
set_option maxRecDepth 100000 in
set_option maxHeartbeats 1000000 in
theorem blocksR_any (ao : Option Addr) (b off ca : Nat) (es : List En) (w : World) (hao : 0 < es.length → ao = some ⟨b, off, none⟩) (hca : es.length ≤ ca) (hl : es.length ≤ 1000000000) :
    Calls Try.prog 22 #[.slice ao es.length ca] w fun e w' => (∃ v, e = .returned v ∧ w'.ownsRow w.heap.size 23 1 v (nch es) (slvs b off es ca (nch es))) ∧ Below w.heap.size w w' := by
  obtain ⟨i0, hi, hz0, hz1, hz2⟩ := info_parts infoSl
  go_enter Try.func22, Try.ntmps22
  go_wp2
  go_loopw [0, 3] (fun l v wr => ∃ (k m c : Nat) (lo : Option Addr), l = .slice lo m c ∧ k ≤ nch es ∧ m ≤ c ∧ m ≤ 1000000000 ∧ Hid (m = es.length - 8 * k ∧ (8 * k ≤ es.length → c = ca - 8 * k) ∧ (8 * k < es.length → lo = some ⟨b, off + 8 * k * 4, none⟩)) ∧ Hid (wr.ownsRow w.heap.size 23 1 v k (slvs b off es ca k)) ∧ Hid (Below w.heap.size w wr)) (fun l _ _ => match l with | .slice _ n _ => n | _ => 0)
  case atStart => exact ⟨0, es.length, ca, ao, rfl, Nat.zero_le _, hca, hl, ⟨by omega, fun _ => by omega, fun h => by simpa using hao h⟩, World.ownsRow_nil _ _ _ _, Below.refl _ _⟩
  case round =>
    obtain ⟨k, m, c, lo, rfl, hk, hmc, hm9, HM, HO, HB⟩ := hrel
    have hsz := HB.out.size
    by_cases hlt : 0 < m
    · have hk8 : 8 * k < es.length := by have := HM.out.1; omega
      have hkn := nch_of hk8
      obtain rfl := HM.out.2.2 hk8
      obtain ⟨n, hn⟩ : ∃ n, n = (chunk es k).length := ⟨_, rfl⟩
      have hn1 : n = min m 8 := by rw [hn, chunk_len]; have := HM.out.1; omega
      have hmin : min (m : Int) 8 = (n : Int) := by omega
      have HSV : Hid (slv b off es ca k = .slice (some ⟨b, off + 8 * k * 4, none⟩) n c) := by show _ = _; unfold slv; rw [hn, HM.out.2.1 (by omega)]
      have hn0 : (0 : Int) ≤ (n : Int) := by omega
      have hn2 : (n : Int) ≤ (c : Int) := by omega
      have hn3 : (n : Int) ≤ (m : Int) := by omega
      have hm0 : (0 : Int) < (m : Int) := by omega
      have ho := World.ownsRow.alloc HO.out (.cells #[.slice (some ⟨b, off + 8 * k * 4, none⟩) n c] 23)
      have HOA : Hid _ := ho
      have hcl := cell_slice wr (.slice (some ⟨b, off + 8 * k * 4, none⟩) n c) 23
      have HN : Hid _ := slvs_succ b off es ca k
      have hkb : k ≤ 1000000000 := by unfold nch at hk; omega
      have HNN : Hid (n = min m 8) := hn1
      have HNX : Hid (m - n = es.length - 8 * (k + 1) ∧ (8 * (k + 1) ≤ es.length → c - n = ca - 8 * (k + 1)) ∧ (8 * (k + 1) < es.length → n = 8)) := by
        have h1 := HM.out.1
        have h2 := HM.out.2.1 (by omega)
        exact ⟨by omega, fun _ => by omega, fun _ => by omega⟩
      clear ho hn hn1 HO HM HNN
      go_wp2_with (at_builtin; refine wpList_append_any _ rfl _ _ 56 rfl w.heap.size 23 i0 _ 24 Try.underlying56 hi hz0 hz1 hz2 rfl u3 k (slvs b off es ca k) rfl HOA.out (some ⟨wr.heap.size, 0, none⟩) 1 1 [.slice (some ⟨b, off + 8 * k * 4, none⟩) n c] rfl (by simp) rfl hcl (by intro u hu; simp at hu; subst hu; rfl) ?d1 ?d2 ?d3 ?_)
      case d1 => unfold maxLen; omega
      case d2 => omega
      case d3 => simp; omega
      intro v3 w3 hown3 hgrow3 hat3
      have HO3 : Hid (w3.ownsRow w.heap.size 23 1 v3 (k + 1) (slvs b off es ca (k + 1))) := by rw [HN.out, HSV.out]; exact hown3
      have HB3 : Hid (Below w.heap.size w w3) := (HB.out.alloc hsz _).grown hgrow3 (by simp; omega) (fun j hj => (World.ownsRow.lt HOA.out j hj).1)
      clear hown3 hgrow3 hat3 hcl HOA HB HN HSV
      by_cases hcn : c = n
      · have hmn : m = n := by omega
        subst hcn
        subst hmn
        go_wp2
        go_roundw
        case rel => exact ⟨k + 1, _, _, _, rfl, by omega, by omega, by omega, ⟨by have := HNX.out.1; omega, fun h => by have := HNX.out.2.1 h; omega, fun h => by have := HNX.out.1; omega⟩, HO3, HB3⟩
        case measure => simp; omega
      · go_wp2
        go_roundw
        case rel => exact ⟨k + 1, _, _, _, rfl, by omega, by omega, by omega, ⟨HNX.out.1, HNX.out.2.1, fun h => by have h8 := HNX.out.2.2 h; rw [h8]; congr 2; omega⟩, HO3, HB3⟩
        case measure => simp; omega
    · have hkn : k = nch es := by
        have := HM.out.1
        unfold nch at *
        omega
      have HO' : Hid (wr.ownsRow w.heap.size 23 1 u3 (nch es) (slvs b off es ca (nch es))) := by rw [← hkn]; exact HO.out
      obtain rfl : m = 0 := by omega
      clear HO HM hkn
      go_wp2
      go_ret
      exact ⟨⟨_, rfl, HO'.out⟩, HB.out⟩
end Go.Proofs.Ytedjohkdfchocaa.Tb
