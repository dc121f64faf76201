/-
  The walk of the statement FrameJoins.
-/
import Derived.Test.YtckcoleaoleadaaFrameBackWalk
namespace Go.Proofs.Ytckcoleaoleadaa.Fr
open Go.RowKit Cm
set_option linter.unusedVariables false

theorem framesB_append (xs ys : List ByteArray) : framesB (xs ++ ys) = framesB xs ++ framesB ys := by simp [framesB]
theorem total_append (xs ys : List ByteArray) : total (xs ++ ys) = total xs + total ys := by simp [total]
/-- How the code of Seal's error reads. -/
def code (xs : List ByteArray) : Int := if (∀ x ∈ xs, x.size ≤ 65536) then 0 else 2
def text (xs : List ByteArray) : ByteArray := if (∀ x ∈ xs, x.size ≤ 65536) then str (framesB xs) else ⟨#[]⟩
theorem sealed_eq (xs : List ByteArray) : sealed xs = .tuple #[.string (text xs), .int .i64 (code xs)] := by
  unfold sealed text code
  split <;> rfl
theorem small_append {xs ys : List ByteArray} : (∀ x ∈ xs ++ ys, x.size ≤ 65536) ↔ (∀ x ∈ xs, x.size ≤ 65536) ∧ ∀ x ∈ ys, x.size ≤ 65536 := by
  simp only [List.mem_append]
  constructor
  · exact fun h => ⟨fun x hx => h x (.inl hx), fun x hx => h x (.inr hx)⟩
  · rintro ⟨h1, h2⟩ x (hx | hx)
    · exact h1 x hx
    · exact h2 x hx

theorem own_empty (w : World) (base : Nat) (h : base ≤ w.heap.size) : (w.alloc (.cells #[] 9)).ownsRow base 9 1 (.slice (some ⟨w.heap.size, 0, none⟩) 0 0) 0 [] :=
  ⟨by simp, .inr ⟨w.heap.size, 0, #[], rfl, h, heap_alloc_new w _, by simp, by simp, by simp, by simp⟩⟩

set_option maxRecDepth 100000 in
set_option maxHeartbeats 2000000 in
theorem joins_walk (ao bo : Option Addr) (ca cb : Nat) (xs ys : List ByteArray) (w : World) (hx : CellsAt w ao (strVals xs)) (hy : CellsAt w bo (strVals ys)) (nx : ao = none → ca = 0) (ny : bo = none → cb = 0)
    (hb : 8 * xs.length + total xs + (8 * ys.length + total ys) ≤ 35184372088) :
    Calls Try.prog 8 #[.slice ao xs.length ca, .slice bo ys.length cb] w fun e w' => e = .returned (.bool true) ∧ Below w.heap.size w w' := by
  obtain ⟨i0, hi0, hz0, hz1, hz2⟩ := info_parts infoStr
  have hlx : xs.length ≤ 35184372088 := by omega
  have hly : ys.length ≤ 35184372088 := by omega
  have HBd : Hid (8 * xs.length + total xs + (8 * ys.length + total ys) ≤ 35184372088) := hb
  clear hb
  go_enter Try.func8, Try.ntmps8
  go_wp2_with fail
  refine (lives_any _).mono ?_
  rintro e w1 ⟨rfl, hb1⟩
  have hs1 := hb1.size
  go_wp2_with fail
  refine (seal_small ao ca xs _ (hx.below hb1) (by have := HBd.out; omega)).mono ?_
  rintro e w2 ⟨rfl, hb2⟩
  have hB2 : Below w.heap.size w w2 := hb1.trans (hb2.mono hs1)
  have hs2 := hB2.size
  rw [sealed_eq]
  clear hb1 hb2 hs1
  go_wp2_with fail
  refine (seal_small bo cb ys _ (hy.below hB2) (by have := HBd.out; omega)).mono ?_
  rintro e w3 ⟨rfl, hb3⟩
  have hB3 : Below w.heap.size w w3 := hB2.trans (hb3.mono hs2)
  have hs3 := hB3.size
  rw [sealed_eq]
  clear hb3 hB2 hs2
  obtain ⟨tx, htx⟩ : ∃ t, t = text xs := ⟨_, rfl⟩
  obtain ⟨ty, hty⟩ : ∃ t, t = text ys := ⟨_, rfl⟩
  obtain ⟨cx, hcx⟩ : ∃ t, t = code xs := ⟨_, rfl⟩
  obtain ⟨cy, hcy⟩ : ∃ t, t = code ys := ⟨_, rfl⟩
  rw [← htx, ← hty, ← hcx, ← hcy]
  have HTx : Hid _ := htx
  have HTy : Hid _ := hty
  have HCx : Hid _ := hcx
  have HCy : Hid _ := hcy
  clear htx hty hcx hcy
  have hx3 := (hx.below hB3).alloc (.cells #[] 9)
  have hy3 := (hy.below hB3).alloc (.cells #[] 9)
  go_wp2_with (at_builtin; refine wpList_append_any _ rfl _ _ 22 rfl w.heap.size 9 i0 (.string ⟨#[]⟩) 16 Try.underlying22 hi0 hz0 hz1 hz2 rfl _ 0 [] rfl (own_empty w3 _ hs3) ao xs.length ca (strVals xs) rfl nx (by simp [strVals]) hx3 ?c0 ?c1 ?c2 ?c3 ?_)
  case c0 => intro u hu; obtain ⟨x, _, rfl⟩ := List.mem_map.1 hu; rfl
  case c1 => unfold maxLen; omega
  case c2 => omega
  case c3 => simp; omega
  intro v4 w4 hown4 hgrow4 hat4
  have hB4 : Below w.heap.size w w4 := (hB3.alloc hs3 _).grown hgrow4 (by simp; omega) (fun k hk => ((own_empty w3 _ hs3).lt k hk).1)
  have hs4 := hB4.size
  clear hgrow4 hat4 hx3 hy3 hB3 hs3
  go_wp2_with (at_builtin; refine wpList_append_any _ rfl _ _ 22 rfl w.heap.size 9 i0 (.string ⟨#[]⟩) 16 Try.underlying22 hi0 hz0 hz1 hz2 rfl v4 xs.length (strVals xs) rfl hown4 bo ys.length cb (strVals ys) rfl ny (by simp [strVals]) (hy.below hB4) ?d0 ?d1 ?d2 ?d3 ?_)
  case d0 => intro u hu; obtain ⟨x, _, rfl⟩ := List.mem_map.1 hu; rfl
  case d1 => unfold maxLen; omega
  case d2 => omega
  case d3 => omega
  intro v5 w5 hown5 hgrow5 hat5
  have hB5 : Below w.heap.size w w5 := hB4.grown hgrow5 (by omega) (fun k hk => (hown4.lt k hk).1)
  have hs5 := hB5.size
  obtain ⟨a5, c5, rfl, hc5⟩ := own_cells hown5
  have hc5 : CellsAt w5 a5 (strVals (xs ++ ys)) := by rw [strVals, List.map_append]; exact hc5
  have hlen5 : (xs ++ ys).length = xs.length + ys.length := List.length_append
  clear hgrow5 hat5 hown4 hown5 hB4 hs4
  go_wp2_with fail
  have hseal := seal_small a5 c5 (xs ++ ys) w5 hc5 (by have := HBd.out; rw [hlen5, total_append]; omega)
  rw [hlen5, sealed_eq] at hseal
  refine hseal.mono ?_
  rintro e w6 ⟨rfl, hb6⟩
  have hB6 : Below w.heap.size w w6 := hB5.trans (hb6.mono hs5)
  have hs6 := hB6.size
  have hc6 := hc5.below hb6
  clear hb6 hB5 hs5 hc5 hseal
  by_cases hsx : (∀ x ∈ xs, x.size ≤ 65536) ∧ ∀ x ∈ ys, x.size ≤ 65536
  · have hsa := small_append.2 hsx
    have h1 : cx = 0 := by rw [HCx.out, code, if_pos hsx.1]
    have h2 : cy = 0 := by rw [HCy.out, code, if_pos hsx.2]
    have h3 : code (xs ++ ys) = 0 := by rw [code, if_pos hsa]
    have h4 : tx = str (framesB xs) := by rw [HTx.out, text, if_pos hsx.1]
    have h5 : ty = str (framesB ys) := by rw [HTy.out, text, if_pos hsx.2]
    have h6 : text (xs ++ ys) = tx ++ ty := by
      rw [text, if_pos hsa, h4, h5, framesB_append]
      exact ByteArray.ext (by simp [str])
    have h7 : (tx ++ ty).data.toList = framesB (xs ++ ys) := by rw [← h6, text, if_pos hsa]; rfl
    rw [h3, h6]
    subst h1 h2
    have hxs : tx.size = 8 * xs.length + total xs := by rw [h4, str_size, framesB_len]
    have hys : ty.size = 8 * ys.length + total ys := by rw [h5, str_size, framesB_len]
    have HSa : Hid _ := hsa
    obtain ⟨tz, htz⟩ : ∃ t, t = tx ++ ty := ⟨_, rfl⟩
    have hzs : tz.size = tx.size + ty.size := by rw [htz, ByteArray.size_append]
    have hxb : tx.size ≤ 35184372088 := by have := HBd.out; omega
    have hyb : ty.size ≤ 35184372088 := by have := HBd.out; omega
    rw [← htz] at h7 ⊢
    have htz' := htz.symm
    have HZs : Hid _ := hzs
    have HZ : Hid (tz.data.toList = framesB (xs ++ ys)) := h7
    have HZn : Hid ((framesB (xs ++ ys)).length = tz.size) := by rw [Lib.size_eq, h7]; exact hid_rfl
    clear h3 h4 h5 h6 h7 hsx hsa htz hxs hys hzs HTx HTy HCx HCy
    go_wp2_with fail
    refine (scan_frames tz (xs ++ ys) [] _ HSa.out (first_short (by simp)) (by rw [HZ.out, List.append_nil]) (by have := HZs.out; omega)).mono ?_
    rintro e w7 ⟨a7, c7, rfl, hc7, hb7⟩
    rw [HZn.out, hlen5]
    have hB7 : Below w.heap.size w w7 := hB6.trans (hb7.mono hs6)
    have hs7 := hB7.size
    have hc6' := hc6.below hb7
    clear hb7 hB6 hs6 hc6
    go_wp2_with fail
    have hsame := same_any a7 a5 c7 c5 (xs ++ ys) w7 hc7 hc6' (by omega)
    rw [hlen5] at hsame
    refine hsame.mono ?_
    rintro e w8 ⟨rfl, n8, rfl⟩
    go_wp2
    go_ret
    exact ⟨rfl, below_drew hB7⟩
  · have hsa : ¬ ∀ x ∈ xs ++ ys, x.size ≤ 65536 := fun h => hsx (small_append.1 h)
    have h3 : code (xs ++ ys) = 2 := by rw [code, if_neg hsa]
    have h6 : text (xs ++ ys) = ⟨#[]⟩ := by rw [text, if_neg hsa]
    rw [h3, h6]
    by_cases hx1 : ∀ x ∈ xs, x.size ≤ 65536
    · have h1 : cx = 0 := by rw [HCx.out, code, if_pos hx1]
      have h2 : cy = 2 := by rw [HCy.out, code, if_neg (fun h => hsx ⟨hx1, h⟩)]
      subst h1 h2
      clear h3 h6 hsx hsa hx1 HTx HTy HCx HCy
      go_wp2
      go_ret
      exact ⟨rfl, hB6⟩
    · have h1 : cx = 2 := by rw [HCx.out, code, if_neg hx1]
      subst h1
      clear h3 h6 hsx hsa hx1 HTx HTy HCx HCy
      go_wp2
      go_ret
      exact ⟨rfl, hB6⟩

end Go.Proofs.Ytckcoleaoleadaa.Fr
