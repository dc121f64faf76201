/-
  The document's answer for layer 6: a version added to an empty list; to any.
-/
import Derived.Test.YtbbncfgiimkpnaaMemRefAdd
namespace Go.Proofs.Ytbbncfgiimkpnaa.Mm
open Go.RowKit Cm
set_option linter.unusedVariables false

set_option maxRecDepth 100000 in
set_option maxHeartbeats 2000000 in
theorem addR_nil_live (K : ByteArray) (Q : Int) (V : ByteArray) (w : World) :
    Calls Try.prog 11 #[.slice none 0 0, env ⟨K, Q, false, V⟩] w fun r w' => AddAns w r [⟨K, Q, false, V⟩] w' := by
  obtain ⟨i0, hi, hz0, hz1, hz2⟩ := info_parts infoEn4
  have HA : Hid (AddAt w none [] ⟨K, Q, false, V⟩ (w.alloc (entObj ⟨K, Q, false, V⟩))) := ⟨heap_alloc_new w _, .inl rfl, (Below.refl _ _).alloc (Nat.le_refl _) _⟩
  unfold env
  unfold entObj at HA
  go_enter Try.func11, Try.ntmps11
  go_wp2
  go_loopw [5] (fun i wr => i = .int .i64 0 ∧ Hid (AddAt w none [] ⟨K, Q, false, V⟩ wr)) (fun _ _ => 0)
  case atStart => exact ⟨rfl, HA⟩
  case round =>
    obtain ⟨rfl, HX⟩ := hrel
    go_wp2_with fail
    go_quiet (fail)
    replace HX : Hid (AddAt w none [] ⟨K, Q, false, V⟩ (wr.drewN nq)) := AddAt.below HX.out ⟨rfl, rfl, rfl, Nat.le_refl _, fun _ _ => rfl⟩
    generalize wr.drewN nq = X at *
    have hbx := HX.out.bel.size
    go_wp2_with (at_builtin; refine wpList_append_rows (F := enShape) _ rfl _ _ 23 rfl X.heap.size 31 i0 _ 48 Try.underlying23 hi hz0 hz1 hz2 rfl (.slice none 0 0) 0 [] rfl (World.ownsRow_nil _ _ _ _) none 0 0 [] rfl (fun _ => rfl) rfl (.inl rfl) (by unfold maxLen; omega) (by omega) ?a3 ?_)
    case a3 => exact Nat.le_refl _
    intro v1 w1 hown1 hgrow1 hat1
    have hB1 : Below X.heap.size X w1 := (Below.refl _ _).grown hgrow1 (Nat.le_refl _) (fun j hj => by simp [Value.ownBlock] at hj)
    have HX1 : Hid _ := AddAt.below HX.out hB1
    have HO1 : Hid (w1.ownsRow X.heap.size 31 enShape.sz v1 0 (enShape.vals [])) := by show w1.ownsRow _ _ _ _ _ _; simpa using hown1
    obtain ⟨y0, y1, y2, y3, _⟩ := ent_cells HX1.out.box
    have hbs1 := hB1.size
    have HB1 : Hid _ := hB1
    have helm : ElemsAt enShape (w1.alloc (.cells #[.string K, .int .i64 Q, .bool false, .string V] 31)) (some ⟨w1.heap.size, 0, none⟩) [⟨K, Q, false, V⟩] := elems1 ⟨K, Q, false, V⟩
    clear hown1 hgrow1 hat1 hB1
    go_wp2_with (at_builtin; refine wpList_append_rows (F := enShape) _ rfl _ _ 23 rfl X.heap.size 31 i0 _ 48 Try.underlying23 hi hz0 hz1 hz2 rfl v1 0 [] rfl (World.ownsRow.alloc HO1.out _) (some ⟨w1.heap.size, 0, none⟩) 1 1 [⟨K, Q, false, V⟩] rfl (by simp) rfl helm (by unfold maxLen; omega) (by omega) ?b3 ?_)
    case b3 => first | omega | (simp; omega)
    intro v2 w2 hown2 hgrow2 hat2
    have hB2 : Below X.heap.size X w2 := (HB1.out.alloc hbs1 _).grown hgrow2 (by simp; omega) (fun j hj => (World.ownsRow.lt HO1.out j hj).1)
    have HX2 : Hid (AddAt w none [] ⟨K, Q, false, V⟩ w2) := AddAt.below HX.out hB2
    have HO2 : Hid (w2.ownsRow X.heap.size 31 enShape.sz v2 1 (enShape.vals [⟨K, Q, false, V⟩])) := by show w2.ownsRow _ _ _ _ _ _; simpa using hown2
    have hbs2 := hB2.size
    obtain ⟨x0, x1, x2, x3, _⟩ := ent_cells HX2.out.box
    clear hown2 hgrow2 hat2 hB2 helm HX HX1 HO1 HB1 y0 y1 y2 y3
    go_wp2_with fail
    go_quiet (fail)
    have HO3 : Hid ((w2.drewN nq).ownsRow X.heap.size 31 enShape.sz v2 1 (enShape.vals [⟨K, Q, false, V⟩])) := HO2.out
    have HX3 : Hid (AddAt w none [] ⟨K, Q, false, V⟩ (w2.drewN nq)) := AddAt.below HX2.out ⟨rfl, rfl, rfl, Nat.le_refl _, fun _ _ => rfl⟩
    have hbs5 : X.heap.size ≤ (w2.drewN nq).heap.size := hbs2
    clear HX2 HO2 x0 x1 x2 x3
    generalize w2.drewN nq = w5 at *
    go_wp2_with (at_builtin; refine wpList_append_rows (F := enShape) _ rfl _ _ 23 rfl X.heap.size 31 i0 _ 48 Try.underlying23 hi hz0 hz1 hz2 rfl v2 1 [⟨K, Q, false, V⟩] rfl HO3.out none 0 0 [] rfl (fun _ => rfl) rfl (.inl rfl) (by unfold maxLen; omega) (by omega) ?d3 ?_)
    case d3 => omega
    intro v3 w3 hown3 hgrow3 hat3
    have ho3 : w3.ownsRow X.heap.size 31 4 v3 (1 + 0) (enShape.vals ([] ++ [⟨K, Q, false, V⟩] ++ [])) := by rw [List.append_nil, List.nil_append]; exact hown3
    have HR : Hid (AddAns w (.returned v3) [⟨K, Q, false, V⟩] w3) := add_end (ps := []) hbx HX3.out HO3.out ho3 rfl rfl hgrow3
    clear hown3 hgrow3 hat3 ho3
    go_wp2
    go_ret
    exact HR.out
set_option maxRecDepth 100000 in
set_option maxHeartbeats 2000000 in
theorem addR_nil_dead (K : ByteArray) (Q : Int) (V : ByteArray) (w : World) :
    Calls Try.prog 11 #[.slice none 0 0, env ⟨K, Q, true, V⟩] w fun r w' => AddAns w r [⟨K, Q, true, ⟨#[]⟩⟩] w' := by
  obtain ⟨i0, hi, hz0, hz1, hz2⟩ := info_parts infoEn4
  have HA : Hid (AddAt w none [] ⟨K, Q, true, ⟨#[]⟩⟩ (w.alloc (entObj ⟨K, Q, true, ⟨#[]⟩⟩))) := ⟨heap_alloc_new w _, .inl rfl, (Below.refl _ _).alloc (Nat.le_refl _) _⟩
  unfold env
  unfold entObj at HA
  go_enter Try.func11, Try.ntmps11
  go_wp2
  go_loopw [5] (fun i wr => i = .int .i64 0 ∧ Hid (AddAt w none [] ⟨K, Q, true, ⟨#[]⟩⟩ wr)) (fun _ _ => 0)
  case atStart => exact ⟨rfl, HA⟩
  case round =>
    obtain ⟨rfl, HX⟩ := hrel
    go_wp2_with fail
    go_quiet (fail)
    replace HX : Hid (AddAt w none [] ⟨K, Q, true, ⟨#[]⟩⟩ (wr.drewN nq)) := AddAt.below HX.out ⟨rfl, rfl, rfl, Nat.le_refl _, fun _ _ => rfl⟩
    generalize wr.drewN nq = X at *
    have hbx := HX.out.bel.size
    go_wp2_with (at_builtin; refine wpList_append_rows (F := enShape) _ rfl _ _ 23 rfl X.heap.size 31 i0 _ 48 Try.underlying23 hi hz0 hz1 hz2 rfl (.slice none 0 0) 0 [] rfl (World.ownsRow_nil _ _ _ _) none 0 0 [] rfl (fun _ => rfl) rfl (.inl rfl) (by unfold maxLen; omega) (by omega) ?a3 ?_)
    case a3 => exact Nat.le_refl _
    intro v1 w1 hown1 hgrow1 hat1
    have hB1 : Below X.heap.size X w1 := (Below.refl _ _).grown hgrow1 (Nat.le_refl _) (fun j hj => by simp [Value.ownBlock] at hj)
    have HX1 : Hid _ := AddAt.below HX.out hB1
    have HO1 : Hid (w1.ownsRow X.heap.size 31 enShape.sz v1 0 (enShape.vals [])) := by show w1.ownsRow _ _ _ _ _ _; simpa using hown1
    obtain ⟨y0, y1, y2, y3, _⟩ := ent_cells HX1.out.box
    have hbs1 := hB1.size
    have HB1 : Hid _ := hB1
    have helm : ElemsAt enShape (w1.alloc (.cells #[.string K, .int .i64 Q, .bool true, .string ⟨#[]⟩] 31)) (some ⟨w1.heap.size, 0, none⟩) [⟨K, Q, true, ⟨#[]⟩⟩] := elems1 ⟨K, Q, true, ⟨#[]⟩⟩
    clear hown1 hgrow1 hat1 hB1
    go_wp2_with (at_builtin; refine wpList_append_rows (F := enShape) _ rfl _ _ 23 rfl X.heap.size 31 i0 _ 48 Try.underlying23 hi hz0 hz1 hz2 rfl v1 0 [] rfl (World.ownsRow.alloc HO1.out _) (some ⟨w1.heap.size, 0, none⟩) 1 1 [⟨K, Q, true, ⟨#[]⟩⟩] rfl (by simp) rfl helm (by unfold maxLen; omega) (by omega) ?b3 ?_)
    case b3 => first | omega | (simp; omega)
    intro v2 w2 hown2 hgrow2 hat2
    have hB2 : Below X.heap.size X w2 := (HB1.out.alloc hbs1 _).grown hgrow2 (by simp; omega) (fun j hj => (World.ownsRow.lt HO1.out j hj).1)
    have HX2 : Hid (AddAt w none [] ⟨K, Q, true, ⟨#[]⟩⟩ w2) := AddAt.below HX.out hB2
    have HO2 : Hid (w2.ownsRow X.heap.size 31 enShape.sz v2 1 (enShape.vals [⟨K, Q, true, ⟨#[]⟩⟩])) := by show w2.ownsRow _ _ _ _ _ _; simpa using hown2
    have hbs2 := hB2.size
    obtain ⟨x0, x1, x2, x3, _⟩ := ent_cells HX2.out.box
    clear hown2 hgrow2 hat2 hB2 helm HX HX1 HO1 HB1 y0 y1 y2 y3
    go_wp2_with fail
    go_quiet (fail)
    have HO3 : Hid ((w2.drewN nq).ownsRow X.heap.size 31 enShape.sz v2 1 (enShape.vals [⟨K, Q, true, ⟨#[]⟩⟩])) := HO2.out
    have HX3 : Hid (AddAt w none [] ⟨K, Q, true, ⟨#[]⟩⟩ (w2.drewN nq)) := AddAt.below HX2.out ⟨rfl, rfl, rfl, Nat.le_refl _, fun _ _ => rfl⟩
    have hbs5 : X.heap.size ≤ (w2.drewN nq).heap.size := hbs2
    clear HX2 HO2 x0 x1 x2 x3
    generalize w2.drewN nq = w5 at *
    go_wp2_with (at_builtin; refine wpList_append_rows (F := enShape) _ rfl _ _ 23 rfl X.heap.size 31 i0 _ 48 Try.underlying23 hi hz0 hz1 hz2 rfl v2 1 [⟨K, Q, true, ⟨#[]⟩⟩] rfl HO3.out none 0 0 [] rfl (fun _ => rfl) rfl (.inl rfl) (by unfold maxLen; omega) (by omega) ?d3 ?_)
    case d3 => omega
    intro v3 w3 hown3 hgrow3 hat3
    have ho3 : w3.ownsRow X.heap.size 31 4 v3 (1 + 0) (enShape.vals ([] ++ [⟨K, Q, true, ⟨#[]⟩⟩] ++ [])) := by rw [List.append_nil, List.nil_append]; exact hown3
    have HR : Hid (AddAns w (.returned v3) [⟨K, Q, true, ⟨#[]⟩⟩] w3) := add_end (ps := []) hbx HX3.out HO3.out ho3 rfl rfl hgrow3
    clear hown3 hgrow3 hat3 ho3
    go_wp2
    go_ret
    exact HR.out
theorem addR_any (ao : Option Addr) (ca : Nat) (xs : List En) (x : En) (w : World) (hx : ElemsAt enShape w ao xs) (hnil : ao = none → ca = 0) (hl : xs.length ≤ 100000000000) (hca : xs.length ≤ ca) :
    Calls Try.prog 11 #[.slice ao xs.length ca, env x] w fun r w' => AddAns w r (addOne xs x) w' := by
  obtain ⟨K, Q, D, V⟩ := x
  cases ao with
  | none =>
    have h0 := hnil rfl
    subst h0
    have hx0 : xs = [] := List.eq_nil_of_length_eq_zero (by omega)
    subst hx0
    cases D
    · exact addR_nil_live K Q V w
    · exact addR_nil_dead K Q V w
  | some a =>
    cases D
    · exact addR_live a ca xs K Q V w hx hl hca
    · exact addR_dead a ca xs K Q V w hx hl hca
end Go.Proofs.Ytbbncfgiimkpnaa.Mm
