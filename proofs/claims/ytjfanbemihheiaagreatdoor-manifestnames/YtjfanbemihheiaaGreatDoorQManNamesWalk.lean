/-
  ManifestNames: names lead back to their letters and numbers, and nothing else is a name. (The calls' rows are written by a program.)
-/
import Derived.Test.YtjfanbemihheiaaGreatDoorQManParseR
import Derived.Test.YtjfanbemihheiaaGreatDoorQManLives
namespace Go.Proofs.YtjfanbemihheiaaGreatDoor.Ma
open Go.RowKit Cm
set_option linter.unusedVariables false

theorem parse_any (T : ByteArray) (hs : T.size ≤ 281474976710000) (w : World) (hp : Pow w) (he : Errs w) : Calls Tryz.prog 22 #[.string T] w fun e w' => e = .returned (parseV (parsed T.data.toList)) ∧ Below w.heap.size w w' := by
  have hT := Cm.str_back T
  have hl : T.data.toList.length = T.size := by rw [← Lib.size_eq]
  generalize T.data.toList = l at *
  subst hT
  cases l with
  | nil =>
    refine (parse_empty w).mono ?_
    rintro e w' ⟨rfl, rfl⟩
    exact ⟨rfl, Below.refl _ _⟩
  | cons c r =>
    have hr : r.length ≤ 281474976710656 := by rw [List.length_cons] at hl; omega
    cases hc : isL (c.toNat : Int)
    · refine (parse_letter c r hc w).mono ?_
      rintro e w' ⟨rfl, rfl⟩
      exact ⟨rfl, Below.refl _ _⟩
    · by_cases ha : ∃ v, Lib.atoiAll r = .ok v
      · obtain ⟨v, ha⟩ := ha
        exact parse_ok c r v hc ha hr w hp
      · exact parse_err c r hc (fun v hv => ha ⟨v, hv⟩) hr w he
theorem parseR_any (T : ByteArray) (hs : T.size ≤ 281474976710000) (w : World) (hp : Pow w) (he : Errs w) : Calls Tryz.prog 23 #[.string T] w fun e w' => e = .returned (parseV (parsed T.data.toList)) ∧ Below w.heap.size w w' := by
  have hT := Cm.str_back T
  have hl : T.data.toList.length = T.size := by rw [← Lib.size_eq]
  cases hd : T.data.toList with
  | nil =>
    rw [hd] at hT
    rw [← hT]
    refine (parseR_empty w).mono ?_
    rintro e w' ⟨rfl, rfl⟩
    exact ⟨rfl, Below.refl _ _⟩
  | cons c r =>
    rw [hd, List.length_cons] at hl
    cases r with
    | nil =>
      rw [hd] at hT
      rw [← hT]
      refine (parseR_one c w).mono ?_
      rintro e w' ⟨rfl, rfl⟩
      exact ⟨rfl, Below.refl _ _⟩
    | cons d r =>
      have h2 : 2 ≤ T.size := by simp at hl; omega
      cases hc : isL (c.toNat : Int)
      · have hp : parsed (c :: d :: r) = none := by rw [parsedE, hc]; rfl
        rw [hp]
        refine (parseR_letter T h2 (c.toNat : Int) (by rw [head_of hd (by omega)]) hc w).mono ?_
        rintro e w' ⟨rfl, rfl⟩
        exact ⟨rfl, Below.refl _ _⟩
      · exact parseR_num T c (d :: r) hd h2 hc hs w hp he
theorem parsed_nm (c : UInt8) (n : Int) (hl : isL (c.toNat : Int) = true) (hn : OkI n) : parsed (c :: Lib.itoa n) = if 1 ≤ n then some (c, n) else none := by
  rw [parsed_num c _ hl]
  by_cases h : 1 ≤ n
  · have : numR (Lib.itoa n) = n := by unfold numR; rw [atoi_itoa n (by omega) hn.2]
    rw [this, if_pos ⟨h, rfl⟩, if_pos h]
  · rw [if_neg h, if_neg]
    rintro ⟨h1, h2⟩
    have := itoa_inj (numR_ok _) hn h2
    omega
theorem nm_data (c : UInt8) (n : Int) : (nm c n).data.toList = c :: Lib.itoa n := by simp [nm]
theorem nm_eq (c : UInt8) {n m : Int} (hn : OkI n) (hm : OkI m) : ((nm c n).toList == (nm c m).toList) = (n == m) := by
  rw [nm_list, nm_list, Bool.eq_iff_iff, beq_iff_eq, beq_iff_eq]
  constructor
  · intro h
    exact itoa_inj hn hm (by simpa using h)
  · rintro rfl; rfl
theorem nm_ne {c d : UInt8} (h : c ≠ d) (n m : Int) : ((nm c n).toList == (nm d m).toList) = false := by
  rw [nm_list, nm_list, beq_eq_false_iff_ne]
  intro e
  exact h (by simpa using (List.cons.inj e).1)
theorem parseV_form (R : Option (UInt8 × Int)) : ∃ (k i : Int) (b : Bool), parseV R = .tuple #[.int .u8 k, .int .i64 i, .bool b] := by
  cases R with
  | none => exact ⟨0, 0, false, rfl⟩
  | some p => obtain ⟨c, v⟩ := p; exact ⟨c.toNat, v, true, rfl⟩
/-- One of the three names, what is read of it. -/
structure NameIs (n : Int) (s : ByteArray) (z : Int) : Prop where
  size : s.size ≤ 22
  pos : 0 < s.size
  head : ∀ h : 0 < s.size, ((s[0].toNat : Nat) : Int) = z
  out : parseV (parsed s.data.toList) = if 1 ≤ n then .tuple #[.int .u8 z, .int .i64 n, .bool true] else .tuple #[.int .u8 0, .int .i64 0, .bool false]
theorem nm_nameIs (c : UInt8) (n : Int) (hl : isL (c.toNat : Int) = true) (hn : OkI n) : NameIs n (nm c n) (c.toNat : Int) := by
  have hp : 0 < (nm c n).size := by rw [Lib.size_eq, nm_data, List.length_cons]; omega
  refine ⟨nm_size c n hn, hp, fun h => by rw [head_of (nm_data c n) h], ?_⟩
  rw [nm_data, parsed_nm c n hl hn]
  split <;> rfl
set_option maxRecDepth 100000 in
set_option maxHeartbeats 4000000 in
theorem names_law (n m : Int) (T : ByteArray) (w : World) (hn : OkI n) (hm : OkI m) (hT : T.size ≤ 281474976710000) (hp : Pow w) (he : Errs w) :
    Calls Tryz.prog 6 #[.int .i64 n, .int .i64 m, .string T] w fun x w' => x = .returned (.bool true) ∧ Below w.heap.size w w' := by
  have HTn : Hid (∀ X, Below w.heap.size w X → Calls Tryz.prog 18 #[.int .i64 n] X fun e w' => e = .returned (.string (nm 116 n)) ∧ Below X.heap.size X w') := fun X hX => by rw [← nm_t]; exact table_any n hn X (hp.below hX)
  have HTm : Hid (∀ X, Below w.heap.size w X → Calls Tryz.prog 18 #[.int .i64 m] X fun e w' => e = .returned (.string (nm 116 m)) ∧ Below X.heap.size X w') := fun X hX => by rw [← nm_t]; exact table_any m hm X (hp.below hX)
  have HWn : Hid (∀ X, Below w.heap.size w X → Calls Tryz.prog 20 #[.int .i64 n] X fun e w' => e = .returned (.string (nm 119 n)) ∧ Below X.heap.size X w') := fun X hX => by rw [← nm_w]; exact log_any n hn X (hp.below hX)
  have HWm : Hid (∀ X, Below w.heap.size w X → Calls Tryz.prog 20 #[.int .i64 m] X fun e w' => e = .returned (.string (nm 119 m)) ∧ Below X.heap.size X w') := fun X hX => by rw [← nm_w]; exact log_any m hm X (hp.below hX)
  have HLn : Hid (∀ X, Below w.heap.size w X → Calls Tryz.prog 21 #[.int .i64 n] X fun e w' => e = .returned (.string (nm 109 n)) ∧ Below X.heap.size X w') := fun X hX => by rw [← nm_m]; exact list_any n hn X (hp.below hX)
  have HNt : Hid (∀ X, Below w.heap.size w X → Calls Tryz.prog 19 #[.int .u8 116, .int .i64 n] X fun e w' => e = .returned (.string (nm 116 n)) ∧ Below X.heap.size X w') := fun X hX => nameR_any 116 n hn X (hp.below hX)
  have HNw : Hid (∀ X, Below w.heap.size w X → Calls Tryz.prog 19 #[.int .u8 119, .int .i64 n] X fun e w' => e = .returned (.string (nm 119 n)) ∧ Below X.heap.size X w') := fun X hX => nameR_any 119 n hn X (hp.below hX)
  have HNm : Hid (∀ X, Below w.heap.size w X → Calls Tryz.prog 19 #[.int .u8 109, .int .i64 n] X fun e w' => e = .returned (.string (nm 109 n)) ∧ Below X.heap.size X w') := fun X hX => nameR_any 109 n hn X (hp.below hX)
  have HP : Hid (∀ s : ByteArray, s.size ≤ 281474976710000 → ∀ X, Below w.heap.size w X → Calls Tryz.prog 22 #[.string s] X fun e w' => e = .returned (parseV (parsed s.data.toList)) ∧ Below X.heap.size X w') := fun s hs X hX => parse_any s (by omega) X (hp.below hX) (he.below hX)
  have HPR : Hid (∀ X, Below w.heap.size w X → Calls Tryz.prog 23 #[.string T] X fun e w' => e = .returned (parseV (parsed T.data.toList)) ∧ Below X.heap.size X w') := fun X hX => parseR_any T (by omega) X (hp.below hX) (he.below hX)
  have hEq := nm_eq 116 hn hm
  have hNe := nm_ne (c := 116) (d := 119) (by decide) n m
  have HIt : Hid (NameIs n (nm 116 n) 116) := nm_nameIs 116 n rfl hn
  have HIw : Hid (NameIs n (nm 119 n) 119) := nm_nameIs 119 n rfl hn
  have HIm : Hid (NameIs n (nm 109 n) 109) := nm_nameIs 109 n rfl hn
  clear hn hm hp he
  generalize nm 116 n = An at *
  generalize nm 116 m = Am at *
  generalize nm 119 n = Bn at *
  generalize nm 119 m = Bm at *
  generalize nm 109 n = Cn at *
  obtain ⟨pk, pi, pb, hR⟩ := parseV_form (parsed T.data.toList)
  have HPT : Hid (∀ X, Below w.heap.size w X → Calls Tryz.prog 22 #[.string T] X fun e w' => e = .returned (.tuple #[.int .u8 pk, .int .i64 pi, .bool pb]) ∧ Below X.heap.size X w') := fun X hX => by rw [← hR]; exact HP.out T hT X hX
  rw [hR] at HPR
  clear hR hT
  go_enter Tryz.func6, Tryz.ntmps6
  go_wp2_with fail
  refine (lives_any _).mono ?_
  rintro x w1 ⟨rfl, hb1⟩
  have HB1 : Hid (Below w.heap.size w w1) := hb1
  clear hb1
  go_wp2_with fail
  refine (show Calls _ _ _ _ _ from HTn.out _ HB1.out).mono ?_
  rintro x w2 ⟨rfl, hb⟩
  have HB2 : Hid (Below w.heap.size w w2) := HB1.out.trans (hb.mono HB1.out.size)
  clear hb HB1
  go_wp2_with fail
  refine (show Calls _ _ _ _ _ from HNt.out _ HB2.out).mono ?_
  rintro x w3 ⟨rfl, hb⟩
  have HB3 : Hid (Below w.heap.size w w3) := HB2.out.trans (hb.mono HB2.out.size)
  clear hb HB2
  go_wp2_with fail
  refine (show Calls _ _ _ _ _ from HWn.out _ HB3.out).mono ?_
  rintro x w4 ⟨rfl, hb⟩
  have HB4 : Hid (Below w.heap.size w w4) := HB3.out.trans (hb.mono HB3.out.size)
  clear hb HB3
  go_wp2_with fail
  refine (show Calls _ _ _ _ _ from HNw.out _ HB4.out).mono ?_
  rintro x w5 ⟨rfl, hb⟩
  have HB5 : Hid (Below w.heap.size w w5) := HB4.out.trans (hb.mono HB4.out.size)
  clear hb HB4
  go_wp2_with fail
  refine (show Calls _ _ _ _ _ from HLn.out _ HB5.out).mono ?_
  rintro x w6 ⟨rfl, hb⟩
  have HB6 : Hid (Below w.heap.size w w6) := HB5.out.trans (hb.mono HB5.out.size)
  clear hb HB5
  go_wp2_with fail
  refine (show Calls _ _ _ _ _ from HNm.out _ HB6.out).mono ?_
  rintro x w7 ⟨rfl, hb⟩
  have HB7 : Hid (Below w.heap.size w w7) := HB6.out.trans (hb.mono HB6.out.size)
  clear hb HB6
  go_wp2_with fail
  refine (show Calls _ _ _ _ _ from HPT.out _ HB7.out).mono ?_
  rintro x w8 ⟨rfl, hb⟩
  have HB8 : Hid (Below w.heap.size w w8) := HB7.out.trans (hb.mono HB7.out.size)
  clear hb HB7
  go_wp2_with fail
  refine (show Calls _ _ _ _ _ from HPR.out _ HB8.out).mono ?_
  rintro x w9 ⟨rfl, hb⟩
  have HB9 : Hid (Below w.heap.size w w9) := HB8.out.trans (hb.mono HB8.out.size)
  clear hb HB8
  go_wp2_with fail
  refine (show Calls _ _ _ _ _ from HTn.out _ HB9.out).mono ?_
  rintro x w10 ⟨rfl, hb⟩
  have HB10 : Hid (Below w.heap.size w w10) := HB9.out.trans (hb.mono HB9.out.size)
  clear hb HB9
  go_wp2_with fail
  refine (show Calls _ _ _ _ _ from HTm.out _ HB10.out).mono ?_
  rintro x w11 ⟨rfl, hb⟩
  have HB11 : Hid (Below w.heap.size w w11) := HB10.out.trans (hb.mono HB10.out.size)
  clear hb HB10
  go_wp2_with fail
  refine (show Calls _ _ _ _ _ from HTn.out _ HB11.out).mono ?_
  rintro x w12 ⟨rfl, hb⟩
  have HB12 : Hid (Below w.heap.size w w12) := HB11.out.trans (hb.mono HB11.out.size)
  clear hb HB11
  go_wp2_with fail
  refine (show Calls _ _ _ _ _ from HWm.out _ HB12.out).mono ?_
  rintro x w13 ⟨rfl, hb⟩
  have HB13 : Hid (Below w.heap.size w w13) := HB12.out.trans (hb.mono HB12.out.size)
  clear hb HB12
  go_wp2_with fail
  refine (show Calls _ _ _ _ _ from HTn.out _ HB13.out).mono ?_
  rintro x w14 ⟨rfl, hb⟩
  have HB14 : Hid (Below w.heap.size w w14) := HB13.out.trans (hb.mono HB13.out.size)
  clear hb HB13
  go_wp2_with fail
  refine (show Calls _ _ _ _ _ from HWn.out _ HB14.out).mono ?_
  rintro x w15 ⟨rfl, hb⟩
  have HB15 : Hid (Below w.heap.size w w15) := HB14.out.trans (hb.mono HB14.out.size)
  clear hb HB14
  go_wp2_with fail
  refine (show Calls _ _ _ _ _ from HLn.out _ HB15.out).mono ?_
  rintro x w16 ⟨rfl, hb⟩
  have HB16 : Hid (Below w.heap.size w w16) := HB15.out.trans (hb.mono HB15.out.size)
  clear hb HB15
  clear HTn HTm HWn HWm HLn HNt HNw HNm HPT HPR hEq hNe
  obtain ⟨W, hW⟩ : ∃ W, W = w16.alloc (.cells #[.string An, .string Bn, .string Cn] 9) := ⟨_, rfl⟩
  have HBW : Hid (Below w.heap.size w W) := by show Below _ _ _; rw [hW]; exact HB16.out.alloc HB16.out.size _
  obtain ⟨g, hg⟩ : ∃ g, g = w16.heap.size := ⟨_, rfl⟩
  have HGW : Hid (W.heap[g]? = some (.cells #[.string An, .string Bn, .string Cn] 9 (0, 0))) := by show _ = _; rw [hW, hg]; exact heap_alloc_new w16 _
  have hW' := hW.symm
  clear HB16 hW
  have hg2 := hg.symm
  clear hg
  go_wp2
  go_loopw [90] (fun i wr => ∃ k : Nat, k ≤ 3 ∧ i = .int .i64 k ∧ Hid (Below w.heap.size w wr) ∧ Hid (wr.heap[g]? = some (.cells #[.string An, .string Bn, .string Cn] 9 (0, 0)))) (fun i _ => 3 - (intOf i).toNat)
  case atStart => exact ⟨0, by omega, rfl, HBW, HGW⟩
  case round =>
    clear hW' hg2
    obtain ⟨k, hk, rfl, HB, HG⟩ := hrel
    by_cases hlt : k < 3
    · obtain ⟨s, z, hc, hni⟩ : ∃ s z, wr.cell? ⟨g, k, none⟩ = some (.string s) ∧ NameIs n s z := by
        have h0 : wr.cell? ⟨g, 0, none⟩ = some (.string An) := by rw [Joins.cell_of_block HG.out]; rfl
        have h1 : wr.cell? ⟨g, 1, none⟩ = some (.string Bn) := by rw [Joins.cell_of_block HG.out]; rfl
        have h2 : wr.cell? ⟨g, 2, none⟩ = some (.string Cn) := by rw [Joins.cell_of_block HG.out]; rfl
        match k, hlt with
        | 0, _ => exact ⟨_, _, h0, HIt.out⟩
        | 1, _ => exact ⟨_, _, h1, HIw.out⟩
        | 2, _ => exact ⟨_, _, h2, HIm.out⟩
      have hsp := hni.pos
      have hsz := hni.size
      have hz := hni.head hsp
      have hs0 : (0 : Int) < (s.size : Int) := by omega
      have hpa := HP.out s (by omega) wr HB.out
      rw [hni.out] at hpa
      have HPa : Hid _ := hpa
      have hk0 : (0 : Int) ≤ (k : Int) := by omega
      have hk1 : (k : Int) < 3 := by omega
      clear hpa hni HIt HIw HIm HP
      by_cases h1n : 1 ≤ n
      · rw [if_pos h1n] at HPa
        have hge : decide (1 ≤ n) = true := decide_eq_true h1n
        go_wp2_with fail
        refine (show Calls _ _ _ _ _ from HPa.out).mono ?_
        rintro x w5 ⟨rfl, hb5⟩
        have HB5 : Hid (Below w.heap.size w w5) := HB.out.trans (hb5.mono HB.out.size)
        have HG5 : Hid (w5.heap[g]? = some (.cells #[.string An, .string Bn, .string Cn] 9 (0, 0))) := (hb5.block _ (lt_of_block HG.out)).trans HG.out
        clear hb5 HB HG HPa hc
        go_wp2
        go_roundw
        case rel => exact ⟨k + 1, by omega, by go_num, HB5, HG5⟩
        case measure => simp [intOf]; omega
      · rw [if_neg h1n] at HPa
        have hge : decide (1 ≤ n) = false := decide_eq_false h1n
        go_wp2_with fail
        refine (show Calls _ _ _ _ _ from HPa.out).mono ?_
        rintro x w5 ⟨rfl, hb5⟩
        have HB5 : Hid (Below w.heap.size w w5) := HB.out.trans (hb5.mono HB.out.size)
        have HG5 : Hid (w5.heap[g]? = some (.cells #[.string An, .string Bn, .string Cn] 9 (0, 0))) := (hb5.block _ (lt_of_block HG.out)).trans HG.out
        clear hb5 HB HG HPa hc
        go_wp2
        go_roundw
        case rel => exact ⟨k + 1, by omega, by go_num, HB5, HG5⟩
        case measure => simp [intOf]; omega
    · obtain rfl : k = 3 := by omega
      go_wp2
      go_ret
      exact ⟨rfl, HB.out⟩
end Go.Proofs.YtjfanbemihheiaaGreatDoor.Ma
