/-
  The texts BlockRefEnc.
-/
import Derived.Test.YtedjohkdfchocaaGreatQBlockRow
import Derived.Test.YtedjohkdfchocaaGreatQBlockEncode
import Derived.Test.YtedjohkdfchocaaGreatQPackRef

/-
  The document's answer for layer 8: what Encode answers, for every list.
-/
namespace Go.Proofs.YtedjohkdfchocaaGreat.Bk
open Go.RowKit Cm Mm
open Pk (enc enc_len fold text refNum_any refText_any refInt_any)
set_option linter.unusedVariables false

/-- append to such a row, in a plain region. -/
theorem wpList_rowz {ops : Array Oper} {rest : List Oper} {o : Oper} {a : Act} {Q : Exit → Act → World → Prop} (w : World) (hgd : o.guard = none) (sl x : Operand) (tx : TypeId)
    (ho : o.op = .call { callee := .builtin .append, args := #[sl, x], argTypes := #[76, tx] }) (base : Nat) (v xv : Value) (l news : List UInt8) (n : Nat) (hs : a.eval sl = v) (hx : a.eval x = xv)
    (hrow : RowZ w base v l) (hsrc : Src Tryz.prog 1 tx xv n (news.map B8) w) (h63 : l.length + news.length ≤ 140737488355328) (hbase : base ≤ w.heap.size)
    (h : ∀ v' w', RowZ w' base v' (l ++ news) → w.grownBy w' v.ownBlock → wpList Tryz.prog ops Q rest (a.put o.dst v') w') : wpList Tryz.prog ops Q (o :: rest) a w := by
  refine wpList_plain hgd fun K hK => ?_
  obtain ⟨v', w', hr, h2, h3⟩ := hrow.append (ty := o.type) hsrc h63 hbase
  unfold Oper.wp execOp
  simp only [ho, resolve, invoke, builtin, Sem.run_bind, Sem.run_pure, Result.andThen_ok, List.map_toArray, List.map_cons, List.map_nil, hs, hx, hr]
  exact hK _ _ (h v' w' h2 h3)
/-- append to such a row, as one step of a region that draws its order. -/
theorem step_rowz {ops : Array Oper} {o : Oper} {a : Act} {K : Act → World → Prop} {Q : Exit → Act → World → Prop} {E : Prop} (w : World) (hgd : o.guard = none) (sl x : Operand) (tx : TypeId)
    (ho : o.op = .call { callee := .builtin .append, args := #[sl, x], argTypes := #[76, tx] }) (base : Nat) (v xv : Value) (l news : List UInt8) (n : Nat) (hs : a.eval sl = v) (hx : a.eval x = xv)
    (hrow : RowZ w base v l) (hsrc : Src Tryz.prog 1 tx xv n (news.map B8) w) (h63 : l.length + news.length ≤ 140737488355328) (hbase : base ≤ w.heap.size)
    (h : ∀ v' w', RowZ w' base v' (l ++ news) → w.grownBy w' v.ownBlock → K (a.put o.dst v') w') : if Region.wanted o (yielded ops a.tmps) = true then Oper.wp Tryz.prog o a w K Q else E := by
  have hw : Region.wanted o (yielded ops a.tmps) = true := by simp [Region.wanted, hgd]
  rw [if_pos hw]
  obtain ⟨v', w', hr, h2, h3⟩ := hrow.append (ty := o.type) hsrc h63 hbase
  unfold Oper.wp execOp
  simp only [ho, resolve, invoke, builtin, Sem.run_bind, Sem.run_pure, Result.andThen_ok, List.map_toArray, List.map_cons, List.map_nil, hs, hx, hr]
  exact h v' w' h2 h3
theorem src_str (w : World) (l : List UInt8) : Src Tryz.prog 1 9 (.string ⟨l.toArray⟩) l.length (l.map B8) w := by
  have := Src.ofString (P := Tryz.prog) w (tx := 9) Tryz.underlying9 ⟨l.toArray⟩
  have h1 : (⟨l.toArray⟩ : ByteArray).size = l.length := by rw [← bs_len, bs_mk]
  rw [h1] at this
  exact this
/-- One byte in a slice of its own. -/
theorem src_one {w : World} {g : Nat} {c : UInt8} {fz : Nat × Nat} (h : w.heap[g]? = some (.cells #[.int .u8 (c.toNat : Int)] 5 fz)) : Src Tryz.prog 1 76 (.slice (some ⟨g, 0, none⟩) 1 1) 1 ([c].map B8) w :=
  Src.ofSlice (P := Tryz.prog) w Tryz.underlying76 ⟨g, 0, none⟩ 1 1 ([c].map B8) rfl (World.news_of_block h) (fun u hu => by simp at hu; subst hu; rfl)

/-- The bytes so far, the version's box beside them. -/
structure ES (w : World) (g : Nat) (e : En) (v : Value) (l : List UInt8) (X : World) : Prop where
  row : RowZ X w.heap.size v l
  box : X.heap[g]? = some (entObj e)
  bel : Below w.heap.size w X
section
variable {w X Y : World} {g : Nat} {e : En} {v v' : Value} {l l' : List UInt8}
theorem ES.below (h : ES w g e v l X) (hb : Below X.heap.size X Y) : ES w g e v l Y := ⟨h.row.below hb, (hb.block _ (lt_of_block h.box)).trans h.box, h.bel.trans (hb.mono h.bel.size)⟩
theorem ES.alloc (h : ES w g e v l X) (o : Obj) : ES w g e v l (X.alloc o) := h.below ((Below.refl _ _).alloc (Nat.le_refl _) _)
theorem ES.drewN (h : ES w g e v l X) (n : Nat) : ES w g e v l (X.drewN n) := ⟨h.row.keep (fun _ _ => rfl), h.box, ⟨h.bel.os, h.bel.tape, h.bel.output, h.bel.size, h.bel.block⟩⟩
theorem ES.drew (h : ES w g e v l X) : ES w g e v l X.drew := h.drewN 1
theorem ES.grow (h : ES w g e v l X) (hr : RowZ Y w.heap.size v' l') (hg : X.grownBy Y v.ownBlock) : ES w g e v' l' Y :=
  ⟨hr, (hg.block g (lt_of_block h.box) (fun q => h.row.far h.box (fun cs fz q => by simp [entObj] at q) q.symm)).trans h.box, h.bel.grown hg h.bel.size (fun k hk => (h.row.lt k hk).1)⟩
theorem ES.cells (h : ES w g e v l X) : X.cell? ⟨g, 0, none⟩ = some (.string e.key) ∧ X.cell? ⟨g, 1, none⟩ = some (.int .i64 e.seq) ∧ X.cell? ⟨g, 2, none⟩ = some (.bool e.dead) ∧ X.cell? ⟨g, 3, none⟩ = some (.string e.val) := by
  obtain ⟨h0, h1, h2, h3, _⟩ := ent_cells h.box
  exact ⟨h0, h1, h2, h3⟩
end
set_option maxRecDepth 100000 in
set_option maxHeartbeats 2000000 in
theorem encodeR_any (ao : Option Addr) (ca : Nat) (es : List En) (w : World) (hx : ElemsAt enShape w ao es) (hok : AllOk es) (hs : Sized es) :
    Calls Tryz.prog 23 #[.slice ao es.length ca] w fun e w' => e = .returned (encV es) ∧ Below w.heap.size w w' := by
  have HX : Hid (∀ wr, Below w.heap.size w wr → ElemsAt enShape wr ao es) := fun wr hb => hx.later hb
  have HOK : Hid (∀ k, k < es.length → (es.getD k En.zero).ok) := fun k hk => by rw [getD_lt _ _ _ hk]; exact hok _ (List.getElem_mem hk)
  have HSZ : Hid (Sized es) := hs
  have hfew := hs.few
  have hR := rightR_any ao ca es w hx hfew
  clear hx hok hs
  unfold encV
  by_cases hr : right es = true
  · rw [if_pos hr]
    rw [hr] at hR
    clear hr
    go_enter Tryz.func23, Tryz.ntmps23
    go_wp2_with fail
    refine hR.mono ?_
    rintro e w1 ⟨rfl, hb1⟩
    have HB1 : Hid _ := hb1
    clear hb1 hR
    go_wp2_with fail
    refine (refNum_any es.length _ (by omega)).mono ?_
    rintro e w2 ⟨rfl, hb2⟩
    have HB2 : Hid (Below w.heap.size w w2) := HB1.out.trans (hb2.mono HB1.out.size)
    clear hb2 HB1
    have hsz : (⟨(enc es.length).toArray⟩ : ByteArray).size ≤ 10 := by rw [← bs_len, bs_mk]; exact (enc_len _).2
    have hcv := Lib.run_convert_string_bytes (P := Tryz.prog) w2 9 76 5 ⟨(enc es.length).toArray⟩ Tryz.underlying9 Tryz.underlying76 Tryz.underlying5
    have HZ : Hid (RowZ (Lib.bytesWorld w2 5 ⟨(enc es.length).toArray⟩) w.heap.size (.slice (some ⟨w2.heap.size, 0, none⟩) (⟨(enc es.length).toArray⟩ : ByteArray).size (grownCap w2 (⟨(enc es.length).toArray⟩ : ByteArray).size 0 5)) (enc es.length)) := by
      have := RowZ.made w2 ⟨(enc es.length).toArray⟩ w.heap.size HB2.out.size (by unfold maxLen; omega)
      rw [bs_mk] at this
      exact this
    have HB3 : Hid (Below w.heap.size w (Lib.bytesWorld w2 5 ⟨(enc es.length).toArray⟩)) := HB2.out.trans ((made_below w2 _).mono HB2.out.size)
    generalize Lib.bytesWorld w2 5 ⟨(enc es.length).toArray⟩ = w3 at *
    go_wp2
    clear hcv
    go_loopw [4, 5, 19] (fun bv lv i wr => ∃ k : Nat, k ≤ es.length ∧ i = .int .i64 k ∧ lv = .string ⟨(lastKey [] (es.take k)).toArray⟩ ∧ Hid (RowZ wr w.heap.size bv (enc es.length ++ body [] (es.take k))) ∧ Hid (Below w.heap.size w wr)) (fun _ _ i _ => es.length - (intOf i).toNat)
    case atStart =>
      refine ⟨0, by omega, rfl, rfl, ?_, HB3⟩
      have h1 : (⟨(enc es.length).toArray⟩ : ByteArray).size = (enc es.length).length := by rw [← bs_len, bs_mk]
      have h2 := HZ.out
      rw [h1] at h2
      simpa [Hid, body] using h2
    case round =>
      obtain ⟨k, hk, rfl, rfl, HR, HB⟩ := hrel
      by_cases hlt : k < es.length
      · obtain ⟨pb, off, rfl, c0, c1, c2, c3⟩ := elem_cells (HX.out wr HB.out) hlt
        have hb0 := enc_len es.length
        have hb1 := body_take es (k + 1)
        have hb2 := HSZ.out.all
        have hb3 := body_take es k
        unfold block at hb2
        rw [List.length_append] at hb2
        have hz := HSZ.out.each k
        have hLs := last_len HSZ.out k
        have hok := HOK.out k hlt
        have HKn := lastK es k hlt
        have HBn := bodyK es k hlt
        obtain ⟨L, hL⟩ : ∃ L : ByteArray, L = ⟨(lastKey [] (es.take k)).toArray⟩ := ⟨_, rfl⟩
        have hLb : bs L = lastKey [] (es.take k) := by rw [hL, bs_mk]
        rw [← hL] at hLs ⊢
        rw [← hLb] at HBn
        have hlen : (enc es.length ++ body [] (es.take k)).length ≤ 100000000000000 := by rw [List.length_append]; omega
        have HL2 : Hid (enc es.length ++ body [] (es.take (k + 1)) = (enc es.length ++ body [] (es.take k)) ++ piece (bs L) (es.getD k En.zero)) := by rw [HBn, List.append_assoc]; exact hid_rfl
        have HES : Hid (ES w wr.heap.size (es.getD k En.zero) u4 (enc es.length ++ body [] (es.take k)) (wr.alloc (entObj (es.getD k En.zero)))) := ⟨HR.out.below ((Below.refl _ _).alloc (Nat.le_refl _) _), heap_alloc_new wr _, HB.out.alloc HB.out.size _⟩
        have HKN : Hid _ := HKn
        clear hL hLb hb0 hb1 hb2 hb3 HBn HKn HR
        generalize enc es.length ++ body [] (es.take k) = pre at *
        generalize es.getD k En.zero = y at *
        obtain ⟨m, hm⟩ : ∃ m, m = share (bs L) (bs y.key) := ⟨_, rfl⟩
        have hml : m ≤ y.key.size := by have := (share_le (bs L) (bs y.key)).2; rw [bs_len] at this; omega
        obtain ⟨R, hR⟩ : ∃ R, R = y.key.extract m y.key.size := ⟨_, rfl⟩
        have hRb : bs R = (bs y.key).drop m := by rw [hR, bs_rest]
        have hRs : R.size ≤ y.key.size := by rw [← bs_len, hRb, List.length_drop, bs_len]; omega
        have HF : Hid _ := piece_bytes (bytes := pre) hm hRb
        have HSh : Hid (∀ wq, Calls Tryz.prog 50 #[.string L, .string y.key] wq fun x w' => x = .returned (.int .i64 (m : Nat)) ∧ ∃ n, w' = wq.drewN n) := fun wq => by rw [hm]; exact sharedR_any L y.key wq hLs hz.1
        have HRx : Hid (y.key.extract m y.key.size = R) := hR.symm
        have he1 := hok.1
        have he2 := hok.2
        have hel := (enc_len m).2
        have htl := (text_len (bs R)).1
        rw [bs_len] at htl
        have htv := (text_len (bs y.val)).1
        rw [bs_len] at htv
        have hfl := (enc_len (fold y.seq)).2
        have hk0 : (0 : Int) ≤ (k : Int) := by omega
        have hk1 : (k : Int) < (es.length : Int) := by omega
        have hkr1 : (0 : Int) ≤ (m : Int) := by omega
        have hkr2 : (m : Int) ≤ (y.key.size : Int) := by omega
        unfold entObj at HES
        clear hm hR hRb HX HOK HSZ HB HZ HB3 HB2
        go_wp2_with fail
        refine (HSh.out _).mono ?_
        rintro x w4 ⟨rfl, n4, rfl⟩
        have HE4 : Hid _ := HES.out.drewN n4
        generalize (wr.alloc (.cells #[.string y.key, .int .i64 y.seq, .bool y.dead, .string y.val] 25)).drewN n4 = w4 at *
        clear HES HSh c0 c1 c2 c3
        obtain ⟨d0, d1, d2, d3⟩ := HE4.out.cells
        go_wp2_with fail
        refine (refNum_any m _ (by omega)).mono ?_
        rintro x w5 ⟨rfl, hb5⟩
        have HE5 : Hid _ := HE4.out.below hb5
        clear hb5 HE4 d0 d1 d2 d3
        go_wp2_with (at_builtin; refine wpList_rowz _ rfl _ _ 9 rfl w.heap.size _ _ pre (enc m) _ rfl rfl HE5.out.row (src_str _ _) ?c1 HE5.out.bel.size ?_)
        case c1 => omega
        intro v6 w6 hr6 hg6
        have HE6 : Hid _ := HE5.out.grow hr6 hg6
        clear hr6 hg6 HE5
        obtain ⟨d0, d1, d2, d3⟩ := HE6.out.cells
        have hl6 : (pre ++ enc m).length ≤ pre.length + 10 := by rw [List.length_append]; omega
        generalize hp6 : pre ++ enc m = pre6 at *
        go_wp2_with fail
        rw [HRx.out]
        refine (refText_any R _ (by omega)).mono ?_
        rintro x w7 ⟨rfl, hb7⟩
        have HE7 : Hid _ := HE6.out.below hb7
        clear hb7 HE6 d0 d1 d2 d3
        go_wp2_with (at_builtin; refine wpList_rowz _ rfl _ _ 9 rfl w.heap.size _ _ pre6 (text (bs R)) _ rfl rfl HE7.out.row (src_str _ _) ?c1 HE7.out.bel.size ?_)
        case c1 => omega
        intro v8 w8 hr8 hg8
        have HE8 : Hid _ := HE7.out.grow hr8 hg8
        clear hr8 hg8 HE7
        obtain ⟨d0, d1, d2, d3⟩ := HE8.out.cells
        have hl8 : (pre6 ++ text (bs R)).length ≤ pre6.length + y.key.size + 10 := by rw [List.length_append]; omega
        generalize hp8 : pre6 ++ text (bs R) = pre8 at *
        go_wp2_with fail
        refine (refInt_any y.seq _ he1 he2).mono ?_
        rintro x w9 ⟨rfl, hb9⟩
        have HE9 : Hid _ := HE8.out.below hb9
        clear hb9 HE8 d0 d1 d2 d3
        go_wp2_with (at_builtin; refine wpList_rowz _ rfl _ _ 9 rfl w.heap.size _ _ pre8 (enc (fold y.seq)) _ rfl rfl HE9.out.row (src_str _ _) ?c1 HE9.out.bel.size ?_)
        case c1 => omega
        intro v10 w10 hr10 hg10
        have HE10 : Hid _ := HE9.out.grow hr10 hg10
        clear hr10 hg10 HE9
        obtain ⟨d0, d1, d2, d3⟩ := HE10.out.cells
        have hl10 : (pre8 ++ enc (fold y.seq)).length ≤ pre8.length + 10 := by rw [List.length_append]; omega
        generalize hp10 : pre8 ++ enc (fold y.seq) = pre10 at *
        have HFn : Hid (enc es.length ++ body [] (es.take (k + 1)) = pre10 ++ mark y.dead (bs y.val)) := by
          show _ = _
          rw [HL2.out, HF.out]
        clear hp6 hp8 hp10 HF HL2 HRx
        cases hd : y.dead
        · rw [hd] at d2 HFn
          have HT : Hid (∀ X, Calls Tryz.prog 24 #[.string y.val] X fun x w' => x = .returned (.string ⟨(text (bs y.val)).toArray⟩) ∧ Below X.heap.size X w') := fun X => refText_any y.val X (by omega)
          have HE10d : Hid _ := HE10.out.drew
          have hl12 : (pre10 ++ [(0 : UInt8)]).length = pre10.length + 1 := by simp
          have h63a : pre10.length + [(0 : UInt8)].length ≤ 140737488355328 := by simp; omega
          have h63b : (pre10 ++ [(0 : UInt8)]).length + (text (bs y.val)).length ≤ 140737488355328 := by omega
          have hn10 : w10.heap.size < (w10.alloc (.cells #[.int .u8 0] 5)).drew.heap.size := by show _ < (w10.alloc _).heap.size; simp
          have HFn2 : Hid (enc es.length ++ body [] (es.take (k + 1)) = pre10 ++ [0] ++ text (bs y.val)) := by show _ = _; rw [HFn.out]; simp [mark]
          clear d0 d1 hl12 HFn
          go_wp2_with fail
          go_region_held3 (fun w' => w'.cell? ⟨wr.heap.size, 3, none⟩ = some (.string y.val)) (first | exact d3 | exact h13.cells.2.2.2 | exact h12.cells.2.2.2 | exact hA.cells.2.2.2 | go_keep)
            (first
              | (go_at_call 24; refine (show Calls _ _ _ _ _ from HT.out _).mono ?_; rintro x wA ⟨rfl, hbA⟩; have hA := (by first | exact HE10d.out.below hbA | exact (HE10.out.alloc _).drew.below hbA | exact h12.below hbA : ES w wr.heap.size y _ _ wA))
              | (refine step_rowz _ (by rfl) (.tmp 49) (.tmp 50) 76 (by rfl) w.heap.size v10 _ pre10 [0] 1 (by rfl) (by rfl) (by first | exact (HE10.out.alloc _).drew.row | exact (hA.alloc _).row | exact hA.row) (by first | exact src_one (c := 0) (heap_alloc_new w10 _) | exact src_one (c := 0) (heap_alloc_new wA _) | exact src_one (c := 0) ((hbA.block _ hn10).trans (heap_alloc_new w10 _))) h63a (by first | exact (HE10.out.alloc _).drew.bel.size | exact (hA.alloc _).bel.size | exact hA.bel.size) ?_; intro v12 w12 hr12 hg12; have h12 := (by first | exact (HE10.out.alloc _).drew.grow hr12 hg12 | exact (hA.alloc _).grow hr12 hg12 | exact hA.grow hr12 hg12 : ES w wr.heap.size y v12 (pre10 ++ [0]) w12))
              | (refine step_rowz _ (by rfl) (.tmp 51) (.tmp 54) 9 (by rfl) w.heap.size v12 _ (pre10 ++ [0]) (text (bs y.val)) _ (by rfl) (by rfl) (by first | exact h12.row | exact hA.row) (src_str _ _) h63b (by first | exact h12.bel.size | exact hA.bel.size) ?_; intro v13 w13 hr13 hg13; have h13 := (by first | exact h12.grow hr13 hg13 | exact hA.grow hr13 hg13 : ES w wr.heap.size y v13 (pre10 ++ [0] ++ text (bs y.val)) w13))
              | fail)
          all_goals
            have HE13 : Hid _ := h13
            clear h13 h12 hA hr12 hg12 hr13 hg13 hbA HE10 HE10d d3
            obtain ⟨d0, d1, d2, d3⟩ := HE13.out.cells
            go_wp2
            go_roundw
            case rel => exact ⟨k + 1, by omega, by go_num, by rw [HKN.out], by show RowZ _ _ _ _; rw [HFn2.out]; exact HE13.out.row, HE13.out.bel⟩
            case measure => simp [intOf]; omega
        · rw [hd] at d2 HFn
          have hn10 : w10.heap.size < (w10.alloc (.cells #[.int .u8 1] 5)).heap.size := by simp
          go_wp2_with (at_builtin; refine wpList_rowz _ rfl _ _ 76 rfl w.heap.size _ _ pre10 [1] 1 rfl rfl (HE10.out.alloc _).row (src_one (c := 1) (heap_alloc_new w10 _)) ?c1 (HE10.out.alloc _).bel.size ?_)
          case c1 => simp; omega
          intro v11 w11 hr11 hg11
          have HE11 : Hid _ := (HE10.out.alloc _).grow hr11 hg11
          clear hr11 hg11 HE10 d0 d1 d2 d3
          obtain ⟨d0, d1, d2, d3⟩ := HE11.out.cells
          go_wp2
          go_roundw
          case rel => exact ⟨k + 1, by omega, by go_num, by rw [HKN.out], by show RowZ _ _ _ _; rw [HFn.out]; exact HE11.out.row, HE11.out.bel⟩
          case measure => simp [intOf]; omega
      · obtain rfl : k = es.length := by omega
        rw [List.take_length] at HR
        have hst := RowZ.string (show RowZ _ _ _ _ from HR.out)
        clear HX HOK HSZ HZ HB3 HB2
        go_wp2
        go_ret2
        exact ⟨rfl, HB.out⟩
  · rw [if_neg hr]
    have hr' : right es = false := by simpa using hr
    rw [hr'] at hR
    clear hr hr' HX HOK HSZ
    go_enter Tryz.func23, Tryz.ntmps23
    go_wp2_with fail
    refine hR.mono ?_
    rintro e w1 ⟨rfl, hb1⟩
    have HB1 : Hid _ := hb1
    clear hb1 hR
    go_wp2
    go_ret2
    exact ⟨rfl, HB1.out⟩
end Go.Proofs.YtedjohkdfchocaaGreat.Bk
