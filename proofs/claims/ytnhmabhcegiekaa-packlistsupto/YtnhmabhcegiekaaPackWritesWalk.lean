/-
  The walk of the statement PackWrites.
-/
import Derived.Test.YtnhmabhcegiekaaPackOne
import Derived.Test.YtnhmabhcegiekaaPackRef
import Derived.Test.YtnhmabhcegiekaaPackBackWalk
import Derived.BigQuiet
import Derived.Deep.RegionWith
namespace Go.Proofs.Ytnhmabhcegiekaa.Pk
open Go.RowKit
set_option linter.unusedVariables false

theorem drew_below {B : Nat} {w w' : World} {n : Nat} (h : Below B w w') : Below B w (w'.drewN n) := ⟨h.os, h.tape, h.output, h.size, h.block⟩
theorem own_keep {w w' : World} {B : Nat} {e : TypeId} {n : Nat} {v : Value} {xs : List Value} (h : w.ownsRow B e 1 v n xs) (hk : ∀ k, v.ownBlock = some k → w'.heap[k]? = w.heap[k]?) : w'.ownsRow B e 1 v n xs := by
  refine ⟨h.1, ?_⟩
  rcases h.2 with h | ⟨g, cap, cur, rfl, h1, hg, h2⟩
  · exact .inl h
  · exact .inr ⟨g, cap, cur, rfl, h1, (hk g rfl).trans hg, h2⟩
/-- A row of bytes is no writer's block. -/
theorem own_ne {w : World} {B b n : Nat} {v u : Value} {xs : List Value} (h : w.ownsRow B 5 1 v n xs) (hb : w.heap[b]? = some (.cells #[u] 41 (0, 0))) : v.ownBlock ≠ some b := by
  intro e
  rcases h.2 with ⟨rfl, _⟩ | ⟨g, cap, cur, rfl, _, hg, _⟩
  · simp [Value.ownBlock] at e
  · simp [Value.ownBlock] at e
    subst e
    rw [hb] at hg
    simp at hg

theorem own_len2 {w : World} {base : Nat} {v : Value} {bs : List UInt8} (h : w.ownsRow base 5 1 v bs.length (bs.map B8)) :
    ∃ ao cap L, v = .slice ao L cap ∧ L = bs.length := by
  obtain ⟨ao, cap, rfl⟩ := own_len h
  exact ⟨ao, cap, _, rfl, rfl⟩

/-- The state of the statement's loop: the writer, the wanted bytes, the other writer. -/
structure WS (w0 wr : World) (bw bo : Nat) (r : Option Nat) (bs : List UInt8) (v : Value) : Prop where
  wrt : WrAt wr w0.heap.size bw r bs
  want : wr.ownsRow w0.heap.size 5 1 v bs.length (bs.map B8)
  apart : r = none ∨ v.ownBlock ≠ r
  other : WrAt wr w0.heap.size bo none []
  ne : bo ≠ bw
  bel : Below w0.heap.size w0 wr
  ge : w0.heap.size ≤ bw

theorem item_cell {wr w4 : World} {bw : Nat} {r r' : Option Nat} {cs : Array Value} {T : TypeId} {o : Obj} (hs : Step bw ((wr.alloc (.cells cs T)).alloc o) r w4 r') (hne : bw < wr.heap.size) (hr : ∀ k, r = some k → k < wr.heap.size) (j : Nat) : w4.cell? ⟨wr.heap.size, j, none⟩ = cs[j]? := by
  have h1 : w4.heap[wr.heap.size]? = some (.cells cs T (0, 0)) := by
    rw [hs.kept.block wr.heap.size (by simp; omega) (by omega) (fun e => by have := hr _ e.symm; omega), Below.heap_alloc _ _ _ (by simp)]
    exact heap_alloc_new wr _
  exact cell_of_row _ _ _ _ _ _ h1

theorem WS.own5 {w0 wr w4 w5 : World} {bw bo : Nat} {r r2 : Option Nat} {bs : List UInt8} {v : Value} {o1 o2 : Obj} (h : WS w0 wr bw bo r bs v) (hs : Step bw ((wr.alloc o1).alloc o2) r w4 r2) (hb : Below w4.heap.size w4 w5) :
    w5.ownsRow w0.heap.size 5 1 v bs.length (bs.map B8) := by
  obtain ⟨u, hu, _⟩ := h.wrt
  have hne := own_ne h.want hu
  have hsz := hs.kept.size
  simp at hsz
  refine own_keep h.want fun k hk => ?_
  have hlt := (h.want.lt k hk).2
  rw [hb.block k (by omega), hs.kept.block k (by simp; omega) (fun e => hne (by rw [hk, e])) (fun e => ?_), Below.heap_alloc _ _ _ (by simp; omega), Below.heap_alloc _ _ _ (by omega)]
  rcases h.apart with ha | ha
  · rw [ha] at e; cases e
  · exact ha (by rw [hk, e])

theorem WS.step {w0 wr w4 w5 w6 : World} {bw bo : Nat} {r r2 : Option Nat} {bs x : List UInt8} {v v' : Value} {o1 o2 : Obj} {X : ByteArray} (h : WS w0 wr bw bo r bs v)
    (hw : WrAt w4 w0.heap.size bw r2 (bs ++ x)) (hs : Step bw ((wr.alloc o1).alloc o2) r w4 r2) (hb : Below w4.heap.size w4 w5) (hX : X.data.toList = x)
    (hown : w6.ownsRow w0.heap.size 5 1 v' (bs.length + X.size) (bs.map B8 ++ Lib.strCells X)) (hg : w5.grownBy w6 v.ownBlock) (hat : v'.ownBlock = v.ownBlock ∨ v'.ownBlock = some w5.heap.size) :
    WS w0 w6 bw bo r2 (bs ++ x) v' := by
  have hsz := hs.kept.size
  have hs5 := hb.size
  simp at hsz
  have hold := h.own5 hs hb
  have hr2 := fun k hk => hw.row_ge k hk
  have hlt4 := hw.lt
  obtain ⟨u, hu, _⟩ := h.wrt
  obtain ⟨uo, huo, _⟩ := h.other
  have hneo := own_ne h.want huo
  have hne := own_ne h.want hu
  have hlto := h.other.lt
  have hltw := h.wrt.lt
  have hro : ∀ k, r = some k → k < wr.heap.size ∧ k ≠ bo := by
    intro k hk
    have h1 := h.wrt.row_ge k hk
    refine ⟨h1.2.1, ?_⟩
    rintro rfl
    obtain ⟨u', hu', hown', hr'⟩ := h.wrt
    exact own_ne hown' huo (by rw [hr', hk])
  have hap : r2 = none ∨ v.ownBlock ≠ r2 := by
    rcases hs.row with e | ⟨g, e, hg⟩
    · rw [e]; exact h.apart
    · right
      rw [e]
      intro e2
      have := (h.want.lt g e2).2
      simp at hg
      omega
  refine ⟨?_, ?_, ?_, ?_, h.ne, ?_, h.ge⟩
  · refine hw.keep ?_ fun k hk => ?_
    · rw [hg.block bw (by omega) (fun e => hne e.symm), hb.block bw (by omega)]
    · rw [hg.block k (by have := hr2 k hk; omega) (fun e => ?_), hb.block k (hr2 k hk).2.1]
      rcases hap with ha | ha
      · rw [ha] at hk; cases hk
      · exact ha (by rw [← e, hk])
  · have e1 : (bs ++ x).length = bs.length + X.size := by rw [List.length_append, Lib.size_eq, hX]
    have e2 : (bs ++ x).map B8 = bs.map B8 ++ Lib.strCells X := by rw [List.map_append, ← hX]; rfl
    rw [e1, e2]; exact hown
  · rcases hap with ha | ha
    · exact .inl ha
    · rcases hat with e | e
      · right; rw [e]; exact ha
      · right; rw [e]; intro e2; have := (hr2 _ e2.symm).2.1; omega
  · refine h.other.keep ?_ fun k hk => by cases hk
    rw [hg.block bo (by omega) (fun e => hneo e.symm), hb.block bo (by omega), hs.kept.block bo (by simp; omega) h.ne (fun e => (hro bo e.symm).2 rfl), Below.heap_alloc _ _ _ (by simp; omega), Below.heap_alloc _ _ _ (by omega)]
  · have hsr := h.bel.size
    have h4 : Below w0.heap.size w0 w4 := back_below h.bel h.ge (fun k hk => (h.wrt.row_ge k hk).1) hs
    exact (h4.trans (hb.mono (by omega))).grown hg (by omega) (fun k hk => (h.want.lt k hk).1)

set_option maxRecDepth 100000 in
set_option maxHeartbeats 4000000 in
theorem writes_walk (ao : Option Addr) (cap : Nat) (its : List It) (w : World) (hi : ItemsAt w ao its) (hok : ∀ i ∈ its, i.ok) (hlen : its.length ≤ 1048576) (hsum : (its.flatMap bytesOf).length ≤ 140000000000000) :
    Calls Try.prog 3 #[.slice ao its.length cap] w fun e w' => e = .returned (.bool true) ∧ Below w.heap.size w w' := by
  obtain ⟨i0, hi0, hz0, hz1, hz2⟩ := info_parts info8
  go_enter Try.func3, Try.ntmps3
  go_wp2_with fail
  refine (lives_any _).mono ?_
  rintro e w1 ⟨rfl, hb1⟩
  have hs1 := hb1.size
  go_wp2_with fail
  refine (new_any _ 0 (Nat.zero_le _)).mono ?_
  rintro e w2 ⟨rfl, rfl⟩
  go_wp2_with fail
  refine (new_any _ 0 (Nat.zero_le _)).mono ?_
  rintro e w3 ⟨rfl, rfl⟩
  have HS0 : Hid (WS w ((w1.alloc (.cells #[.slice none 0 0] 41)).alloc (.cells #[.slice none 0 0] 41)) w1.heap.size (w1.heap.size + 1) none [] (.slice none 0 0)) :=
    ⟨(new_wr w1 _).alloc _, World.ownsRow_nil _ _ _ _, .inl rfl, by have := new_wr (w1.alloc (.cells #[.slice none 0 0] 41)) w.heap.size; simpa using this, by omega, (hb1.alloc hs1 _).alloc (by simp; omega) _, hs1⟩
  go_wp2_with fail
  go_loopw [5, 14] (fun v i wr => ∃ (k : Nat) (r : Option Nat), k ≤ its.length ∧ i = .int .i64 k ∧ Hid (WS w wr w1.heap.size (w1.heap.size + 1) r ((its.take k).flatMap bytesOf) v)) (fun _ i _ => its.length - (intOf i).toNat)
  case atStart => exact ⟨0, none, by omega, rfl, HS0⟩
  case round =>
    obtain ⟨k, r, hk, rfl, HS⟩ := hrel
    have HL1 : Hid (((its.take (k + 1)).flatMap bytesOf).length ≤ (its.flatMap bytesOf).length) := bytes_le its (k + 1)
    have HL : Hid (((its.take k).flatMap bytesOf).length ≤ (its.flatMap bytesOf).length) := bytes_le its k
    have hsr := HS.out.bel.size
    have hltw := HS.out.wrt.lt
    by_cases hlt : k < its.length
    · rcases hi.below HS.out.bel with h0 | ⟨b, off, rfl, hbl, hcells⟩
      · simp [h0] at hlt
      have hc := hcells k hlt
      have HN : Hid ((its.take (k + 1)).flatMap bytesOf = (its.take k).flatMap bytesOf ++ bytesOf (its.getD k It.zero)) := bytes_snoc its k hlt
      have HO : Hid (its.getD k It.zero).ok := hok _ (by rw [getD_lt _ _ _ hlt]; exact List.getElem_mem hlt)
      generalize its.getD k It.zero = it at *
      obtain ⟨hc0, hc1, hc2⟩ := hc
      generalize (its.take k).flatMap bytesOf = bs at *
      clear hcells
      go_wp2_with fail
      refine (kind_any it _).mono ?_
      rintro e w3 ⟨rfl, rfl⟩
      have hklt := it.kind_lt
      rw [HN.out] at HL1
      obtain ⟨c, hc⟩ : ∃ c, c = it.kind := ⟨_, rfl⟩
      rw [← hc] at hklt ⊢
      have HC : Hid _ := hc
      clear hc
      rcases (show c = 0 ∨ c = 1 ∨ c = 2 by omega) with h | h | h
      · subst h
        rw [bytes0 HC.out] at HN HL1
        go_wp2_with fail
        refine (one_num w.heap.size w1.heap.size _ r bs it.n _ _ ((HS.out.wrt.alloc _).alloc _) HO.out.2.1 (by simp) (by have := HL.out; omega) (by simp; omega)).mono ?_
        rintro e w4 ⟨rfl, r2, hw4, hs4⟩
        have hcn := item_cell hs4 hltw (fun k hk => (HS.out.wrt.row_ge k hk).2.1) 1
        simp at hcn
        go_wp2_with fail
        refine (refNum_any it.n _ HO.out.2.1).mono ?_
        rintro e w5 ⟨rfl, hb5⟩
        have hown5 := HS.out.own5 hs4 hb5
        have hsz5 := hs4.kept.size
        have hsz6 := hb5.size
        simp at hsz5
        obtain ⟨X, hX⟩ : ∃ X : ByteArray, X = ⟨(enc it.n).toArray⟩ := ⟨_, rfl⟩
        have HX : Hid (X.data.toList = enc it.n) := by rw [hX]; rfl
        have hXs : X.size = (enc it.n).length := by rw [Lib.size_eq, HX.out]
        rw [← hX]
        have HXs : Hid _ := hXs
        clear hX hXs
        have HLX : Hid (bs.length + X.size ≤ 140737488355328) := by
          have h1 := HL1.out
          have h2 := HXs.out
          rw [List.length_append] at h1
          show _ ≤ _
          omega
        go_wp2_with (at_builtin; refine wpList_append_str_at _ rfl _ _ 26 9 rfl w.heap.size 5 i0 Try.underlying26 Try.underlying9 hi0 hz0 hz1 hz2 u5 bs.length (bs.map B8) rfl hown5 X rfl ?c1a HLX.out ?c2a ?_)
        case c1a => have := HLX.out; unfold maxLen; omega
        case c2a => omega
        intro v' w6 hown6 hgrow6 hat6
        have hws := HS.out.step hw4 hs4 hb5 HX.out hown6 hgrow6 hat6
        obtain ⟨av, cv, L, rfl, hL⟩ := own_len2 hws.want
        have HWS : Hid _ := hws
        have HLn : Hid _ := hL
        clear hL
        clear hws hown6 hgrow6 hat6 hown5 hb5 hs4 hw4
        go_wp2_with fail
        refine (wLen_any _ _ _ _ _ HWS.out.wrt).mono ?_
        rintro e w7 ⟨rfl, rfl⟩
        rw [← HLn.out]
        go_wp2
        go_roundw
        case rel => exact ⟨k + 1, r2, by omega, by go_num, by rw [HN.out]; exact HWS⟩
        case measure => simp [intOf]; omega
      · subst h
        rw [bytes1 HC.out] at HN HL1
        have hbd := int_bd it
        go_wp2_with fail
        refine (one_int w.heap.size w1.heap.size _ r bs it.int _ _ ((HS.out.wrt.alloc _).alloc _) (int_bd it) (by simp) (by have := HL.out; omega) (by simp; omega)).mono ?_
        rintro e w4 ⟨rfl, r2, hw4, hs4⟩
        have hcn := item_cell hs4 hltw (fun k hk => (HS.out.wrt.row_ge k hk).2.1) 1
        simp at hcn
        go_wp2_with fail
        refine (refInt_any it.int _ hbd.1 hbd.2).mono ?_
        rintro e w5 ⟨rfl, hb5⟩
        have hown5 := HS.out.own5 hs4 hb5
        have hsz5 := hs4.kept.size
        have hsz6 := hb5.size
        simp at hsz5
        obtain ⟨X, hX⟩ : ∃ X : ByteArray, X = ⟨(enc (fold it.int)).toArray⟩ := ⟨_, rfl⟩
        have HX : Hid (X.data.toList = enc (fold it.int)) := by rw [hX]; rfl
        have hXs : X.size = (enc (fold it.int)).length := by rw [Lib.size_eq, HX.out]
        rw [← hX]
        have HXs : Hid _ := hXs
        clear hX hXs
        have HLX : Hid (bs.length + X.size ≤ 140737488355328) := by
          have h1 := HL1.out
          have h2 := HXs.out
          rw [List.length_append] at h1
          show _ ≤ _
          omega
        go_wp2_with (at_builtin; refine wpList_append_str_at _ rfl _ _ 26 9 rfl w.heap.size 5 i0 Try.underlying26 Try.underlying9 hi0 hz0 hz1 hz2 u5 bs.length (bs.map B8) rfl hown5 X rfl ?c1b HLX.out ?c2b ?_)
        case c1b => have := HLX.out; unfold maxLen; omega
        case c2b => omega
        intro v' w6 hown6 hgrow6 hat6
        have hws := HS.out.step hw4 hs4 hb5 HX.out hown6 hgrow6 hat6
        obtain ⟨av, cv, L, rfl, hL⟩ := own_len2 hws.want
        have HWS : Hid _ := hws
        have HLn : Hid _ := hL
        clear hL
        clear hws hown6 hgrow6 hat6 hown5 hb5 hs4 hw4
        go_wp2_with fail
        refine (wLen_any _ _ _ _ _ HWS.out.wrt).mono ?_
        rintro e w7 ⟨rfl, rfl⟩
        rw [← HLn.out]
        go_wp2
        go_roundw
        case rel => exact ⟨k + 1, r2, by omega, by go_num, by rw [HN.out]; exact HWS⟩
        case measure => simp [intOf]; omega
      · subst h
        rw [bytes2 HC.out] at HN HL1
        have hts := text_len it.s
        have HT : Hid _ := hts
        clear hts
        go_wp2_with fail
        refine (one_text w.heap.size w1.heap.size _ r bs it.s _ _ ((HS.out.wrt.alloc _).alloc _) (by simp) (by have := HL1.out; rw [List.length_append, HT.out] at this; omega) (by simp; omega)).mono ?_
        rintro e w4 ⟨rfl, r2, hw4, hs4⟩
        have hcn := item_cell hs4 hltw (fun k hk => (HS.out.wrt.row_ge k hk).2.1) 2
        simp at hcn
        go_wp2_with fail
        refine (refText_any it.s _ (by have := HL1.out; rw [List.length_append, HT.out] at this; omega)).mono ?_
        rintro e w5 ⟨rfl, hb5⟩
        have hown5 := HS.out.own5 hs4 hb5
        have hsz5 := hs4.kept.size
        have hsz6 := hb5.size
        simp at hsz5
        obtain ⟨X, hX⟩ : ∃ X : ByteArray, X = ⟨(text it.s.data.toList).toArray⟩ := ⟨_, rfl⟩
        have HX : Hid (X.data.toList = text it.s.data.toList) := by rw [hX]; rfl
        have hXs : X.size = (text it.s.data.toList).length := by rw [Lib.size_eq, HX.out]
        rw [← hX]
        have HXs : Hid _ := hXs
        clear hX hXs
        have HLX : Hid (bs.length + X.size ≤ 140737488355328) := by
          have h1 := HL1.out
          have h2 := HXs.out
          rw [List.length_append] at h1
          show _ ≤ _
          omega
        go_wp2_with (at_builtin; refine wpList_append_str_at _ rfl _ _ 26 9 rfl w.heap.size 5 i0 Try.underlying26 Try.underlying9 hi0 hz0 hz1 hz2 u5 bs.length (bs.map B8) rfl hown5 X rfl ?c1c HLX.out ?c2c ?_)
        case c1c => have := HLX.out; unfold maxLen; omega
        case c2c => omega
        intro v' w6 hown6 hgrow6 hat6
        have hws := HS.out.step hw4 hs4 hb5 HX.out hown6 hgrow6 hat6
        obtain ⟨av, cv, L, rfl, hL⟩ := own_len2 hws.want
        have HWS : Hid _ := hws
        have HLn : Hid _ := hL
        clear hL
        clear hws hown6 hgrow6 hat6 hown5 hb5 hs4 hw4
        go_wp2_with fail
        refine (wLen_any _ _ _ _ _ HWS.out.wrt).mono ?_
        rintro e w7 ⟨rfl, rfl⟩
        rw [← HLn.out]
        go_wp2
        go_roundw
        case rel => exact ⟨k + 1, r2, by omega, by go_num, by rw [HN.out]; exact HWS⟩
        case measure => simp [intOf]; omega
    · have hk' : k = its.length := by omega
      subst hk'
      rw [List.take_length] at HS
      have hstr : ∀ n, (convert 26 9 u5).run Try.prog (wr.drewN n) = .ok (.string ⟨(its.flatMap bytesOf).toArray⟩) (wr.drewN n) := fun n => own_string (w := wr.drewN n) HS.out.want
      have hbo : ∀ n, WrAt (wr.drewN n) w.heap.size (w1.heap.size + 1) none [] := fun n => HS.out.other
      have hbw : ∀ n, WrAt (wr.drewN n) w.heap.size w1.heap.size r (its.flatMap bytesOf) := fun n => HS.out.wrt
      have HBO : Hid _ := hbo
      have HBW : Hid _ := hbw
      clear hbo hbw
      generalize its.flatMap bytesOf = bs at *
      generalize hS : (⟨bs.toArray⟩ : ByteArray) = S at *
      have HSS : Hid _ := hS
      clear hS
      go_wp2_with fail
      go_quiet ((first | (go_at_call_of 19 (Value.pointer (some { block := w1.heap.size, off := 0 })); exact Calls.quiet_of_same (HSS.out ▸ wBytes_any _ _ _ _ _ (HBW.out _))) | (go_at_call_of 19 (Value.pointer (some { block := w1.heap.size + 1, off := 0 })); exact Calls.quiet_of_same (wBytes_any _ _ _ _ _ (HBO.out _))) | (go_at_call 18; exact Calls.quiet_of_same (wLen_any _ _ _ _ _ (HBO.out _)))))
      go_wp2
      go_ret
      exact ⟨rfl, drew_below HS.out.bel⟩

end Go.Proofs.Ytnhmabhcegiekaa.Pk
