/-
  ManifestCuts: wherever a manifest's text is cut off, what is left comes to the version behind some first of its edits.
-/
import Derived.Test.YtjfanbemihheiaaGreatDoorQManCutsKit
namespace Go.Proofs.YtjfanbemihheiaaGreatDoor.Ma
open Go.RowKit Cm
set_option linter.unusedVariables false

theorem CS.start (w : World) : CS w w.heap.size (w.heap.size + 1) Vi.zero [Vi.zero] [0] (.slice (some ⟨w.heap.size + 1, 0, none⟩) 1 1) (.slice (some ⟨w.heap.size + 1 + 1, 0, none⟩) 1 1)
    (((w.alloc (veObj (.slice none 0 0) Ve.zero)).alloc (.cells #[.slice none 0 0, .int .i64 0, .int .i64 0, .int .i64 0] 26)).alloc (.cells #[.int .i64 0] 3)) := by
  have h2 := heap_alloc_new (w.alloc (veObj (.slice none 0 0) Ve.zero)) (.cells #[.slice none 0 0, .int .i64 0, .int .i64 0, .int .i64 0] 26)
  have h3 := heap_alloc_new ((w.alloc (veObj (.slice none 0 0) Ve.zero)).alloc (.cells #[.slice none 0 0, .int .i64 0, .int .i64 0, .int .i64 0] 26)) (.cells #[.int .i64 0] 3)
  rw [World.size_alloc] at h2
  rw [World.size_alloc, World.size_alloc] at h3
  have hz : ∀ X, VerAt X 0 Vi.zero.f Vi.zero.v := fun X => World.ownsRow_nil _ _ _ _
  refine ⟨(((Below.refl _ _).alloc (Nat.le_refl _) _).alloc (by simp) _).alloc (by simp; omega) _, ?_, hz _, fun y hy => ?_, ⟨rfl, .inr ⟨_, 1, _, rfl, Nat.le_refl _, (Below.heap_alloc _ _ _ (by simp)).trans h2, Nat.le_refl _, by unfold maxLen; omega, rfl, rfl⟩⟩, ⟨rfl, .inr ⟨_, 1, _, rfl, by omega, h3, Nat.le_refl _, by unfold maxLen; omega, rfl, rfl⟩⟩, by omega, Nat.le_refl _⟩
  · exact (Below.heap_alloc _ _ _ (by simp; omega)).trans ((Below.heap_alloc _ _ _ (by simp)).trans (heap_alloc_new w _))
  · obtain rfl : y = Vi.zero := by simpa using hy
    exact hz _
theorem CS.wider {w w1 X : World} {g B : Nat} {z : Vi} {vis : List Vi} {ns : List Int} {vv ev : Value} (h : CS w1 g B z vis ns vv ev X) (hb : Below w.heap.size w w1) : CS w g B z vis ns vv ev X :=
  ⟨hb.trans (h.bel.mono hb.size), h.box, h.at_, h.ats, h.vers, h.ends, h.gB, Nat.le_trans hb.size h.wg⟩
theorem wt_take (es : List Ed) (k : Nat) : wt (es.take k) ≤ wt es := by
  conv => rhs; rw [← List.take_append_drop k es]
  unfold wt
  rw [List.map_append, List.sum_append]
  omega
theorem seal_ans (A : ByteArray) (h : A.size ≤ 65536) : Fr.sealed [A] = .tuple #[.string (Fr.str (Fr.frame A.data.toList)), .int .i64 0] := by
  rw [Fr.sealed_ok (by intro x hx; obtain rfl : x = A := (by simpa using hx); exact h), Fr.framesB_cons]
  simp [Fr.framesB]
theorem seal_no (A : ByteArray) (h : ¬ A.size ≤ 65536) : Fr.sealed [A] = .tuple #[.string ⟨#[]⟩, .int .i64 2] := Fr.sealed_long (fun q => h (q A (by simp)))
set_option maxRecDepth 100000 in
set_option maxHeartbeats 4000000 in
theorem cuts_law (bo : Option Addr) (cap : Nat) (xs : List Ei) (w : World) (hx : ElemsAt eiShape w bo xs) (hxs : ∀ x ∈ xs, EiAt w x) (hsz : wt (xs.map (·.e)) ≤ 10000000) (hxl : xs.length ≤ 10000000) :
    Calls Tryz.prog 3 #[.slice bo xs.length cap] w fun x w' => x = .returned (.bool true) ∧ Below w.heap.size w w' := by
  obtain ⟨i0, hi, hz0, hz1, hz2⟩ := info_parts infoVe
  obtain ⟨j0, hj, hy0, hy1, hy2⟩ := info_parts infoIn
  obtain ⟨n, hn⟩ : ∃ n, n = xs.length := ⟨_, rfl⟩
  have HN : Hid (n = xs.length) := hn
  rw [← hn] at hxl ⊢
  have HX : Hid (ElemsAt eiShape w bo xs) := hx
  have HXs : Hid (∀ x ∈ xs, EiAt w x) := hxs
  obtain ⟨all, hall⟩ : ∃ all, all = xs.map (·.e) := ⟨_, rfl⟩
  have HAll : Hid (all = xs.map (·.e)) := hall
  rw [← hall] at hsz
  have HSz : Hid (wt all ≤ 10000000) := hsz
  clear hx hxs hn hall hsz
  go_enter Tryz.func3, Tryz.ntmps3
  go_wp2_with fail
  refine (lives_any _).mono ?_
  rintro x w1 ⟨rfl, hb1⟩
  have HS0 : Hid (CS w w1.heap.size (w1.heap.size + 1) Vi.zero [Vi.zero] [0] (.slice (some ⟨w1.heap.size + 1, 0, none⟩) 1 1) (.slice (some ⟨w1.heap.size + 1 + 1, 0, none⟩) 1 1)
    (((w1.alloc (.cells #[.slice none 0 0, .int .i64 0, .int .i64 0, .int .i64 0] 26)).alloc (.cells #[.slice none 0 0, .int .i64 0, .int .i64 0, .int .i64 0] 26)).alloc (.cells #[.int .i64 0] 3))) := (CS.start w1).wider hb1
  clear hb1
  go_wp2
  generalize ((w1.alloc (.cells #[.slice none 0 0, .int .i64 0, .int .i64 0, .int .i64 0] 26)).alloc (.cells #[.slice none 0 0, .int .i64 0, .int .i64 0, .int .i64 0] 26)).alloc (.cells #[.int .i64 0] 3) = X0 at *
  generalize w1.heap.size = g at *
  go_loopw [4, 5, 6, 26] (fun tv vv ev i wr => ∃ (k : Nat) (es : List Ed) (u : Ve) (z : Vi) (vis : List Vi) (ns : List Int) (Tx : ByteArray), k ≤ n ∧ i = .int .i64 k ∧ tv = .string Tx ∧ Hid (bs Tx = bytesOf es) ∧ Hid (CL (all.take k) es u z vis ns) ∧ Hid (CS w g (g + 1) z vis ns vv ev wr)) (fun _ _ _ i _ => n - (intOf i).toNat)
  case atStart => exact ⟨0, [], Ve.zero, Vi.zero, [Vi.zero], [0], ⟨#[]⟩, by omega, rfl, rfl, rfl, CL.start Vi.zero rfl, HS0⟩
  case round =>
    clear HS0
    obtain ⟨k, es, u, z, vis, ns, Tx, hk, rfl, rfl, HTx, HL, HC⟩ := hrel
    by_cases hlt : k < n
    · have hkx : k < xs.length := by have := HN.out; omega
      obtain ⟨b, off, rfl, e0, e1, e2, e3, e4⟩ := ei_get HX.out HC.out.bel hkx
      have hei := HXs.out (xs.getD k Ei.zero) (by rw [getD_lt _ _ _ hkx]; exact List.getElem_mem _)
      have hka : k < all.length := by rw [HAll.out, List.length_map]; exact hkx
      have HTk : Hid (all.take (k + 1) = all.take k ++ [(xs.getD k Ei.zero).e]) := by show _ = _; rw [take_at hka (d := edZero), HAll.out, es_at hkx]
      have hw1 := wt_take all (k + 1)
      have hw2 := HSz.out
      have hws : wt (all.take (k + 1)) = wt (all.take k) + ((xs.getD k Ei.zero).e.add.length + (xs.getD k Ei.zero).e.del.length + 1) := by rw [HTk.out, wt_snoc]
      generalize xs.getD k Ei.zero = x at *
      obtain ⟨zo, zc, zv⟩ := z
      obtain ⟨W0, hW0⟩ : ∃ W0, W0 = wr.alloc (.cells #[x.a, x.d, .int .i64 x.e.wal, .int .i64 x.e.next, .int .i64 x.e.seq] 30) := ⟨_, rfl⟩
      obtain ⟨W1, hW1⟩ : ∃ W1, W1 = W0.alloc (.cells #[x.a, x.d, .int .i64 x.e.wal, .int .i64 x.e.next, .int .i64 x.e.seq] 30) := ⟨_, rfl⟩
      have hbW0 : Below wr.heap.size wr W0 := by rw [hW0]; exact (Below.refl _ _).alloc (Nat.le_refl _) _
      have hbW1 : Below W0.heap.size W0 W1 := by rw [hW1]; exact (Below.refl _ _).alloc (Nat.le_refl _) _
      have hg0 : W0.heap[wr.heap.size]? = some (.cells #[x.a, x.d, .int .i64 x.e.wal, .int .i64 x.e.next, .int .i64 x.e.seq] 30 (0, 0)) := by rw [hW0]; exact heap_alloc_new wr _
      have hg1 : W1.heap[W0.heap.size]? = some (.cells #[x.a, x.d, .int .i64 x.e.wal, .int .i64 x.e.next, .int .i64 x.e.seq] 30 (0, 0)) := by rw [hW1]; exact heap_alloc_new W0 _
      have HC0 : Hid (CS w g (g + 1) ⟨zo, zc, zv⟩ vis ns u5 u6 W0) := HC.out.keep hbW0
      have HC1 : Hid (CS w g (g + 1) ⟨zo, zc, zv⟩ vis ns u5 u6 W1) := HC0.out.keep hbW1
      have HG1 : Hid (W1.heap[wr.heap.size]? = some (.cells #[x.a, x.d, .int .i64 x.e.wal, .int .i64 x.e.next, .int .i64 x.e.seq] 30 (0, 0))) := (hbW1.block _ (lt_of_block hg0)).trans hg0
      have HEi : Hid (∀ X, Below w.heap.size w X → EiAt X x) := fun X hX => ⟨hei.add.later hX, hei.del.below hX, hei.na, hei.nd, hei.ok, hei.few⟩
      have hnow : zv = u.sort := HL.out.now
      have hfl := HL.out.files
      have hzl : zv.files.length = u.files.length := by rw [hnow]; exact srt_len _
      have hap := apply_any zo zc zv (some ⟨W0.heap.size, 0, none⟩) 1 [x] W1 (ver_els HC1.out.at_) (fun f hf => by rw [hnow] at hf; exact HL.out.ok f ((srt_perm _).mem_iff.1 hf)) (elems_block hg1 rfl) (fun y hy => by obtain rfl := List.mem_singleton.1 hy; exact HEi.out W1 HC1.out.bel) (by simp [addsum]; omega) (by simp)
      have HNow : Hid (zv = u.sort) := hnow
      have HEi0 : Hid (x.e.Ok') := hei.ok
      have hdl : x.e.add.length + x.e.del.length ≤ 10000000 := by omega
      obtain ⟨lz, hlz⟩ : ∃ lz, lz = zv.files.length := ⟨_, rfl⟩
      have HLz : Hid (lz = zv.files.length) := hlz
      rw [← hlz] at hap
      have HAp : Hid _ := hap
      unfold veV at HAp
      obtain ⟨c0, c1, c2, c3, _⟩ := HC0.out.boxes
      have hzf : (Vi.mk zo zc zv).f = .slice zo lz zc := by rw [hlz]; rfl
      rw [hzf] at c0
      simp only at c1 c2 c3
      have hw1s : wt (all.take k) ≤ 10000000 := by omega
      have hul : u.files.length ≤ 10000000 := by omega
      have hW0' := hW0.symm
      have hW1' := hW1.symm
      have ha : ∃ p l c, x.a = .slice p l c := ⟨_, _, _, rfl⟩
      have hd : ∃ p l c, x.d = .slice p l c := ⟨_, _, _, rfl⟩
      have HEn : Hid (∀ X, Below w.heap.size w X → Calls Tryz.prog 9 #[.agg #[x.a, x.d, .int .i64 x.e.wal, .int .i64 x.e.next, .int .i64 x.e.seq]] X fun y w' => y = .returned (encA x.e) ∧ Below X.heap.size X w') := fun X hX => by
        have hq := (⟨hei.add.later hX, hei.del.below hX, hei.na, hei.nd, hei.ok, hei.few⟩ : EiAt X x)
        exact encode_any x.aa x.ca x.ad x.cd x.e X (hq.ed (Below.refl _ _) (fun k hk => hk.elim)) hei.ok
      have HOk : Hid (x.e.Ok) := ⟨hei.ok.add, hei.ok.del, hei.ok.wal, hei.ok.next, hei.ok.seq, by omega, by omega⟩
      clear hfl hzl hnow hap hlz hzf hei hkx hka hbW0 hbW1 hg1 hW0 hW1 hws hw1 hw2
      generalize x.a = xa at *
      generalize x.d = xd at *
      obtain ⟨p1, l1, q1, rfl⟩ := ha
      obtain ⟨p2, l2, q2, rfl⟩ := hd
      have g0 : W0.cell? ⟨wr.heap.size, 0, none⟩ = some (.slice p1 l1 q1) := by rw [Joins.cell_of_block hg0]; rfl
      have g1 : W0.cell? ⟨wr.heap.size, 1, none⟩ = some (.slice p2 l2 q2) := by rw [Joins.cell_of_block hg0]; rfl
      have g2 : W0.cell? ⟨wr.heap.size, 2, none⟩ = some (.int .i64 x.e.wal) := by rw [Joins.cell_of_block hg0]; rfl
      have g3 : W0.cell? ⟨wr.heap.size, 3, none⟩ = some (.int .i64 x.e.next) := by rw [Joins.cell_of_block hg0]; rfl
      have g4 : W0.cell? ⟨wr.heap.size, 4, none⟩ = some (.int .i64 x.e.seq) := by rw [Joins.cell_of_block hg0]; rfl
      clear hg0
      go_wp2_with fail
      refine (show Calls _ _ _ _ _ from HAp.out).mono ?_
      rintro y w5 hans
      clear g0 g1 g2 g3 g4 c0 c1 c2 c3 HAp hW0' hW1' e0 e1 e2 e3 e4
      rcases hans with ⟨u', f, hu', rfl, hver, hb5⟩ | ⟨hno, rfl, hb5⟩
      · have h1 : one zv x.e = some u' := by have : app zv [x.e] = some u' := hu'; rw [app_cons] at this; cases ho : one zv x.e with
          | none => rw [ho] at this; cases this
          | some q => rw [ho] at this; exact this
        obtain ⟨hok0, rfl⟩ := one_some h1
        have hok : okE u x.e = true := by rw [HNow.out, (Like.sort u).ok] at hok0; exact hok0
        have hso : (nxt zv x.e).sort = (nxt u x.e).sort := by rw [HNow.out]; exact ((Like.sort u).nxt x.e).eq
        rw [hso] at hver ⊢
        have hA : encA x.e = .tuple #[.string ⟨(encE x.e).toArray⟩, .int .i64 0] := by
          have hr : right x.e = true := by unfold okE at hok; simp only [Bool.and_eq_true] at hok; exact hok.1
          unfold encA; rw [hr]; rfl
        have HNx : Hid (okE u x.e = true) := hok
        obtain ⟨yo, yc, rfl⟩ := form_any hver
        have hnl : (nxt u x.e).files.length ≤ 20000000 := by
          have := stay_len u.files x.e.del
          simp only [nxt, List.length_append]
          omega
        obtain ⟨v2, hv2⟩ : ∃ v2, v2 = (nxt u x.e).sort := ⟨_, rfl⟩
        have HV2 : Hid (v2 = (nxt u x.e).sort) := hv2
        have hl2 : v2.files.length ≤ 20000000 := by rw [hv2, show (nxt u x.e).sort.files.length = (nxt u x.e).files.length from srt_len _]; exact hnl
        rw [← hv2] at hver ⊢
        obtain ⟨l2', hl2e⟩ : ∃ l2', l2' = v2.files.length := ⟨_, rfl⟩
        have HL2 : Hid (l2' = v2.files.length) := hl2e
        rw [← hl2e] at hl2
        obtain ⟨W6, hW6⟩ : ∃ W6, W6 = w5.alloc (veObj (.slice yo l2' yc) v2) := ⟨_, rfl⟩
        have hbW6 : Below w5.heap.size w5 W6 := by rw [hW6]; exact (Below.refl _ _).alloc (Nat.le_refl _) _
        have hb16 : Below W1.heap.size W1 W6 := hb5.trans (hbW6.mono hb5.size)
        have HC6 : Hid (CS w g (g + 1) ⟨zo, zc, zv⟩ vis ns u5 u6 W6) := HC1.out.keep hb16
        have HH6 : Hid (W6.heap[w5.heap.size]? = some (veObj (.slice yo l2' yc) v2)) := by show _ = _; rw [hW6]; exact heap_alloc_new w5 _
        have HY6 : Hid (VerAt W6 0 (Vi.mk yo yc v2).f (Vi.mk yo yc v2).v) := by
          have : VerAt w5 0 (.slice yo v2.files.length yc) v2 := Joins.ownsRow_le hver (Nat.zero_le _)
          exact VerAt.keep this (fun k _ hk => hbW6.block k hk)
        have hg6 := (hb16.block _ (lt_of_block HG1.out)).trans HG1.out
        have g0 : W6.cell? ⟨wr.heap.size, 0, none⟩ = some (.slice p1 l1 q1) := by rw [Joins.cell_of_block hg6]; rfl
        have g1 : W6.cell? ⟨wr.heap.size, 1, none⟩ = some (.slice p2 l2 q2) := by rw [Joins.cell_of_block hg6]; rfl
        have g2 : W6.cell? ⟨wr.heap.size, 2, none⟩ = some (.int .i64 x.e.wal) := by rw [Joins.cell_of_block hg6]; rfl
        have g3 : W6.cell? ⟨wr.heap.size, 3, none⟩ = some (.int .i64 x.e.next) := by rw [Joins.cell_of_block hg6]; rfl
        have g4 : W6.cell? ⟨wr.heap.size, 4, none⟩ = some (.int .i64 x.e.seq) := by rw [Joins.cell_of_block hg6]; rfl
        have hen := HEn.out W6 HC6.out.bel
        rw [hA] at hen
        have HEn6 : Hid _ := hen
        obtain ⟨A, hAe⟩ : ∃ A : ByteArray, A = ⟨(encE x.e).toArray⟩ := ⟨_, rfl⟩
        have HAb : Hid (A.data.toList = encE x.e) := by show _ = _; rw [hAe]
        have hAs : A.size ≤ 1000000000 := by have := (encE_len x.e).1; rw [Lib.size_eq, HAb.out]; omega
        rw [← hAe] at HEn6
        have hW6' : w5.alloc (.cells #[.slice yo l2' yc, .int .i64 v2.wal, .int .i64 v2.next, .int .i64 v2.seq] 26) = W6 := hW6.symm
        unfold veV
        rw [← hl2e]
        clear h1 hok0 hok hso hver hA hnl hv2 hl2e hW6 hbW6 hb16 hg6 hen hAe hu' hb5 HC1 HG1 HEi HEn HC0 HC
        go_wp2_with fail
        refine (show Calls _ _ _ _ _ from HEn6.out).mono ?_
        rintro y w7 ⟨rfl, hb7⟩
        have HC7 : Hid (CS w g (g + 1) ⟨zo, zc, zv⟩ vis ns u5 u6 w7) := HC6.out.keep hb7
        have HH7 : Hid (w7.heap[w5.heap.size]? = some (veObj (.slice yo l2' yc) v2)) := (hb7.block _ (lt_of_block HH6.out)).trans HH6.out
        have HY7 : Hid (VerAt w7 0 (Vi.mk yo yc v2).f (Vi.mk yo yc v2).v) := VerAt.keep HY6.out (fun k _ hk => hb7.block k hk)
        have HSe : Hid _ := Fr.seal_one A w7 (by omega)
        clear hb7 HC6 HH6 HY6 HEn6 g0 g1 g2 g3 g4 hW6'
        by_cases hAz : A.size ≤ 65536
        · rw [seal_ans A hAz] at HSe
          go_wp2_with fail
          refine (show Calls _ _ _ _ _ from HSe.out).mono ?_
          rintro y w8 ⟨rfl, hb8⟩
          have HC8 : Hid (CS w g (g + 1) ⟨zo, zc, zv⟩ vis ns u5 u6 w8) := HC7.out.keep hb8
          have hh8 := (hb8.block _ (lt_of_block HH7.out)).trans HH7.out
          have hy8 : VerAt w8 0 (Vi.mk yo yc v2).f (Vi.mk yo yc v2).v := VerAt.keep HY7.out (fun k _ hk => hb8.block k hk)
          have hyf : (Vi.mk yo yc v2).f = .slice yo l2' yc := by rw [HL2.out]; rfl
          obtain ⟨W9, hW9⟩ : ∃ W9, W9 = ((((w8.setCell ⟨g, 0, none⟩ (.slice yo l2' yc)).setCell ⟨g, 1, none⟩ (.int .i64 v2.wal)).setCell ⟨g, 2, none⟩ (.int .i64 v2.next)).setCell ⟨g, 3, none⟩ (.int .i64 v2.seq)) := ⟨_, rfl⟩
          have HC9 : Hid (CS w g (g + 1) ⟨yo, yc, v2⟩ vis ns u5 u6 W9) := by
            have := HC8.out.put hy8
            rw [hyf] at this
            show CS _ _ _ _ _ _ _ _ _
            rw [hW9]
            exact this
          have HLn : Hid (CL (all.take (k + 1)) (es ++ [x.e]) (nxt u x.e) ⟨yo, yc, v2⟩ (vis ++ [⟨yo, yc, v2⟩]) (ns ++ [((bytesOf (es ++ [x.e])).length : Int)])) := by
            show CL _ _ _ _ _ _
            rw [HTk.out]
            exact HL.out.step x.e HOk.out HNx.out (by rw [← HAb.out, ← Lib.size_eq]; exact hAz) HV2.out
          have hbyt := HL.out.bytes
          have HLv : Hid (vis.length = es.length + 1) := HL.out.lv
          have HLnl : Hid (ns.length = es.length + 1) := HL.out.ln
          have hfew := HL.out.few
          obtain ⟨S, hS⟩ : ∃ S : ByteArray, S = Fr.str (Fr.frame A.data.toList) := ⟨_, rfl⟩
          have hSs : S.size = 8 + A.size := by rw [hS, Fr.str_size, Fr.frame_len, ← Lib.size_eq]
          have hTs : Tx.size ≤ 580000000 := by rw [← bs_len, HTx.out]; omega
          have HTn : Hid (bs (Tx ++ S) = bytesOf (es ++ [x.e])) := by
            show _ = _
            rw [bytesOf_snoc, ← HTx.out, ← HAb.out]
            unfold bs
            rw [hS]
            simp [Fr.str]
          have hln2 : (((Tx ++ S).size : Nat) : Int) = ((bytesOf (es ++ [x.e])).length : Int) := by rw [← HTn.out, bs_len]
          have HLen : Hid ((((Tx ++ S).size : Nat) : Int) = ((bytesOf (es ++ [x.e])).length : Int)) := hln2
          obtain ⟨ne, hne⟩ : ∃ ne : Int, ne = ((bytesOf (es ++ [x.e])).length : Int) := ⟨_, rfl⟩
          have hcat : ¬ (9223372036854775807 < Tx.size + S.size) := by omega
          rw [← hne] at HLn HLen
          obtain ⟨c0, c1, c2, c3, cf⟩ := HC8.out.boxes
          have cf0 := cf 0
          have cf1 := cf 1
          have cf2 := cf 2
          have cf3 := cf 3
          obtain ⟨h0, h1, h2, h3, _⟩ := ve_cells hh8
          obtain ⟨d0, d1, d2, d3, _⟩ := HC9.out.boxes
          rw [hyf] at d0
          simp only at c1 c2 c3 d1 d2 d3
          have hW9' := hW9.symm
          have HBx : Hid (ElemsAt viShape (W9.alloc (.cells #[.slice yo l2' yc, .int .i64 v2.wal, .int .i64 v2.next, .int .i64 v2.seq] 26)) (some ⟨W9.heap.size, 0, none⟩) [⟨yo, yc, v2⟩]) := by
            refine elems_block (heap_alloc_new W9 _) ?_
            show _ = (viShape.enc ⟨yo, yc, v2⟩ ++ [])
            rw [List.append_nil]
            show _ = [(Vi.mk yo yc v2).f, _, _, _]
            rw [hyf]
          have hB9 : g + 1 ≤ W9.heap.size := by have := lt_of_block HC9.out.box; omega
          rw [← hS] at HSe ⊢
          clear hb8 HSe HC7 HH7 HY7 hh8 hy8 hyf hW9 cf hln2 hS HL hne hbyt
          go_wp2_with (at_builtin; refine wpList_append_rows (F := viShape) _ rfl _ _ 27 rfl (g + 1) 26 i0 _ 48 Tryz.underlying27 hi hz0 hz1 hz2 rfl _ vis.length vis rfl (World.ownsRow.alloc HC9.out.vers _) (some ⟨W9.heap.size, 0, none⟩) 1 1 [⟨yo, yc, v2⟩] rfl (by simp) rfl HBx.out ?c1 ?c2 ?c3 ?_)
          case c1 => have := HLv.out; unfold maxLen; omega
          case c2 => have := HLv.out; omega
          case c3 => simp; omega
          rintro v5 w10 hown hgr hat
          have HC10 : Hid (CS w g (g + 1) ⟨yo, yc, v2⟩ (vis ++ [⟨yo, yc, v2⟩]) ns v5 u6 w10) := HC9.out.addV hB9 hown hgr
          have hs10 := hgr.size
          have hB10 : g + 1 ≤ w10.heap.size := by simp only [World.size_alloc] at hs10; omega
          clear hown hgr hat HBx HC9 HC8 hW9' c0 c1 c2 c3 cf0 cf1 cf2 cf3 h0 h1 h2 h3 d0 d1 d2 d3 hs10 hB9
          have HQ : Hid ((Tx.size : Int) + (8 + (A.size : Int)) = ne) := by
            have h1 : (Tx ++ S).size = Tx.size + S.size := by simp
            have h2 := HLen.out
            show _ = _
            omega
          go_wp2_with (at_builtin; refine wpList_append_rows (F := inShape) _ rfl _ _ 28 rfl (g + 1) 3 j0 _ 8 Tryz.underlying28 hj hy0 hy1 hy2 rfl _ ns.length ns rfl (World.ownsRow.alloc HC10.out.ends _) (some ⟨w10.heap.size, 0, none⟩) 1 1 [_] rfl (by simp) rfl (one_int w10 _) ?c1 ?c2 ?c3 ?_)
          case c1 => have := HLnl.out; unfold maxLen; omega
          case c2 => have := HLnl.out; omega
          case c3 => simp; omega
          rintro v6 w11 hown hgr hat
          have HC11 : Hid (CS w g (g + 1) ⟨yo, yc, v2⟩ (vis ++ [⟨yo, yc, v2⟩]) (ns ++ [_]) v5 v6 w11) := HC10.out.addE hB10 hown hgr
          clear hown hgr hat HC10 hB10
          go_wp2
          go_roundw
          case rel => exact ⟨k + 1, es ++ [x.e], nxt u x.e, ⟨yo, yc, v2⟩, vis ++ [⟨yo, yc, v2⟩], ns ++ [_], Tx ++ S, by omega, by go_num, rfl, HTn, by show CL _ _ _ _ _ _; rw [HQ.out]; exact HLn.out, HC11⟩
          case measure => simp [intOf]; omega
        · rw [seal_no A hAz] at HSe
          go_wp2_with fail
          refine (show Calls _ _ _ _ _ from HSe.out).mono ?_
          rintro y w8 ⟨rfl, hb8⟩
          have HC8 : Hid (CS w g (g + 1) ⟨zo, zc, zv⟩ vis ns u5 u6 w8) := HC7.out.keep hb8
          have HL8 : Hid (CL (all.take (k + 1)) es u ⟨zo, zc, zv⟩ vis ns) := by show CL _ _ _ _ _ _; rw [HTk.out]; exact HL.out.skip x.e
          clear hb8 HSe HC7 HH7 HY7 HL hAz
          go_wp2
          go_roundw
          case rel => exact ⟨k + 1, es, u, ⟨zo, zc, zv⟩, vis, ns, Tx, by omega, by go_num, rfl, HTx, HL8, HC8⟩
          case measure => simp [intOf]; omega
      · have HC5 : Hid (CS w g (g + 1) ⟨zo, zc, zv⟩ vis ns u5 u6 (w5.alloc (.cells #[.slice none 0 0, .int .i64 0, .int .i64 0, .int .i64 0] 26))) := HC1.out.keep (hb5.trans ((Below.refl _ _).alloc hb5.size _))
        have HL5 : Hid (CL (all.take (k + 1)) es u ⟨zo, zc, zv⟩ vis ns) := by show CL _ _ _ _ _ _; rw [HTk.out]; exact HL.out.skip x.e
        unfold veV Ve.zero
        clear hno hb5 HC1 HG1 HEi HEn HL HC0 HC
        go_wp2
        go_roundw
        case rel => exact ⟨k + 1, es, u, ⟨zo, zc, zv⟩, vis, ns, Tx, by omega, by go_num, rfl, HTx, HL5, HC5⟩
        case measure => simp [intOf]; omega
    · obtain rfl : k = n := by omega
      have HW : Hid (wt (all.take k) ≤ 10000000) := by have := wt_take all k; have := HSz.out; show _ ≤ _; omega
      have HLv : Hid (vis.length = es.length + 1) := HL.out.lv
      have HLn : Hid (ns.length = es.length + 1) := HL.out.ln
      obtain ⟨eb, ec, hue, _⟩ := HC.out.end_at (j := 0) (by have := HLn.out; omega)
      obtain ⟨vb, vc, huv, _⟩ := HC.out.ver_at (j := 0) (by have := HLv.out; omega)
      subst hue huv
      clear hlt HSz HX HXs HAll HN
      go_wp2
      go_loopw [15, 16] (fun kv mv wr => ∃ j m : Nat, kv = .int .i64 j ∧ mv = .int .i64 m ∧ j ≤ es.length ∧ m ≤ 300 ∧ Hid ((bytesOf (es.take j)).length ≤ m ∧ (j < es.length → m ≤ (bytesOf (es.take (j + 1))).length)) ∧ Hid (CS w g (g + 1) z vis ns (.slice (some ⟨vb, 0, none⟩) vis.length vc) (.slice (some ⟨eb, 0, none⟩) ns.length ec) wr)) (fun _ mv _ => 300 - (intOf mv).toNat)
      case atStart => exact ⟨0, 0, rfl, rfl, by omega, by omega, ⟨by simp [bytesOf_nil], fun _ => by omega⟩, HC⟩
      case round =>
        clear HC
        obtain ⟨j, m, rfl, rfl, hj, hm, HI, HC⟩ := hrel
        by_cases hgo : m ≤ Tx.size ∧ m < 300
        · obtain ⟨hmT, hm3⟩ := hgo
          have hmT' : (m : Int) ≤ (Tx.size : Int) := by omega
          have hm3' : (m : Int) < 300 := by omega
          have hwr : IntKind.i64.wrap ((j : Int) + 1) = (j : Int) + 1 := by
            have := HL.out.few
            have := HW.out
            exact IntWalk.i64_in _ ⟨by omega, by omega⟩
          by_cases hmore : j < es.length
          · have hkl : j + 1 < ns.length := by have := HLn.out; omega
            obtain ⟨_, _, hue, hce⟩ := HC.out.end_at hkl
            cases hue
            have hend := HL.out.end_ (j + 1) (by omega)
            rw [hend] at hce
            have hidx : ((j : Int) + 1) < (ns.length : Int) := by omega
            have hidx0 : (0 : Int) ≤ (j : Int) + 1 := by omega
            by_cases hle : (bytesOf (es.take (j + 1))).length ≤ m
            · have hP : (bytesOf (es.take (j + 1))).length ≤ m ∧ (j + 1 < es.length → m < (bytesOf (es.take (j + 1 + 1))).length) := ⟨hle, fun h => by have := bytes_step h; have := HI.out.2 hmore; omega⟩
              have hle' : (((bytesOf (es.take (j + 1))).length : Nat) : Int) ≤ (m : Int) := by omega
              clear hend HI
              have HP : Hid ((bytesOf (es.take (j + 1))).length ≤ m ∧ (j + 1 < es.length → m < (bytesOf (es.take (j + 1 + 1))).length)) := hP
              have hKl : j + 1 ≤ es.length := by omega
              obtain ⟨x, hx1, hx2⟩ := HL.out.ver (j + 1) hKl
              have hend := HL.out.end_ (j + 1) hKl
              have hcut := comes_cut (k := j + 1) (n := m) HL.out.eds hx1 HP.out.1 HP.out.2 (by rw [← HTx.out, bs_len]; omega)
              obtain ⟨S, hS⟩ : ∃ S, S = Tx.extract 0 m := ⟨_, rfl⟩
              have hSl : S.data.toList = (bytesOf es).take m := by rw [hS, Lib.extract_data, ← HTx.out]; unfold bs; simp
              have hSz : S.size ≤ Tx.size := by rw [Lib.size_eq, hSl, List.length_take, ← HTx.out, bs_len]; omega
              have hTz : Tx.size ≤ 580000000 := by have := HL.out.bytes; have := HW.out; rw [← bs_len, HTx.out]; omega
              have HRd : Hid _ := read_any S wr (by omega)
              have HCut : Hid (Comes S.data.toList x (bytesOf (es.take (j + 1))).length) := by show Comes _ _ _; rw [hSl]; exact hcut
              have HX2 : Hid ((vis.getD (j + 1) Vi.zero).v = x.sort) := hx2
              have HEnd : Hid (ns.getD (j + 1) 0 = ((bytesOf (es.take (j + 1))).length : Int)) := hend
              have hS' := hS.symm
              have hm0 : (0 : Int) ≤ (m : Int) := by omega
              have hm1 : (m : Int) ≤ (Tx.size : Int) := by omega
              have hkl1 : j + 1 < ns.length := by have := HLn.out; omega
              have hkl2 : j + 1 < vis.length := by have := HLv.out; omega
              clear hx1 hx2 hend hcut hS hSl hP
              go_wp2_with fail
              refine (show Calls _ _ _ _ _ from HRd.out).mono ?_
              rintro y w7 hr
              obtain ⟨v', n', ao, cap, hc7, rfl, hel7, hb7, hlf⟩ := hr.out
              obtain ⟨rfl, rfl⟩ := HCut.out.unique hc7
              have hlf2 : x.sort.files.length ≤ 580000000 := by rw [← Lib.size_eq] at hlf; omega
              obtain ⟨lv, hlv⟩ : ∃ lv, lv = x.sort.files.length := ⟨_, rfl⟩
              obtain ⟨W8, hW8⟩ : ∃ W8, W8 = w7.alloc (veObj (.slice ao lv cap) x.sort) := ⟨_, rfl⟩
              have hbW8 : Below w7.heap.size w7 W8 := by rw [hW8]; exact (Below.refl _ _).alloc (Nat.le_refl _) _
              have HC8 : Hid (CS w g (g + 1) z vis ns (.slice (some ⟨vb, 0, none⟩) vis.length vc) (.slice (some ⟨eb, 0, none⟩) ns.length ec) W8) := HC.out.keep (hb7.trans (hbW8.mono hb7.size))
              have hh8 : W8.heap[w7.heap.size]? = some (veObj (.slice ao lv cap) x.sort) := by rw [hW8]; exact heap_alloc_new w7 _
              have HH8 : Hid (W8.heap[w7.heap.size]? = some (veObj (.slice ao lv cap) x.sort)) := hh8
              have hel8 := hel7.later hbW8
              obtain ⟨_, _, hue, hce⟩ := HC8.out.end_at hkl1
              cases hue
              obtain ⟨_, _, huv, v0, v1, v2, v3, hva⟩ := HC8.out.ver_at hkl2
              cases huv
              have hgd : vis.getD (j + 1) Vi.zero = ⟨(vis.getD (j + 1) Vi.zero).fo, (vis.getD (j + 1) Vi.zero).cap, x.sort⟩ := by rw [← HX2.out]
              obtain ⟨fo, hfo⟩ : ∃ fo, fo = (vis.getD (j + 1) Vi.zero).fo := ⟨_, rfl⟩
              obtain ⟨fc, hfc⟩ : ∃ fc, fc = (vis.getD (j + 1) Vi.zero).cap := ⟨_, rfl⟩
              rw [← hfo, ← hfc] at hgd
              rw [hgd] at v0 v1 v2 v3 hva
              have hva2 : VerAt W8 0 (.slice fo x.sort.files.length fc) x.sort := hva
              have v0' : W8.cell? ⟨vb, (j + 1) * 4, none⟩ = some (.slice fo lv fc) := by rw [hlv]; exact v0
              rw [HEnd.out] at hce
              simp only at v1 v2 v3
              have HBk : Hid (∀ X, Below W8.heap.size W8 X → X.cell? ⟨eb, j + 1, none⟩ = some (.int .i64 ((bytesOf (es.take (j + 1))).length : Int)) ∧ X.cell? ⟨w7.heap.size, 0, none⟩ = some (.slice ao lv cap) ∧ X.cell? ⟨w7.heap.size, 1, none⟩ = some (.int .i64 x.sort.wal) ∧ X.cell? ⟨w7.heap.size, 2, none⟩ = some (.int .i64 x.sort.next) ∧ X.cell? ⟨w7.heap.size, 3, none⟩ = some (.int .i64 x.sort.seq) ∧ X.cell? ⟨vb, (j + 1) * 4, none⟩ = some (.slice fo lv fc) ∧ X.cell? ⟨vb, (j + 1) * 4 + 1, none⟩ = some (.int .i64 x.sort.wal) ∧ X.cell? ⟨vb, (j + 1) * 4 + 2, none⟩ = some (.int .i64 x.sort.next) ∧ X.cell? ⟨vb, (j + 1) * 4 + 3, none⟩ = some (.int .i64 x.sort.seq)) := fun X hX => by
                have hq : ∀ b o c, W8.cell? ⟨b, o, none⟩ = some c → X.cell? ⟨b, o, none⟩ = some c := fun b o c h => (World.cell?_of_block (hX.block b (World.block_lt_of_cell? W8 ⟨b, o, none⟩ h))).trans h
                obtain ⟨h0, h1, h2, h3, _⟩ := ve_cells hh8
                exact ⟨hq _ _ _ hce, hq _ _ _ h0, hq _ _ _ h1, hq _ _ _ h2, hq _ _ _ h3, hq _ _ _ v0', hq _ _ _ v1, hq _ _ _ v2, hq _ _ _ v3⟩
              have hbd : Below W8.heap.size W8 W8.drew := ⟨rfl, rfl, rfl, Nat.le_refl _, fun _ _ => rfl⟩
              have hsm := same_any ao fo cap fc x.sort W8.drew (hel8.later hbd) ((ver_els hva2).later hbd) (by omega)
              rw [← hlv] at hsm
              unfold veV at hsm ⊢
              rw [← hlv]
              have HSm : Hid _ := hsm
              have hW8' : w7.alloc (.cells #[.slice ao lv cap, .int .i64 x.sort.wal, .int .i64 x.sort.next, .int .i64 x.sort.seq] 26) = W8 := hW8.symm
              obtain ⟨k0, k1, k2, k3, k4, k5, k6, k7, k8⟩ := HBk.out W8.drew hbd
              have hK0 : (0 : Int) ≤ (j : Int) + 1 := by omega
              have hK1 : (j : Int) + 1 < (ns.length : Int) := by omega
              have hK2 : (j : Int) + 1 < (vis.length : Int) := by omega
              clear hr hc7 hel7 hb7 hlf hbW8 hh8 hel8 hce v0 v0' v1 v2 v3 hva hva2 hgd hfo hfc hsm hW8 HRd HCut HX2 HEnd hS' hkl1 hkl2 hlv HC
              go_wp2_with fail
              go_region_held3 (fun X => X.cell? ⟨eb, j + 1, none⟩ = some (.int .i64 ((bytesOf (es.take (j + 1))).length : Int)) ∧ X.cell? ⟨w7.heap.size, 0, none⟩ = some (.slice ao lv cap) ∧ X.cell? ⟨w7.heap.size, 1, none⟩ = some (.int .i64 x.sort.wal) ∧ X.cell? ⟨w7.heap.size, 2, none⟩ = some (.int .i64 x.sort.next) ∧ X.cell? ⟨w7.heap.size, 3, none⟩ = some (.int .i64 x.sort.seq) ∧ X.cell? ⟨vb, (j + 1) * 4, none⟩ = some (.slice fo lv fc) ∧ X.cell? ⟨vb, (j + 1) * 4 + 1, none⟩ = some (.int .i64 x.sort.wal) ∧ X.cell? ⟨vb, (j + 1) * 4 + 2, none⟩ = some (.int .i64 x.sort.next) ∧ X.cell? ⟨vb, (j + 1) * 4 + 3, none⟩ = some (.int .i64 x.sort.seq)) (first | exact ⟨k0, k1, k2, k3, k4, k5, k6, k7, k8⟩ | exact HBk.out _ (hbd.trans hb9) | go_keep)
                ((go_at_call 12; refine (show Calls _ _ _ _ _ from HSm.out).mono ?_; rintro y w9 ⟨rfl, hb9⟩))
              have HC9 : Hid (CS w g (g + 1) z vis ns (.slice (some ⟨vb, 0, none⟩) vis.length vc) (.slice (some ⟨eb, 0, none⟩) ns.length ec) w9) := HC8.out.keep (hbd.trans hb9)
              clear hb9 hbd HSm HBk HC8 HH8 hW8' k0 k1 k2 k3 k4 k5 k6 k7 k8
              go_wp2
              go_roundw
              case rel => exact ⟨j + 1, m + 1, by go_num, by go_num, by omega, by omega, ⟨by have := HP.out.1; omega, fun h => by have := HP.out.2 h; omega⟩, HC9⟩
              case measure => simp [intOf]; omega
            · have hP : (bytesOf (es.take j)).length ≤ m ∧ (j < es.length → m < (bytesOf (es.take (j + 1))).length) := ⟨HI.out.1, fun h => by omega⟩
              have hle' : ¬ ((((bytesOf (es.take (j + 1))).length : Nat) : Int) ≤ (m : Int)) := by omega
              clear hend HI
              have HP : Hid ((bytesOf (es.take (j))).length ≤ m ∧ (j < es.length → m < (bytesOf (es.take (j + 1))).length)) := hP
              have hKl : j ≤ es.length := by omega
              obtain ⟨x, hx1, hx2⟩ := HL.out.ver (j) hKl
              have hend := HL.out.end_ (j) hKl
              have hcut := comes_cut (k := j) (n := m) HL.out.eds hx1 HP.out.1 HP.out.2 (by rw [← HTx.out, bs_len]; omega)
              obtain ⟨S, hS⟩ : ∃ S, S = Tx.extract 0 m := ⟨_, rfl⟩
              have hSl : S.data.toList = (bytesOf es).take m := by rw [hS, Lib.extract_data, ← HTx.out]; unfold bs; simp
              have hSz : S.size ≤ Tx.size := by rw [Lib.size_eq, hSl, List.length_take, ← HTx.out, bs_len]; omega
              have hTz : Tx.size ≤ 580000000 := by have := HL.out.bytes; have := HW.out; rw [← bs_len, HTx.out]; omega
              have HRd : Hid _ := read_any S wr (by omega)
              have HCut : Hid (Comes S.data.toList x (bytesOf (es.take (j))).length) := by show Comes _ _ _; rw [hSl]; exact hcut
              have HX2 : Hid ((vis.getD (j) Vi.zero).v = x.sort) := hx2
              have HEnd : Hid (ns.getD (j) 0 = ((bytesOf (es.take (j))).length : Int)) := hend
              have hS' := hS.symm
              have hm0 : (0 : Int) ≤ (m : Int) := by omega
              have hm1 : (m : Int) ≤ (Tx.size : Int) := by omega
              have hkl1 : j < ns.length := by have := HLn.out; omega
              have hkl2 : j < vis.length := by have := HLv.out; omega
              clear hx1 hx2 hend hcut hS hSl hP
              go_wp2_with fail
              refine (show Calls _ _ _ _ _ from HRd.out).mono ?_
              rintro y w7 hr
              obtain ⟨v', n', ao, cap, hc7, rfl, hel7, hb7, hlf⟩ := hr.out
              obtain ⟨rfl, rfl⟩ := HCut.out.unique hc7
              have hlf2 : x.sort.files.length ≤ 580000000 := by rw [← Lib.size_eq] at hlf; omega
              obtain ⟨lv, hlv⟩ : ∃ lv, lv = x.sort.files.length := ⟨_, rfl⟩
              obtain ⟨W8, hW8⟩ : ∃ W8, W8 = w7.alloc (veObj (.slice ao lv cap) x.sort) := ⟨_, rfl⟩
              have hbW8 : Below w7.heap.size w7 W8 := by rw [hW8]; exact (Below.refl _ _).alloc (Nat.le_refl _) _
              have HC8 : Hid (CS w g (g + 1) z vis ns (.slice (some ⟨vb, 0, none⟩) vis.length vc) (.slice (some ⟨eb, 0, none⟩) ns.length ec) W8) := HC.out.keep (hb7.trans (hbW8.mono hb7.size))
              have hh8 : W8.heap[w7.heap.size]? = some (veObj (.slice ao lv cap) x.sort) := by rw [hW8]; exact heap_alloc_new w7 _
              have HH8 : Hid (W8.heap[w7.heap.size]? = some (veObj (.slice ao lv cap) x.sort)) := hh8
              have hel8 := hel7.later hbW8
              obtain ⟨_, _, hue, hce⟩ := HC8.out.end_at hkl1
              cases hue
              obtain ⟨_, _, huv, v0, v1, v2, v3, hva⟩ := HC8.out.ver_at hkl2
              cases huv
              have hgd : vis.getD (j) Vi.zero = ⟨(vis.getD (j) Vi.zero).fo, (vis.getD (j) Vi.zero).cap, x.sort⟩ := by rw [← HX2.out]
              obtain ⟨fo, hfo⟩ : ∃ fo, fo = (vis.getD (j) Vi.zero).fo := ⟨_, rfl⟩
              obtain ⟨fc, hfc⟩ : ∃ fc, fc = (vis.getD (j) Vi.zero).cap := ⟨_, rfl⟩
              rw [← hfo, ← hfc] at hgd
              rw [hgd] at v0 v1 v2 v3 hva
              have hva2 : VerAt W8 0 (.slice fo x.sort.files.length fc) x.sort := hva
              have v0' : W8.cell? ⟨vb, (j) * 4, none⟩ = some (.slice fo lv fc) := by rw [hlv]; exact v0
              rw [HEnd.out] at hce
              simp only at v1 v2 v3
              have HBk : Hid (∀ X, Below W8.heap.size W8 X → X.cell? ⟨eb, j, none⟩ = some (.int .i64 ((bytesOf (es.take (j))).length : Int)) ∧ X.cell? ⟨w7.heap.size, 0, none⟩ = some (.slice ao lv cap) ∧ X.cell? ⟨w7.heap.size, 1, none⟩ = some (.int .i64 x.sort.wal) ∧ X.cell? ⟨w7.heap.size, 2, none⟩ = some (.int .i64 x.sort.next) ∧ X.cell? ⟨w7.heap.size, 3, none⟩ = some (.int .i64 x.sort.seq) ∧ X.cell? ⟨vb, (j) * 4, none⟩ = some (.slice fo lv fc) ∧ X.cell? ⟨vb, (j) * 4 + 1, none⟩ = some (.int .i64 x.sort.wal) ∧ X.cell? ⟨vb, (j) * 4 + 2, none⟩ = some (.int .i64 x.sort.next) ∧ X.cell? ⟨vb, (j) * 4 + 3, none⟩ = some (.int .i64 x.sort.seq)) := fun X hX => by
                have hq : ∀ b o c, W8.cell? ⟨b, o, none⟩ = some c → X.cell? ⟨b, o, none⟩ = some c := fun b o c h => (World.cell?_of_block (hX.block b (World.block_lt_of_cell? W8 ⟨b, o, none⟩ h))).trans h
                obtain ⟨h0, h1, h2, h3, _⟩ := ve_cells hh8
                exact ⟨hq _ _ _ hce, hq _ _ _ h0, hq _ _ _ h1, hq _ _ _ h2, hq _ _ _ h3, hq _ _ _ v0', hq _ _ _ v1, hq _ _ _ v2, hq _ _ _ v3⟩
              have hbd : Below W8.heap.size W8 W8.drew := ⟨rfl, rfl, rfl, Nat.le_refl _, fun _ _ => rfl⟩
              have hsm := same_any ao fo cap fc x.sort W8.drew (hel8.later hbd) ((ver_els hva2).later hbd) (by omega)
              rw [← hlv] at hsm
              unfold veV at hsm ⊢
              rw [← hlv]
              have HSm : Hid _ := hsm
              have hW8' : w7.alloc (.cells #[.slice ao lv cap, .int .i64 x.sort.wal, .int .i64 x.sort.next, .int .i64 x.sort.seq] 26) = W8 := hW8.symm
              obtain ⟨k0, k1, k2, k3, k4, k5, k6, k7, k8⟩ := HBk.out W8.drew hbd
              have hK0 : (0 : Int) ≤ (j : Int) := by omega
              have hK1 : (j : Int) < (ns.length : Int) := by omega
              have hK2 : (j : Int) < (vis.length : Int) := by omega
              clear hr hc7 hel7 hb7 hlf hbW8 hh8 hel8 hce v0 v0' v1 v2 v3 hva hva2 hgd hfo hfc hsm hW8 HRd HCut HX2 HEnd hS' hkl1 hkl2 hlv HC
              go_wp2_with fail
              go_region_held3 (fun X => X.cell? ⟨eb, j, none⟩ = some (.int .i64 ((bytesOf (es.take (j))).length : Int)) ∧ X.cell? ⟨w7.heap.size, 0, none⟩ = some (.slice ao lv cap) ∧ X.cell? ⟨w7.heap.size, 1, none⟩ = some (.int .i64 x.sort.wal) ∧ X.cell? ⟨w7.heap.size, 2, none⟩ = some (.int .i64 x.sort.next) ∧ X.cell? ⟨w7.heap.size, 3, none⟩ = some (.int .i64 x.sort.seq) ∧ X.cell? ⟨vb, (j) * 4, none⟩ = some (.slice fo lv fc) ∧ X.cell? ⟨vb, (j) * 4 + 1, none⟩ = some (.int .i64 x.sort.wal) ∧ X.cell? ⟨vb, (j) * 4 + 2, none⟩ = some (.int .i64 x.sort.next) ∧ X.cell? ⟨vb, (j) * 4 + 3, none⟩ = some (.int .i64 x.sort.seq)) (first | exact ⟨k0, k1, k2, k3, k4, k5, k6, k7, k8⟩ | exact HBk.out _ (hbd.trans hb9) | go_keep)
                ((go_at_call 12; refine (show Calls _ _ _ _ _ from HSm.out).mono ?_; rintro y w9 ⟨rfl, hb9⟩))
              have HC9 : Hid (CS w g (g + 1) z vis ns (.slice (some ⟨vb, 0, none⟩) vis.length vc) (.slice (some ⟨eb, 0, none⟩) ns.length ec) w9) := HC8.out.keep (hbd.trans hb9)
              clear hb9 hbd HSm HBk HC8 HH8 hW8' k0 k1 k2 k3 k4 k5 k6 k7 k8
              go_wp2
              go_roundw
              case rel => exact ⟨j, m + 1, by go_num, by go_num, by omega, by omega, ⟨by have := HP.out.1; omega, fun h => by have := HP.out.2 h; omega⟩, HC9⟩
              case measure => simp [intOf]; omega
          · have hP : (bytesOf (es.take j)).length ≤ m ∧ (j < es.length → m < (bytesOf (es.take (j + 1))).length) := ⟨HI.out.1, fun h => absurd h hmore⟩
            have hidx : ¬ (((j : Int) + 1) < (ns.length : Int)) := by have := HLn.out; omega
            clear HI
            have HP : Hid ((bytesOf (es.take (j))).length ≤ m ∧ (j < es.length → m < (bytesOf (es.take (j + 1))).length)) := hP
            have hKl : j ≤ es.length := by omega
            obtain ⟨x, hx1, hx2⟩ := HL.out.ver (j) hKl
            have hend := HL.out.end_ (j) hKl
            have hcut := comes_cut (k := j) (n := m) HL.out.eds hx1 HP.out.1 HP.out.2 (by rw [← HTx.out, bs_len]; omega)
            obtain ⟨S, hS⟩ : ∃ S, S = Tx.extract 0 m := ⟨_, rfl⟩
            have hSl : S.data.toList = (bytesOf es).take m := by rw [hS, Lib.extract_data, ← HTx.out]; unfold bs; simp
            have hSz : S.size ≤ Tx.size := by rw [Lib.size_eq, hSl, List.length_take, ← HTx.out, bs_len]; omega
            have hTz : Tx.size ≤ 580000000 := by have := HL.out.bytes; have := HW.out; rw [← bs_len, HTx.out]; omega
            have HRd : Hid _ := read_any S wr (by omega)
            have HCut : Hid (Comes S.data.toList x (bytesOf (es.take (j))).length) := by show Comes _ _ _; rw [hSl]; exact hcut
            have HX2 : Hid ((vis.getD (j) Vi.zero).v = x.sort) := hx2
            have HEnd : Hid (ns.getD (j) 0 = ((bytesOf (es.take (j))).length : Int)) := hend
            have hS' := hS.symm
            have hm0 : (0 : Int) ≤ (m : Int) := by omega
            have hm1 : (m : Int) ≤ (Tx.size : Int) := by omega
            have hkl1 : j < ns.length := by have := HLn.out; omega
            have hkl2 : j < vis.length := by have := HLv.out; omega
            clear hx1 hx2 hend hcut hS hSl hP
            go_wp2_with fail
            refine (show Calls _ _ _ _ _ from HRd.out).mono ?_
            rintro y w7 hr
            obtain ⟨v', n', ao, cap, hc7, rfl, hel7, hb7, hlf⟩ := hr.out
            obtain ⟨rfl, rfl⟩ := HCut.out.unique hc7
            have hlf2 : x.sort.files.length ≤ 580000000 := by rw [← Lib.size_eq] at hlf; omega
            obtain ⟨lv, hlv⟩ : ∃ lv, lv = x.sort.files.length := ⟨_, rfl⟩
            obtain ⟨W8, hW8⟩ : ∃ W8, W8 = w7.alloc (veObj (.slice ao lv cap) x.sort) := ⟨_, rfl⟩
            have hbW8 : Below w7.heap.size w7 W8 := by rw [hW8]; exact (Below.refl _ _).alloc (Nat.le_refl _) _
            have HC8 : Hid (CS w g (g + 1) z vis ns (.slice (some ⟨vb, 0, none⟩) vis.length vc) (.slice (some ⟨eb, 0, none⟩) ns.length ec) W8) := HC.out.keep (hb7.trans (hbW8.mono hb7.size))
            have hh8 : W8.heap[w7.heap.size]? = some (veObj (.slice ao lv cap) x.sort) := by rw [hW8]; exact heap_alloc_new w7 _
            have HH8 : Hid (W8.heap[w7.heap.size]? = some (veObj (.slice ao lv cap) x.sort)) := hh8
            have hel8 := hel7.later hbW8
            obtain ⟨_, _, hue, hce⟩ := HC8.out.end_at hkl1
            cases hue
            obtain ⟨_, _, huv, v0, v1, v2, v3, hva⟩ := HC8.out.ver_at hkl2
            cases huv
            have hgd : vis.getD (j) Vi.zero = ⟨(vis.getD (j) Vi.zero).fo, (vis.getD (j) Vi.zero).cap, x.sort⟩ := by rw [← HX2.out]
            obtain ⟨fo, hfo⟩ : ∃ fo, fo = (vis.getD (j) Vi.zero).fo := ⟨_, rfl⟩
            obtain ⟨fc, hfc⟩ : ∃ fc, fc = (vis.getD (j) Vi.zero).cap := ⟨_, rfl⟩
            rw [← hfo, ← hfc] at hgd
            rw [hgd] at v0 v1 v2 v3 hva
            have hva2 : VerAt W8 0 (.slice fo x.sort.files.length fc) x.sort := hva
            have v0' : W8.cell? ⟨vb, (j) * 4, none⟩ = some (.slice fo lv fc) := by rw [hlv]; exact v0
            rw [HEnd.out] at hce
            simp only at v1 v2 v3
            have HBk : Hid (∀ X, Below W8.heap.size W8 X → X.cell? ⟨eb, j, none⟩ = some (.int .i64 ((bytesOf (es.take (j))).length : Int)) ∧ X.cell? ⟨w7.heap.size, 0, none⟩ = some (.slice ao lv cap) ∧ X.cell? ⟨w7.heap.size, 1, none⟩ = some (.int .i64 x.sort.wal) ∧ X.cell? ⟨w7.heap.size, 2, none⟩ = some (.int .i64 x.sort.next) ∧ X.cell? ⟨w7.heap.size, 3, none⟩ = some (.int .i64 x.sort.seq) ∧ X.cell? ⟨vb, (j) * 4, none⟩ = some (.slice fo lv fc) ∧ X.cell? ⟨vb, (j) * 4 + 1, none⟩ = some (.int .i64 x.sort.wal) ∧ X.cell? ⟨vb, (j) * 4 + 2, none⟩ = some (.int .i64 x.sort.next) ∧ X.cell? ⟨vb, (j) * 4 + 3, none⟩ = some (.int .i64 x.sort.seq)) := fun X hX => by
              have hq : ∀ b o c, W8.cell? ⟨b, o, none⟩ = some c → X.cell? ⟨b, o, none⟩ = some c := fun b o c h => (World.cell?_of_block (hX.block b (World.block_lt_of_cell? W8 ⟨b, o, none⟩ h))).trans h
              obtain ⟨h0, h1, h2, h3, _⟩ := ve_cells hh8
              exact ⟨hq _ _ _ hce, hq _ _ _ h0, hq _ _ _ h1, hq _ _ _ h2, hq _ _ _ h3, hq _ _ _ v0', hq _ _ _ v1, hq _ _ _ v2, hq _ _ _ v3⟩
            have hbd : Below W8.heap.size W8 W8.drew := ⟨rfl, rfl, rfl, Nat.le_refl _, fun _ _ => rfl⟩
            have hsm := same_any ao fo cap fc x.sort W8.drew (hel8.later hbd) ((ver_els hva2).later hbd) (by omega)
            rw [← hlv] at hsm
            unfold veV at hsm ⊢
            rw [← hlv]
            have HSm : Hid _ := hsm
            have hW8' : w7.alloc (.cells #[.slice ao lv cap, .int .i64 x.sort.wal, .int .i64 x.sort.next, .int .i64 x.sort.seq] 26) = W8 := hW8.symm
            obtain ⟨k0, k1, k2, k3, k4, k5, k6, k7, k8⟩ := HBk.out W8.drew hbd
            have hK0 : (0 : Int) ≤ (j : Int) := by omega
            have hK1 : (j : Int) < (ns.length : Int) := by omega
            have hK2 : (j : Int) < (vis.length : Int) := by omega
            clear hr hc7 hel7 hb7 hlf hbW8 hh8 hel8 hce v0 v0' v1 v2 v3 hva hva2 hgd hfo hfc hsm hW8 HRd HCut HX2 HEnd hS' hkl1 hkl2 hlv HC
            go_wp2_with fail
            go_region_held3 (fun X => X.cell? ⟨eb, j, none⟩ = some (.int .i64 ((bytesOf (es.take (j))).length : Int)) ∧ X.cell? ⟨w7.heap.size, 0, none⟩ = some (.slice ao lv cap) ∧ X.cell? ⟨w7.heap.size, 1, none⟩ = some (.int .i64 x.sort.wal) ∧ X.cell? ⟨w7.heap.size, 2, none⟩ = some (.int .i64 x.sort.next) ∧ X.cell? ⟨w7.heap.size, 3, none⟩ = some (.int .i64 x.sort.seq) ∧ X.cell? ⟨vb, (j) * 4, none⟩ = some (.slice fo lv fc) ∧ X.cell? ⟨vb, (j) * 4 + 1, none⟩ = some (.int .i64 x.sort.wal) ∧ X.cell? ⟨vb, (j) * 4 + 2, none⟩ = some (.int .i64 x.sort.next) ∧ X.cell? ⟨vb, (j) * 4 + 3, none⟩ = some (.int .i64 x.sort.seq)) (first | exact ⟨k0, k1, k2, k3, k4, k5, k6, k7, k8⟩ | exact HBk.out _ (hbd.trans hb9) | go_keep)
              ((go_at_call 12; refine (show Calls _ _ _ _ _ from HSm.out).mono ?_; rintro y w9 ⟨rfl, hb9⟩))
            have HC9 : Hid (CS w g (g + 1) z vis ns (.slice (some ⟨vb, 0, none⟩) vis.length vc) (.slice (some ⟨eb, 0, none⟩) ns.length ec) w9) := HC8.out.keep (hbd.trans hb9)
            clear hb9 hbd HSm HBk HC8 HH8 hW8' k0 k1 k2 k3 k4 k5 k6 k7 k8
            go_wp2
            go_roundw
            case rel => exact ⟨j, m + 1, by go_num, by go_num, by omega, by omega, ⟨by have := HP.out.1; omega, fun h => by have := HP.out.2 h; omega⟩, HC9⟩
            case measure => simp [intOf]; omega
        · clear HI
          by_cases hmT : m ≤ Tx.size
          · have hmT' : (m : Int) ≤ (Tx.size : Int) := by omega
            have hm3' : ¬ ((m : Int) < 300) := by omega
            go_wp2
            go_ret
            exact ⟨rfl, HC.out.bel⟩
          · have hmT' : ¬ ((m : Int) ≤ (Tx.size : Int)) := by omega
            go_wp2
            go_ret
            exact ⟨rfl, HC.out.bel⟩
end Go.Proofs.YtjfanbemihheiaaGreatDoor.Ma
