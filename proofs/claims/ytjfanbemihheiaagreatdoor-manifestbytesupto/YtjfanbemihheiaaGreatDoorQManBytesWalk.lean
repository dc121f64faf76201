/-
  ManifestBytes: the program and the document agree on any edit's bytes, and on any bytes' edit.
-/
import Derived.Test.YtjfanbemihheiaaGreatDoorQManLives
import Derived.Test.YtjfanbemihheiaaGreatDoorQManDecodeWalk
import Derived.Test.YtjfanbemihheiaaGreatDoorQManRefDec
import Derived.Test.YtjfanbemihheiaaGreatDoorQManSameEdit
namespace Go.Proofs.YtjfanbemihheiaaGreatDoor.Ma
open Go.RowKit Cm
open Pk (enc enc_len fold unfold)
set_option linter.unusedVariables false

theorem EdOwn.els {w : World} {B : Nat} {aa ad : Option Addr} {ca cd : Nat} {e : Ed} (h : EdOwn w B (.slice aa e.add.length ca) (.slice ad e.del.length cd) e) : ElemsAt fiShape w aa e.add ∧ CellsAt w ad (e.del.map (Value.int .i64)) ∧ (aa = none → ca = 0) ∧ (ad = none → cd = 0) := by
  obtain ⟨aa', ca', h1, h2, _, _, h4⟩ := own_rows (F := fiShape) h.add
  cases h1
  obtain ⟨ad', cd', k1, k2, _, _, k4⟩ := own_rows (F := inShape) h.del
  cases k1
  exact ⟨h4, in_cells k4, h2, k2⟩
/-- The same, without rows: an edit, or none. -/
theorem DecAns.out {w w' : World} {s : ByteArray} {x : Ending} (h : DecAns w s x w') : Below w.heap.size w w' ∧
    ((∃ e aa ca ad cd, IsEd (bs s) e ∧ x = .returned (.tuple #[edV (.slice aa e.add.length ca) (.slice ad e.del.length cd) e, .int .i64 0]) ∧ EiAt w' ⟨aa, ca, ad, cd, e⟩) ∨
     ((∀ e, ¬ IsEd (bs s) e) ∧ x = .returned (.tuple #[edV (.slice none 0 0) (.slice none 0 0) edZero, .int .i64 11]))) := by
  rcases h with ⟨e, a, d, h1, rfl, h2, h3, h4⟩ | ⟨h1, rfl, h2⟩
  · obtain ⟨aa, ca, ad, cd, rfl, rfl⟩ := h2.form
    obtain ⟨e1, e2, e3, e4⟩ := h2.els
    exact ⟨h4, .inl ⟨e, aa, ca, ad, cd, h1, rfl, ⟨e1, e2, e3, e4, ⟨h1.ok.add, h1.ok.del, h1.ok.wal, h1.ok.next, h1.ok.seq⟩, h3⟩⟩⟩
  · exact ⟨h2, .inr ⟨h1, rfl⟩⟩
/-- An edit, or nothing in its place: what both readers answer. -/
def DecRes (s : ByteArray) (e : Ed) (er : Int) : Prop := (IsEd (bs s) e ∧ er = 0) ∨ ((∀ d, ¬ IsEd (bs s) d) ∧ e = edZero ∧ er = 11)
theorem edZero_ei (w : World) : EiAt w ⟨none, 0, none, 0, edZero⟩ := ⟨.inl rfl, .inl rfl, fun _ => rfl, fun _ => rfl, ⟨(fun f hf => by cases hf), (fun f hf => by cases hf), OkI.zero, OkI.zero, OkI.zero⟩, by show 0 + 0 ≤ _; omega⟩
theorem DecAns.res {w w' : World} {s : ByteArray} {x : Ending} (h : DecAns w s x w') : Below w.heap.size w w' ∧ ∃ e aa ca ad cd er, x = .returned (.tuple #[edV (.slice aa e.add.length ca) (.slice ad e.del.length cd) e, .int .i64 er]) ∧ EiAt w' ⟨aa, ca, ad, cd, e⟩ ∧ DecRes s e er := by
  obtain ⟨h1, ⟨e, aa, ca, ad, cd, h2, h3, h4⟩ | ⟨h2, h3⟩⟩ := h.out
  · exact ⟨h1, e, aa, ca, ad, cd, 0, h3, h4, .inl ⟨h2, rfl⟩⟩
  · exact ⟨h1, edZero, none, 0, none, 0, 11, h3, edZero_ei _, .inr ⟨h2, rfl, rfl⟩⟩
theorem DecRes.unique {s : ByteArray} {e d : Ed} {a b : Int} (h : DecRes s e a) (k : DecRes s d b) : d = e ∧ b = a := by
  rcases h with ⟨h1, rfl⟩ | ⟨h1, rfl, rfl⟩
  · rcases k with ⟨k1, rfl⟩ | ⟨k1, _, _⟩
    · exact ⟨k1.unique h1, rfl⟩
    · exact absurd h1 (k1 _)
  · rcases k with ⟨k1, _⟩ | ⟨_, rfl, rfl⟩
    · exact absurd k1 (h1 _)
    · exact ⟨rfl, rfl⟩
theorem EiAt.later {w X : World} {x : Ei} (h : EiAt w x) (hb : Below w.heap.size w X) : EiAt X x := ⟨h.add.later hb, h.del.below hb, h.na, h.nd, h.ok, h.few⟩
theorem EiAt.Ok {w : World} {x : Ei} (h : EiAt w x) : x.e.Ok := ⟨h.ok.add, h.ok.del, h.ok.wal, h.ok.next, h.ok.seq, by have := h.few; omega, by have := h.few; omega⟩
theorem EiAt.here {w : World} {x : Ei} (h : EiAt w x) : EdAt w (fun _ => False) x.aa x.ca x.ad x.cd x.e := h.ed (Below.refl _ _) (fun k hk => hk.elim)
theorem same_ei {w : World} {aa ad ab bd : Option Addr} {ca cd cb dd : Nat} {e : Ed} (h : EiAt w ⟨aa, ca, ad, cd, e⟩) (k : EiAt w ⟨ab, cb, bd, dd, e⟩) :
    Calls Tryz.prog 15 #[edV (.slice aa e.add.length ca) (.slice ad e.del.length cd) e, edV (.slice ab e.add.length cb) (.slice bd e.del.length dd) e] w fun x w' => x = .returned (.bool true) ∧ Below w.heap.size w w' :=
  sameEdit_any aa ab ad bd ca cb cd dd e w h.add k.add h.del k.del h.few
theorem ba_eq (s : ByteArray) (l : List UInt8) (h : bs s = l) : (⟨l.toArray⟩ : ByteArray) = s := by
  subst h; unfold bs; cases s; simp
set_option maxRecDepth 100000 in
set_option maxHeartbeats 4000000 in
theorem bytes_law (aa : Option Addr) (ca : Nat) (ad : Option Addr) (cd : Nat) (e : Ed) (T : ByteArray) (w : World) (he : EiAt w ⟨aa, ca, ad, cd, e⟩) (hl : e.add.length + e.del.length ≤ 10000000) (hT : T.size ≤ 10000000) :
    Calls Tryz.prog 4 #[edV (.slice aa e.add.length ca) (.slice ad e.del.length cd) e, .string T] w fun x w' => x = .returned (.bool true) ∧ Below w.heap.size w w' := by
  obtain ⟨m, hm⟩ : ∃ m, m = e.add.length := ⟨_, rfl⟩
  obtain ⟨n, hn⟩ : ∃ n, n = e.del.length := ⟨_, rfl⟩
  have HM : Hid (m = e.add.length) := hm
  have HN : Hid (n = e.del.length) := hn
  obtain ⟨W0, hW0⟩ : ∃ W0, W0 = w.alloc (edObj (.slice aa m ca) (.slice ad n cd) e) := ⟨_, rfl⟩
  have hb0 : Below w.heap.size w W0 := by rw [hW0]; exact (Below.refl _ _).alloc (Nat.le_refl _) _
  have HB0 : Hid (Below w.heap.size w W0) := hb0
  have HG0 : Hid (W0.heap[w.heap.size]? = some (edObj (.slice aa m ca) (.slice ad n cd) e)) := by show _ = _; rw [hW0]; exact heap_alloc_new w _
  have HEi : Hid (∀ X, Below w.heap.size w X → EiAt X ⟨aa, ca, ad, cd, e⟩) := fun X hX => he.later hX
  have hW0' : w.alloc (.cells #[.slice aa m ca, .slice ad n cd, .int .i64 e.wal, .int .i64 e.next, .int .i64 e.seq] 30) = W0 := hW0.symm
  have HOk : Hid e.Ok := he.Ok
  have HEl : Hid ((encE e).length ≤ 1000000000) := by have := (encE_len e).1; show _ ≤ _; omega
  rw [← hm, ← hn]
  unfold edV
  clear he hl hm hn hb0 hW0
  go_enter Tryz.func4, Tryz.ntmps4
  go_wp2_with fail
  refine (lives_any _).mono ?_
  rintro x w1 ⟨rfl, hb1⟩
  have HB1 : Hid (Below w.heap.size w w1) := HB0.out.trans (hb1.mono HB0.out.size)
  have HG1 : Hid (w1.heap[w.heap.size]? = some (edObj (.slice aa m ca) (.slice ad n cd) e)) := (hb1.block _ (lt_of_block HG0.out)).trans HG0.out
  clear hb1 HB0 HG0 hW0'
  obtain ⟨y0, y1, y2, y3, y4⟩ := ed_cells HG1.out
  have hen := encode_any aa ca ad cd e w1 (HEi.out w1 HB1.out).here (HEi.out w1 HB1.out).ok
  rw [← HM.out, ← HN.out] at hen
  unfold edV at hen
  have HEn : Hid _ := hen
  clear hen
  go_wp2_with fail
  refine (show Calls _ _ _ _ _ from HEn.out).mono ?_
  rintro x w2 ⟨rfl, hb2⟩
  have HB2 : Hid (Below w.heap.size w w2) := HB1.out.trans (hb2.mono HB1.out.size)
  have HG2 : Hid (w2.heap[w.heap.size]? = some (edObj (.slice aa m ca) (.slice ad n cd) e)) := (hb2.block _ (lt_of_block HG1.out)).trans HG1.out
  clear hb2 HB1 HG1 HEn y0 y1 y2 y3 y4
  obtain ⟨y0, y1, y2, y3, y4⟩ := ed_cells HG2.out
  have hen := encodeR_any aa ca ad cd e w2 (HEi.out w2 HB2.out).here (HEi.out w2 HB2.out).ok
  rw [← HM.out, ← HN.out] at hen
  unfold edV at hen
  have HEn : Hid _ := hen
  clear hen
  have hA : (∃ A, encA e = .tuple #[.string A, .int .i64 0] ∧ IsEd (bs A) e ∧ A.size ≤ 1000000000) ∨ (encA e = .tuple #[.string ⟨#[]⟩, .int .i64 11]) := by
    unfold encA
    cases hr : right e
    · exact .inr rfl
    · exact .inl ⟨⟨(encE e).toArray⟩, rfl, ⟨HOk.out, hr, by rw [bs_mk]⟩, by rw [← bs_len, bs_mk]; exact HEl.out⟩
  rcases hA with ⟨A, hA, hIs, hAl⟩ | hA
  case' inl =>
    rw [hA] at HEn ⊢
    have HIs : Hid (IsEd (bs A) e) := hIs
    clear hA hIs
    go_wp2_with fail
    refine (show Calls _ _ _ _ _ from HEn.out).mono ?_
    rintro x w3 ⟨rfl, hb3⟩
    have HB3 : Hid (Below w.heap.size w w3) := HB2.out.trans (hb3.mono HB2.out.size)
    have HG3 : Hid (w3.heap[w.heap.size]? = some (edObj (.slice aa m ca) (.slice ad n cd) e)) := (hb3.block _ (lt_of_block HG2.out)).trans HG2.out
    have HDc : Hid _ := decode_any A w3 (by omega)
    clear hb3 HB2 HG2 HEn y0 y1 y2 y3 y4
    go_wp2_with fail
    refine (show Calls _ _ _ _ _ from HDc.out).mono ?_
    rintro x w4 hd4
    obtain ⟨hb4, e4, aa4, ca4, ad4, cd4, er4, rfl, hei4, hres4⟩ := hd4.res
    obtain ⟨rfl, rfl⟩ := hres4.unique (.inl ⟨HIs.out, rfl⟩)
    have HB4 : Hid (Below w.heap.size w w4) := HB3.out.trans (hb4.mono HB3.out.size)
    have hg4 := (hb4.block _ (lt_of_block HG3.out)).trans HG3.out
    unfold edV
    rw [← HM.out, ← HN.out]
    obtain ⟨W5, hW5⟩ : ∃ W5, W5 = w4.alloc (edObj (.slice aa4 m ca4) (.slice ad4 n cd4) e) := ⟨_, rfl⟩
    have hb5 : Below w4.heap.size w4 W5 := by rw [hW5]; exact (Below.refl _ _).alloc (Nat.le_refl _) _
    have HB5 : Hid (Below w.heap.size w W5) := HB4.out.trans (hb5.mono HB4.out.size)
    have HG5 : Hid (W5.heap[w.heap.size]? = some (edObj (.slice aa m ca) (.slice ad n cd) e)) := (hb5.block _ (lt_of_block hg4)).trans hg4
    have HH5 : Hid (W5.heap[w4.heap.size]? = some (edObj (.slice aa4 m ca4) (.slice ad4 n cd4) e)) := by show _ = _; rw [hW5]; exact heap_alloc_new w4 _
    have hse := same_ei (hei4.later hb5) (HEi.out W5 HB5.out)
    rw [← HM.out, ← HN.out] at hse
    unfold edV at hse
    have HSe : Hid _ := hse
    have hW5' : w4.alloc (.cells #[.slice aa4 m ca4, .slice ad4 n cd4, .int .i64 e.wal, .int .i64 e.next, .int .i64 e.seq] 30) = W5 := hW5.symm
    obtain ⟨y0, y1, y2, y3, y4⟩ := ed_cells HG5.out
    obtain ⟨x0, x1, x2, x3, x4⟩ := ed_cells HH5.out
    clear hse hW5 hb5 hei4 hres4 hg4 hb4 HDc HB3 HG3 HB4 HG5 HH5
    go_wp2_with fail
    refine (show Calls _ _ _ _ _ from HSe.out).mono ?_
    rintro x wz ⟨rfl, hb6⟩
    have HB3 : Hid (Below w.heap.size w wz) := HB5.out.trans (hb6.mono HB5.out.size)
    clear hb6 HSe HB5 y0 y1 y2 y3 y4 x0 x1 x2 x3 x4 hW5' HIs
    go_wp2_with fail
  case' inr =>
    rw [hA] at HEn ⊢
    clear hA
    go_wp2_with fail
    refine (show Calls _ _ _ _ _ from HEn.out).mono ?_
    rintro x wz ⟨rfl, hb3⟩
    have HB3 : Hid (Below w.heap.size w wz) := HB2.out.trans (hb3.mono HB2.out.size)
    clear hb3 HB2 HG2 HEn y0 y1 y2 y3 y4
    go_wp2_with fail
  all_goals
    clear HEi HOk HEl HM HN
    have HDc : Hid _ := decode_any T wz (by omega)
    refine (show Calls _ _ _ _ _ from HDc.out).mono ?_
    rintro x wa hda
    obtain ⟨hba, ea, aaa, caa, ada, cda, era, rfl, heia, hresa⟩ := hda.res
    have HBa : Hid (Below w.heap.size w wa) := HB3.out.trans (hba.mono HB3.out.size)
    have HRa : Hid (DecRes T ea era) := hresa
    clear HDc HB3 hda hba hresa
    obtain ⟨la, hla⟩ : ∃ la, la = ea.add.length := ⟨_, rfl⟩
    obtain ⟨ld, hld⟩ : ∃ ld, ld = ea.del.length := ⟨_, rfl⟩
    have HLa : Hid (la = ea.add.length) := hla
    have HLd : Hid (ld = ea.del.length) := hld
    obtain ⟨W1, hW1⟩ : ∃ W1, W1 = wa.alloc (edObj (.slice aaa la caa) (.slice ada ld cda) ea) := ⟨_, rfl⟩
    have hb1 : Below wa.heap.size wa W1 := by rw [hW1]; exact (Below.refl _ _).alloc (Nat.le_refl _) _
    have HB1 : Hid (Below w.heap.size w W1) := HBa.out.trans (hb1.mono HBa.out.size)
    have HG1 : Hid (W1.heap[wa.heap.size]? = some (edObj (.slice aaa la caa) (.slice ada ld cda) ea)) := by show _ = _; rw [hW1]; exact heap_alloc_new wa _
    have HE1 : Hid (EiAt W1 ⟨aaa, caa, ada, cda, ea⟩) := heia.later hb1
    have hW1' : wa.alloc (.cells #[.slice aaa la caa, .slice ada ld cda, .int .i64 ea.wal, .int .i64 ea.next, .int .i64 ea.seq] 30) = W1 := hW1.symm
    have HDc : Hid _ := decodeR_any T W1 (by omega)
    unfold edV
    rw [← hla, ← hld]
    clear hb1 hW1 heia HBa hla hld
    go_wp2_with fail
    refine (show Calls _ _ _ _ _ from HDc.out).mono ?_
    rintro x wb hdb
    obtain ⟨hbb, eb, ab, cb, adb, cdb, erb, rfl, heib, hresb⟩ := hdb.res
    obtain ⟨rfl, rfl⟩ := hresb.unique HRa.out
    have HBb : Hid (Below w.heap.size w wb) := HB1.out.trans (hbb.mono HB1.out.size)
    have hgb := (hbb.block _ (lt_of_block HG1.out)).trans HG1.out
    have heab := HE1.out.later hbb
    unfold edV
    rw [← HLa.out, ← HLd.out]
    obtain ⟨W2, hW2⟩ : ∃ W2, W2 = wb.alloc (edObj (.slice ab la cb) (.slice adb ld cdb) ea) := ⟨_, rfl⟩
    have hb2 : Below wb.heap.size wb W2 := by rw [hW2]; exact (Below.refl _ _).alloc (Nat.le_refl _) _
    have HB2 : Hid (Below w.heap.size w W2) := HBb.out.trans (hb2.mono HBb.out.size)
    have HG2 : Hid (W2.heap[wa.heap.size]? = some (edObj (.slice aaa la caa) (.slice ada ld cda) ea)) := (hb2.block _ (lt_of_block hgb)).trans hgb
    have HH2 : Hid (W2.heap[wb.heap.size]? = some (edObj (.slice ab la cb) (.slice adb ld cdb) ea)) := by show _ = _; rw [hW2]; exact heap_alloc_new wb _
    have HE2 : Hid (EiAt W2 ⟨aaa, caa, ada, cda, ea⟩) := heab.later hb2
    have hse := same_ei HE2.out (heib.later hb2)
    rw [← HLa.out, ← HLd.out] at hse
    unfold edV at hse
    have HSe : Hid _ := hse
    have hW2' : wb.alloc (.cells #[.slice ab la cb, .slice adb ld cdb, .int .i64 ea.wal, .int .i64 ea.next, .int .i64 ea.seq] 30) = W2 := hW2.symm
    obtain ⟨y0, y1, y2, y3, y4⟩ := ed_cells HG2.out
    obtain ⟨x0, x1, x2, x3, x4⟩ := ed_cells HH2.out
    clear hse hW2 hb2 heib hresb hgb hbb HDc HB1 HG1 HBb HE1 hW1' hdb heab HH2
    go_wp2_with fail
    refine (show Calls _ _ _ _ _ from HSe.out).mono ?_
    rintro x wc ⟨rfl, hbc⟩
    have HBc : Hid (Below w.heap.size w wc) := HB2.out.trans (hbc.mono HB2.out.size)
    have HGc : Hid (wc.heap[wa.heap.size]? = some (edObj (.slice aaa la caa) (.slice ada ld cda) ea)) := (hbc.block _ (lt_of_block HG2.out)).trans HG2.out
    have HEc : Hid (EiAt wc ⟨aaa, caa, ada, cda, ea⟩) := HE2.out.later hbc
    clear hbc HSe HB2 HG2 HE2 y0 y1 y2 y3 y4 x0 x1 x2 x3 x4 hW2'
    obtain ⟨y0, y1, y2, y3, y4⟩ := ed_cells HGc.out
    rcases HRa.out with ⟨hIs, rfl⟩ | ⟨_, _, rfl⟩
    · have hen := encode_any aaa caa ada cda ea wc HEc.out.here HEc.out.ok
      have hA : encA ea = .tuple #[.string T, .int .i64 0] := by
        unfold encA
        rw [hIs.right]
        show Value.tuple #[.string ⟨(encE ea).toArray⟩, .int .i64 0] = _
        rw [ba_eq T _ hIs.eq]
      rw [← HLa.out, ← HLd.out, hA] at hen
      unfold edV at hen
      have HEn : Hid _ := hen
      clear hen hA hIs HRa
      go_wp2_with fail
      refine (show Calls _ _ _ _ _ from HEn.out).mono ?_
      rintro x wd ⟨rfl, hbd⟩
      have HBd : Hid (Below w.heap.size w wd) := HBc.out.trans (hbd.mono HBc.out.size)
      clear hbd HEn y0 y1 y2 y3 y4
      go_wp2
      go_ret
      exact ⟨rfl, HBd.out⟩
    · go_wp2
      go_ret
      exact ⟨rfl, HBc.out⟩
end Go.Proofs.YtjfanbemihheiaaGreatDoor.Ma
