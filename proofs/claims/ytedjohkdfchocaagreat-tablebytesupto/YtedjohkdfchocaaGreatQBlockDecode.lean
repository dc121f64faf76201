/-
  The texts BlockDecode.
-/
import Derived.Test.YtedjohkdfchocaaGreatQBlockKeep
import Derived.Test.YtedjohkdfchocaaGreatQBlockGlue

/-
  Package block's reader: a piece that fits is the next version; what is known of the versions that were read; what Decode answers.
-/
namespace Go.Proofs.YtedjohkdfchocaaGreat.Bk
open Go.RowKit Cm Mm
open Pk (WrAt RdAt Step enc enc_len fold text dnum dnum_some)
set_option linter.unusedVariables false

/-! ### A piece that fits is the next version -/
theorem glue_key (K : List UInt8) (p : Pc) : bs (glue K p).key = K.take p.share ++ bs p.rest := by unfold glue; rw [bs_mk]
theorem fitsE_iff {es : List En} {p : Pc} (hs : p.share ≤ (lastKey [] es).length) : fitsE es p = true ↔ (pc (lastKey [] es) (glue (lastKey [] es) p) = p ∧ (0 < es.length → less (es.getD (es.length - 1) En.zero) (glue (lastKey [] es) p) = true)) := by
  unfold fitsE
  by_cases h0 : es.length = 0
  · have : es = [] := List.eq_nil_of_length_eq_zero h0
    subst this
    rw [if_pos (show ([] : List En).length = 0 from rfl)]
    simp only [List.length_nil, Nat.lt_irrefl, false_implies, and_true, true_iff]
    have hz : p.share = 0 := by simpa [lastKey] using hs
    have hk := glue_key [] p
    simp only [lastKey]
    unfold pc
    rw [share_nil, hk]
    obtain ⟨sh, R, Q, D, V⟩ := p
    simp only at hz
    subst hz
    simp only [List.take_nil, List.nil_append, List.drop_zero, glue, Pc.mk.injEq, true_and, and_true]
    apply bs_inj; rw [bs_mk]
  · rw [if_neg h0]
    have hl := lastKey_last (es := es) (by omega) []
    rw [hl] at hs ⊢
    rw [fits_iff hs]
    simp [Nat.pos_of_ne_zero h0]
theorem next_led {l : List UInt8} {n : Nat} {es : List En} {s : List UInt8} {p : Pc} (h : Led l n es (p.bytes ++ s)) (hn : es.length < n) (hp : p.Ok) (hs : p.share ≤ (lastKey [] es).length) (hf : fitsE es p = false) (es' : List En) : ¬ IsBlock l es' := fun hb => by
  obtain ⟨e, more, _, h3, h4, h5⟩ := h.more hn hb
  obtain ⟨rfl, _⟩ := Pc.free hp (pc_ok h4) h3
  have := (fitsE_iff hs).2 ⟨by rw [glue_pc], fun h0 => by rw [glue_pc]; exact h5 h0⟩
  rw [hf] at this; cases this
theorem led_none {l : List UInt8} {n m : Nat} {es : List En} {s : List UInt8} (h : Led l n es s) (hn : es.length < n) (hm : m = (lastKey [] es).length) (hno : ∀ (p : Pc) t, p.Ok ∧ p.share ≤ m → s ≠ p.bytes ++ t) (es' : List En) : ¬ IsBlock l es' := fun hb => by
  obtain ⟨e, more, _, h3, h4, _⟩ := h.more hn hb
  exact hno _ _ ⟨pc_ok h4, by rw [hm]; exact (share_le _ _).1⟩ h3
/-- All that is known of the versions that were read. -/
structure Known (l : List UInt8) (n : Nat) (es : List En) (s : List UInt8) : Prop where
  eq : l = enc n ++ (body [] es ++ s)
  right : right es = true
  fit : ∀ e ∈ es, Fit e
  led : Led l n es s
  few : es.length + s.length ≤ l.length
  key : (lastKey [] es).length + s.length ≤ l.length
theorem Known.next {l : List UInt8} {n : Nat} {es : List En} {s : List UInt8} {p : Pc} (h : Known l n es (p.bytes ++ s)) (hn : es.length < n) (hp : p.Ok) (hs : p.share ≤ (lastKey [] es).length) (hf : fitsE es p = true) (hl : l.length ≤ 1000000000000) : Known l n (es ++ [glue (lastKey [] es) p]) s := by
  obtain ⟨h1, h2⟩ := (fitsE_iff hs).1 hf
  have hlen := Pc.len p
  have hk := glue_key (lastKey [] es) p
  have h5 := h.few
  have h6 := h.key
  rw [List.length_append] at h5 h6
  have hkl : ((lastKey [] es).take p.share ++ bs p.rest).length ≤ (lastKey [] es).length + p.rest.size := by simp [bs_len]; omega
  have hso : sound (glue (lastKey [] es) p) = true := (sound_iff _).2 hp.dead
  refine ⟨?_, right_snoc h.right hso h2, fun e he => ?_, h.led.next hn hp, ?_, ?_⟩
  · rw [body_snoc]
    unfold piece
    rw [h1, List.append_assoc]
    exact h.eq
  · rcases List.mem_append.1 he with he | he
    · exact h.fit e he
    · obtain rfl : e = glue (lastKey [] es) p := by simpa using he
      exact ⟨⟨hp.lo, hp.hi⟩, by rw [← bs_len, hk]; omega, hp.val, hso⟩
  · rw [List.length_append, List.length_singleton]; omega
  · rw [lastKey_snoc, hk]; omega
theorem Known.start {l : List UInt8} {n : Nat} {s : List UInt8} (h : l = enc n ++ s) (hn : n < 18446744073709551616) : Known l n [] s := by
  have hd := Pk.dnum_enc n s hn
  rw [← h] at hd
  have hl := congrArg List.length h
  rw [List.length_append] at hl
  refine ⟨by simpa [body] using h, rfl, fun e he => by simp at he, ?_, by simp; omega, by simp [lastKey]; omega⟩
  have := Led.start hd
  rwa [show l.drop (enc n).length = s by rw [h, List.drop_left]] at this
theorem Known.done {l : List UInt8} {n : Nat} {es : List En} (h : Known l n es []) (hn : es.length = n) (hl : l.length ≤ 1000000000000) : IsBlock l es :=
  ⟨h.right, h.fit, by have := h.few; simp at this; omega, by rw [h.eq]; unfold block; rw [hn]; simp⟩
theorem Known.more {l : List UInt8} {n : Nat} {es : List En} {s : List UInt8} (h : Known l n es s) (hn : es.length = n) (hs : s ≠ []) (es' : List En) : ¬ IsBlock l es' := fun hb => hs (h.led.stop hn hb).2

/-! ### How great they are -/
theorem val_len {p : Pc} (h : p.dead = true → p.val = ⟨#[]⟩) : p.val.size ≤ p.bytes.length := by
  have : p.val.size ≤ (mark p.dead (bs p.val)).length := by
    unfold mark
    cases hd : p.dead
    · have := (enc_len (bs p.val).length).1
      simp [text, bs_len]; omega
    · rw [h hd]; show 0 ≤ _; omega
  unfold Pc.bytes
  simp only [List.length_append]
  omega
theorem body_keys {last : List UInt8} {es : List En} (hs : ∀ e ∈ es, sound e = true) : es.length ≤ (body last es).length ∧ ∀ e ∈ es, e.key.size ≤ last.length + (body last es).length ∧ e.val.size ≤ (body last es).length := by
  induction es generalizing last with
  | nil => exact ⟨by simp, fun e he => by simp at he⟩
  | cons x r ih =>
    obtain ⟨i1, i2⟩ := ih (last := bs x.key) (fun e he => hs e (List.mem_cons_of_mem _ he))
    have h1 := Pc.len (pc last x)
    have h2 : x.key.size ≤ last.length + (pc last x).rest.size := by
      have h3 := congrArg (fun e : En => e.key) (glue_pc last x)
      have h4 := congrArg (fun b => (bs b).length) h3
      rw [glue_key, List.length_append, List.length_take, bs_len, bs_len] at h4
      omega
    have h5 : (pc last x).val.size ≤ (pc last x).bytes.length := val_len ((sound_iff x).1 (hs x (by simp)))
    have h6 : (pc last x).val = x.val := rfl
    rw [h6] at h5
    simp only [body, List.length_append, List.length_cons]
    unfold piece
    refine ⟨by omega, fun e he => ?_⟩
    rcases List.mem_cons.1 he with rfl | he
    · omega
    · have := i2 e he
      rw [bs_len] at this
      omega
theorem IsBlock.great {l : List UInt8} {es : List En} (h : IsBlock l es) : es.length ≤ l.length ∧ ∀ k, (es.getD k En.zero).key.size ≤ l.length ∧ (es.getD k En.zero).val.size ≤ l.length := by
  have hb := body_keys (last := []) (fun e he => (h.fit e he).sound)
  have hl := congrArg List.length h.eq
  unfold block at hl
  rw [List.length_append] at hl
  refine ⟨by omega, fun k => ?_⟩
  by_cases hk : k < es.length
  · rw [getD_lt _ _ _ hk]
    have := hb.2 _ (List.getElem_mem hk)
    simp at this
    omega
  · have : es.getD k En.zero = En.zero := by simp [List.getElem?_eq_none (by omega : es.length ≤ k)]
    rw [this]
    exact ⟨Nat.zero_le _, Nat.zero_le _⟩
theorem Known.great {l : List UInt8} {n : Nat} {es : List En} {s : List UInt8} (h : Known l n es s) : ∀ k, (es.getD k En.zero).key.size ≤ l.length := fun k => by
  have hb := body_keys (last := []) (fun e he => (h.fit e he).sound)
  have hl := congrArg List.length h.eq
  rw [List.length_append, List.length_append] at hl
  by_cases hk : k < es.length
  · rw [getD_lt _ _ _ hk]
    have := (hb.2 _ (List.getElem_mem hk)).1
    simp at this
    omega
  · have : es.getD k En.zero = En.zero := by simp [List.getElem?_eq_none (by omega : es.length ≤ k)]
    rw [this]
    exact Nat.zero_le _

/-! ### The reader's steps -/
theorem RS.step {w X Y : World} {base q b : Nat} {s s' : ByteArray} {es : List En} {v1 v2 : Value} (h : RS w base q b s es v1 v2 X) (hs : Step b X none Y none) (hr : RdAt Y b s') (hB : base ≤ X.heap.size) (hb : base ≤ b) : RS w base q b s' es v1 v2 Y := by
  have f1 : v1.ownBlock ≠ some b := rows_far h.own1 h.rd (fun cs e => by simp at e)
  have f2 : v2.ownBlock ≠ some b := rows_far h.own2 h.rd (fun cs e => by simp at e)
  exact ⟨br_step h.hq h.rd hs, rows_keep h.own1 (fun k hk => hs.kept.block k (h.own1.lt k hk).2 (fun e => f1 (by rw [← e]; exact hk)) (by simp)), rows_keep h.own2 (fun k hk => hs.kept.block k (h.own2.lt k hk).2 (fun e => f2 (by rw [← e]; exact hk)) (by simp)), hr, h.bel.trans (hs.below hB hb (fun k hk => by cases hk))⟩
theorem RS.below {w X Y : World} {base q b : Nat} {s : ByteArray} {es : List En} {v1 v2 : Value} (h : RS w base q b s es v1 v2 X) (hB : base ≤ X.heap.size) (hb : Below X.heap.size X Y) : RS w base q b s es v1 v2 Y :=
  ⟨(hb.block _ (lt_of_block h.hq)).trans h.hq, rows_keep h.own1 (fun k hk => hb.block _ (h.own1.lt k hk).2), rows_keep h.own2 (fun k hk => hb.block _ (h.own2.lt k hk).2), h.rd.below hb h.rd.lt, h.bel.trans (hb.mono hB)⟩
theorem RS.size {w X : World} {base q b : Nat} {s : ByteArray} {es : List En} {v1 v2 : Value} (h : RS w base q b s es v1 v2 X) : w.heap.size ≤ X.heap.size := h.bel.size

/-- What is answered: the versions, or that there are none. -/
def DecAns (w : World) (l : List UInt8) (e : Ending) (w' : World) : Prop :=
  (∃ es v, IsBlock l es ∧ e = .returned (.tuple #[v, .int .i64 0]) ∧ w'.ownsRow w.heap.size 25 4 v es.length (enShape.vals es) ∧ Below w.heap.size w w') ∨
  ((∀ es, ¬ IsBlock l es) ∧ e = .returned (.tuple #[.slice none 0 0, .int .i64 1]) ∧ Below w.heap.size w w')
theorem DecAns.bad {w w' : World} {l : List UInt8} (h : ∀ es, ¬ IsBlock l es) (hb : Below w.heap.size w w') : DecAns w l (.returned (.tuple #[.slice none 0 0, .int .i64 1])) w' := .inr ⟨h, rfl, hb⟩
theorem DecAns.good {w w' : World} {l : List UInt8} {es : List En} {v : Value} (h : IsBlock l es) (ho : w'.ownsRow w.heap.size 25 4 v es.length (enShape.vals es)) (hb : Below w.heap.size w w') : DecAns w l (.returned (.tuple #[v, .int .i64 0])) w' := .inl ⟨es, v, h, rfl, ho, hb⟩
end Go.Proofs.YtedjohkdfchocaaGreat.Bk
