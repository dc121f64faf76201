/-
  The document's answer for layer 8: what can't be a block, and how far Decode's loop has come.
-/
import Derived.Test.YtjiajnmpdlaidaaBlockRefRead
namespace Go.Proofs.Ytjiajnmpdlaidaa.Bk
open Go.RowKit Cm Mm
open Pk (RfAt Step enc enc_len fold text fold_lt)
set_option linter.unusedVariables false

/-! ### What can't be a block -/
section
variable {l : List UInt8} {n : Nat} {out : List En} {s s1 s2 s3 s4 : List UInt8} {m d : Nat} {R : ByteArray} {q : Int}
theorem led_piece (h : Led l n out s) (hn : out.length < n) {es' : List En} (hb : IsBlock l es') : ∃ (p : Pc) (t : List UInt8), p.Ok ∧ p.share ≤ (lastKey [] out).length ∧ s = enc p.share ++ (text (bs p.rest) ++ (enc (fold p.seq) ++ (mark p.dead (bs p.val) ++ t))) := by
  obtain ⟨e, more, _, h3, h4, _⟩ := h.more hn hb
  refine ⟨pc (lastKey [] out) e, body (bs e.key) more, pc_ok h4, (share_le _ _).1, ?_⟩
  rw [h3]
  unfold Pc.bytes
  simp only [List.append_assoc]
theorem no1 (h : Led l n out s) (hn : out.length < n) (hno : ∀ x t, x < 18446744073709551616 → s ≠ enc x ++ t) (es' : List En) : ¬ IsBlock l es' := fun hb => by
  obtain ⟨p, t, hp, _, e⟩ := led_piece h hn hb
  exact hno _ _ (by have := hp.share; omega) e
theorem cut1 (e1 : s = enc m ++ s1) (hm : m < 18446744073709551616) {p : Pc} {t : List UInt8} (hp : p.Ok) (e : s = enc p.share ++ t) : m = p.share ∧ s1 = t := by
  rw [e1] at e
  exact enc_free hm (by have := hp.share; omega) e
theorem no2 (h : Led l n out s) (hn : out.length < n) (e1 : s = enc m ++ s1) (hm : m < 18446744073709551616) (hno : ∀ x t, OkText x → s1 ≠ text (bs x) ++ t) (es' : List En) : ¬ IsBlock l es' := fun hb => by
  obtain ⟨p, t, hp, _, e⟩ := led_piece h hn hb
  obtain ⟨_, e⟩ := cut1 e1 hm hp e
  exact hno _ _ hp.rest e
theorem cut2 (e2 : s1 = text (bs R) ++ s2) (hR : OkText R) {p : Pc} {t : List UInt8} (hp : p.Ok) (e : s1 = text (bs p.rest) ++ t) : R = p.rest ∧ s2 = t := by
  rw [e2] at e
  obtain ⟨q1, q2⟩ := text_free (by rw [bs_len]; unfold OkText at hR; omega) (by rw [bs_len]; have := hp.rest; omega) e
  exact ⟨bs_inj q1, q2⟩
theorem no3 (h : Led l n out s) (hn : out.length < n) (e1 : s = enc m ++ s1) (hm : m < 18446744073709551616) (e2 : s1 = text (bs R) ++ s2) (hR : OkText R) (hno : ∀ x t, OkInt x → s2 ≠ enc (fold x) ++ t) (es' : List En) : ¬ IsBlock l es' := fun hb => by
  obtain ⟨p, t, hp, _, e⟩ := led_piece h hn hb
  obtain ⟨_, e⟩ := cut1 e1 hm hp e
  obtain ⟨_, e⟩ := cut2 e2 hR hp e
  exact hno _ _ ⟨hp.lo, hp.hi⟩ e
theorem cut3 (e3 : s2 = enc (fold q) ++ s3) (hq : OkInt q) {p : Pc} {t : List UInt8} (hp : p.Ok) (e : s2 = enc (fold p.seq) ++ t) : s3 = t := by
  rw [e3] at e
  exact (enc_free (fold_lt hq.1 hq.2) (fold_lt hp.lo hp.hi) e).2
theorem mark_num {p : Pc} (hp : p.Ok) (t : List UInt8) : ∃ x u, x ≤ 1 ∧ mark p.dead (bs p.val) ++ t = enc x ++ u ∧ (x = 0 → u = text (bs p.val) ++ t) := by
  cases hd : p.dead with
  | false => exact ⟨0, _, by omega, (enc_zero (bs p.val) t).symm, fun _ => rfl⟩
  | true =>
    have hv := hp.dead hd
    rw [hv]
    exact ⟨1, t, by omega, (enc_one t).symm, fun h => by omega⟩
theorem no4 (h : Led l n out s) (hn : out.length < n) (e1 : s = enc m ++ s1) (hm : m < 18446744073709551616) (e2 : s1 = text (bs R) ++ s2) (hR : OkText R) (e3 : s2 = enc (fold q) ++ s3) (hq : OkInt q) (hno : ∀ x t, x < 18446744073709551616 → s3 ≠ enc x ++ t) (es' : List En) : ¬ IsBlock l es' := fun hb => by
  obtain ⟨p, t, hp, _, e⟩ := led_piece h hn hb
  obtain ⟨_, e⟩ := cut1 e1 hm hp e
  obtain ⟨_, e⟩ := cut2 e2 hR hp e
  have e := cut3 e3 hq hp e
  obtain ⟨x, u, hx, e5, _⟩ := mark_num hp t
  rw [e5] at e
  exact hno x u (by omega) e
theorem no5 (h : Led l n out s) (hn : out.length < n) (e1 : s = enc m ++ s1) (hm : m < 18446744073709551616) (hs : (lastKey [] out).length < m) (es' : List En) : ¬ IsBlock l es' := fun hb => by
  obtain ⟨p, t, hp, hl, e⟩ := led_piece h hn hb
  obtain ⟨e, _⟩ := cut1 e1 hm hp e
  omega
theorem no6 (h : Led l n out s) (hn : out.length < n) (e1 : s = enc m ++ s1) (hm : m < 18446744073709551616) (e2 : s1 = text (bs R) ++ s2) (hR : OkText R) (e3 : s2 = enc (fold q) ++ s3) (hq : OkInt q) (e4 : s3 = enc d ++ s4) (hd : d < 18446744073709551616) (h2 : 1 < d) (es' : List En) : ¬ IsBlock l es' := fun hb => by
  obtain ⟨p, t, hp, _, e⟩ := led_piece h hn hb
  obtain ⟨_, e⟩ := cut1 e1 hm hp e
  obtain ⟨_, e⟩ := cut2 e2 hR hp e
  have e := cut3 e3 hq hp e
  obtain ⟨x, u, hx, e5, _⟩ := mark_num hp t
  rw [e5, e4] at e
  have := (enc_free hd (by omega) e).1
  omega
theorem no7 (h : Led l n out s) (hn : out.length < n) (e1 : s = enc m ++ s1) (hm : m < 18446744073709551616) (e2 : s1 = text (bs R) ++ s2) (hR : OkText R) (e3 : s2 = enc (fold q) ++ s3) (hq : OkInt q) (e4 : s3 = enc 0 ++ s4) (hno : ∀ x t, OkText x → s4 ≠ text (bs x) ++ t) (es' : List En) : ¬ IsBlock l es' := fun hb => by
  obtain ⟨p, t, hp, _, e⟩ := led_piece h hn hb
  obtain ⟨_, e⟩ := cut1 e1 hm hp e
  obtain ⟨_, e⟩ := cut2 e2 hR hp e
  have e := cut3 e3 hq hp e
  obtain ⟨x, u, hx, e5, e6⟩ := mark_num hp t
  rw [e5, e4] at e
  obtain ⟨e7, e8⟩ := enc_free (by omega) (by omega) e
  rw [e6 e7.symm] at e8
  exact hno _ _ hp.val e8
theorem led_dead (h : Led l n out s) (hn : out.length < n) (e1 : s = enc m ++ s1) (e2 : s1 = text (bs R) ++ s2) (hR : OkText R) (e3 : s2 = enc (fold q) ++ s3) (hq : OkInt q) (e4 : s3 = enc 1 ++ s4) (hm : m < 9223372036854775808) : Led l n (out ++ [glue (lastKey [] out) ⟨m, R, q, true, ⟨#[]⟩⟩]) s4 := by
  refine Led.next (p := ⟨m, R, q, true, ⟨#[]⟩⟩) ?_ hn ⟨hq.1, hq.2, hm, hR, (show (0 : Nat) < 9223372036854775808 by omega), fun _ => rfl⟩
  have : s = (⟨m, R, q, true, ⟨#[]⟩⟩ : Pc).bytes ++ s4 := by
    rw [e1, e2, e3, e4, enc_one]
    unfold Pc.bytes
    simp only [List.append_assoc]
    rfl
  rw [← this]; exact h
theorem led_live {V : ByteArray} {s5 : List UInt8} (h : Led l n out s) (hn : out.length < n) (e1 : s = enc m ++ s1) (e2 : s1 = text (bs R) ++ s2) (hR : OkText R) (e3 : s2 = enc (fold q) ++ s3) (hq : OkInt q) (e4 : s3 = enc 0 ++ s4) (e5 : s4 = text (bs V) ++ s5) (hV : OkText V) (hm : m < 9223372036854775808) : Led l n (out ++ [glue (lastKey [] out) ⟨m, R, q, false, V⟩]) s5 := by
  refine Led.next (p := ⟨m, R, q, false, V⟩) ?_ hn ⟨hq.1, hq.2, hm, hR, hV, fun h => by cases h⟩
  have : s = (⟨m, R, q, false, V⟩ : Pc).bytes ++ s5 := by
    rw [e1, e2, e3, e4, e5, enc_zero]
    unfold Pc.bytes
    simp only [List.append_assoc]
  rw [← this]; exact h
theorem lens (e1 : s = enc m ++ s1) (e2 : s1 = text (bs R) ++ s2) (e3 : s2 = enc (fold q) ++ s3) (e4 : s3 = enc d ++ s4) : 3 + R.size + s4.length ≤ s.length := by
  have h1 := (enc_len m).1
  have h2 := (enc_len (fold q)).1
  have h3 := (enc_len d).1
  have h4 := (enc_len (bs R).length).1
  rw [e1, e2, e3, e4]
  unfold text
  simp only [List.length_append, bs_len] at *
  omega
end

/-- How far the loop has come. -/
def Came (T : ByteArray) (n k b : Nat) (out : List En) (ev : Int) (X : World) : Prop :=
  (ev = 0 ∧ ∃ s, RfAt X b s ∧ out.length = k ∧ Led (bs T) n out (bs s) ∧ out.length + s.size ≤ T.size ∧ (lastKey [] out).length + s.size ≤ T.size) ∨ (ev = 1 ∧ ∀ es, ¬ IsBlock (bs T) es)
theorem glue_str (L R : ByteArray) (m : Nat) (q : Int) (d : Bool) (V : ByteArray) : (⟨L.extract 0 m ++ R, q, d, V⟩ : En) = glue (bs L) ⟨m, R, q, d, V⟩ := by
  unfold glue
  congr 1
  apply bs_inj
  rw [bs_mk]
  unfold bs
  rw [Go.Joins.data_append, Lib.extract_data]
  simp
end Go.Proofs.Ytjiajnmpdlaidaa.Bk
