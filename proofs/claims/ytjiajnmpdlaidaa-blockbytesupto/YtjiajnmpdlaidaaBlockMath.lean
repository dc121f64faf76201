/-
  Layer 8, plainly: a block's bytes as a function of its versions; what reads a piece of it; no block is a beginning of another.
-/
import Derived.Test.YtjiajnmpdlaidaaPackMath
import Derived.Test.YtjiajnmpdlaidaaMemMath
namespace Go.Proofs.Ytjiajnmpdlaidaa.Bk
open Mm
open Pk (enc enc_len dnum dnum_enc dnum_some fold unfold unfold_fold fold_unfold fold_lt text dtext)
set_option linter.unusedVariables false

def bs (b : ByteArray) : List UInt8 := b.data.toList
theorem bs_inj {a b : ByteArray} (h : bs a = bs b) : a = b := by
  unfold bs at h; cases a; cases b; simp_all
theorem bs_len (b : ByteArray) : (bs b).length = b.size := by unfold bs; rw [Lib.size_eq]
theorem bs_mk (l : List UInt8) : bs ⟨l.toArray⟩ = l := by simp [bs]
theorem bs_toList (b : ByteArray) : b.toList = bs b := by unfold bs; rw [ByteArray.toList_eq]

/-! ### What two texts share -/
def share : List UInt8 → List UInt8 → Nat
  | a :: x, b :: y => if a = b then share x y + 1 else 0
  | _, _ => 0
theorem share_le : ∀ (x y : List UInt8), share x y ≤ x.length ∧ share x y ≤ y.length
  | [], y => by simp [share]
  | a :: x, [] => by simp [share]
  | a :: x, b :: y => by
    have := share_le x y
    simp only [share]
    split <;> simp <;> omega
theorem share_take : ∀ (x y : List UInt8), x.take (share x y) = y.take (share x y)
  | [], y => by simp [share]
  | a :: x, [] => by simp [share]
  | a :: x, b :: y => by
    simp only [share]
    split
    · rename_i h; subst h; simp [share_take x y]
    · simp
theorem share_is : ∀ {x y : List UInt8} {k : Nat}, k ≤ x.length → k ≤ y.length → (∀ j, j < k → x[j]? = y[j]?) → (k = x.length ∨ k = y.length ∨ x[k]? ≠ y[k]?) → share x y = k
  | [], y, k, h1, _, _, _ => by simp at h1; subst h1; simp [share]
  | a :: x, [], k, _, h2, _, _ => by simp at h2; subst h2; simp [share]
  | a :: x, b :: y, 0, _, _, _, hs => by
    simp at hs
    simp [share, hs]
  | a :: x, b :: y, k + 1, h1, h2, h, hs => by
    have h0 := h 0 (by omega)
    simp at h0
    have := share_is (x := x) (y := y) (k := k) (by simpa using h1) (by simpa using h2) (fun j hj => by simpa using h (j + 1) (by omega)) (by simpa using hs)
    simp [share, h0, this]
theorem share_nil (y : List UInt8) : share [] y = 0 := rfl

/-! ### A block -/
def mark (d : Bool) (v : List UInt8) : List UInt8 := if d then [1] else 0 :: text v
/-- A version as it stands in a block: how much of the key before it shares, the rest of its key. -/
structure Pc where
  share : Nat
  rest : ByteArray
  seq : Int
  dead : Bool
  val : ByteArray
def Pc.zero : Pc := ⟨0, ⟨#[]⟩, 0, false, ⟨#[]⟩⟩
def Pc.bytes (p : Pc) : List UInt8 := enc p.share ++ (text (bs p.rest) ++ (enc (fold p.seq) ++ mark p.dead (bs p.val)))
structure Pc.Ok (p : Pc) : Prop where
  lo : -9223372036854775808 ≤ p.seq
  hi : p.seq ≤ 9223372036854775807
  share : p.share < 9223372036854775808
  rest : p.rest.size < 9223372036854775808
  val : p.val.size < 9223372036854775808
  dead : p.dead = true → p.val = ⟨#[]⟩
def pc (last : List UInt8) (e : En) : Pc := ⟨share last (bs e.key), ⟨((bs e.key).drop (share last (bs e.key))).toArray⟩, e.seq, e.dead, e.val⟩
/-- The version that a piece stands for. -/
def glue (last : List UInt8) (p : Pc) : En := ⟨⟨(last.take p.share ++ bs p.rest).toArray⟩, p.seq, p.dead, p.val⟩
theorem glue_pc (last : List UInt8) (e : En) : glue last (pc last e) = e := by
  unfold glue pc
  simp only [bs_mk]
  have : last.take (share last (bs e.key)) ++ (bs e.key).drop (share last (bs e.key)) = bs e.key := by rw [share_take, List.take_append_drop]
  rw [this]
  cases e with
  | mk k s d v =>
    congr 1
def piece (last : List UInt8) (e : En) : List UInt8 := (pc last e).bytes
def body : List UInt8 → List En → List UInt8
  | _, [] => []
  | last, e :: r => piece last e ++ body (bs e.key) r
def lastKey : List UInt8 → List En → List UInt8
  | last, [] => last
  | _, e :: r => lastKey (bs e.key) r
def block (es : List En) : List UInt8 := enc es.length ++ body [] es
def pcs : List UInt8 → List En → List Pc
  | _, [] => []
  | last, e :: r => pc last e :: pcs (bs e.key) r
theorem pcs_len (last : List UInt8) (es : List En) : (pcs last es).length = es.length := by
  induction es generalizing last with
  | nil => rfl
  | cons e r ih => simp [pcs, ih]
theorem body_append (last : List UInt8) (a b : List En) : body last (a ++ b) = body last a ++ body (lastKey last a) b := by
  induction a generalizing last with
  | nil => rfl
  | cons e r ih => simp only [List.cons_append, body, lastKey, ih, List.append_assoc]
theorem body_snoc (last : List UInt8) (a : List En) (e : En) : body last (a ++ [e]) = body last a ++ piece (lastKey last a) e := by
  rw [body_append]; simp [body]
theorem lastKey_snoc (last : List UInt8) (a : List En) (e : En) : lastKey last (a ++ [e]) = bs e.key := by
  induction a generalizing last with
  | nil => rfl
  | cons x r ih => simp only [List.cons_append, lastKey, ih]
theorem pcs_snoc (last : List UInt8) (a : List En) (e : En) : pcs last (a ++ [e]) = pcs last a ++ [pc (lastKey last a) e] := by
  induction a generalizing last with
  | nil => rfl
  | cons x r ih => simp only [List.cons_append, pcs, lastKey, ih]
theorem lastKey_last {es : List En} (h : 0 < es.length) (last : List UInt8) : lastKey last es = bs (es.getD (es.length - 1) En.zero).key := by
  induction es generalizing last with
  | nil => simp at h
  | cons e r ih =>
    cases r with
    | nil => simp [lastKey]
    | cons x r =>
      have := ih (by simp) (bs e.key)
      simp only [lastKey, List.length_cons] at this ⊢
      rw [this]
      simp

/-! ### The order -/
theorem getD_front {a b : List En} {i : Nat} (h : i < a.length) : (a ++ b).getD i En.zero = a.getD i En.zero := by simp [List.getElem?_append_left h]
def sound (e : En) : Bool := !e.dead || decide (e.val.size = 0)
theorem sound_iff (e : En) : sound e = true ↔ (e.dead = true → e.val = ⟨#[]⟩) := by
  unfold sound
  have hv : e.val.size = 0 ↔ e.val = ⟨#[]⟩ := by
    constructor
    · intro h
      apply bs_inj
      have := bs_len e.val
      rw [h] at this
      rw [List.eq_nil_of_length_eq_zero this]; rfl
    · intro h; rw [h]; rfl
  cases e.dead <;> simp [hv]
def rises : List En → Bool
  | a :: b :: r => less a b && rises (b :: r)
  | _ => true
theorem rises_iff : ∀ (es : List En), rises es = true ↔ ∀ k, k + 1 < es.length → less (es.getD k En.zero) (es.getD (k + 1) En.zero) = true
  | [] => by simp [rises]
  | [a] => by simp [rises]
  | a :: b :: r => by
    simp only [rises, Bool.and_eq_true, rises_iff (b :: r)]
    constructor
    · rintro ⟨h1, h2⟩ k hk
      cases k with
      | zero => simpa using h1
      | succ k => simpa using h2 k (by simpa using hk)
    · intro h
      exact ⟨by simpa using h 0 (by simp), fun k hk => by simpa using h (k + 1) (by simpa using hk)⟩
def right (es : List En) : Bool := es.all sound && rises es
theorem all_iff (es : List En) : es.all sound = true ↔ ∀ k, k < es.length → sound (es.getD k En.zero) = true := by
  rw [List.all_eq_true]
  constructor
  · intro h k hk
    rw [Cm.getD_lt _ _ _ hk]
    exact h _ (List.getElem_mem hk)
  · intro h e he
    obtain ⟨k, hk, rfl⟩ := List.mem_iff_getElem.1 he
    have := h k hk
    rwa [Cm.getD_lt _ _ _ hk] at this
/-- The versions up to the k-th are right. -/
def RightTo (es : List En) (k : Nat) : Prop := ∀ i, i < k → sound (es.getD i En.zero) = true ∧ (0 < i → less (es.getD (i - 1) En.zero) (es.getD i En.zero) = true)
theorem right_iff (es : List En) : right es = true ↔ RightTo es es.length := by
  unfold right RightTo
  rw [Bool.and_eq_true, all_iff, rises_iff]
  constructor
  · rintro ⟨h1, h2⟩ i hi
    refine ⟨h1 i hi, fun h0 => ?_⟩
    have := h2 (i - 1) (by omega)
    rwa [show i - 1 + 1 = i by omega] at this
  · intro h
    exact ⟨fun k hk => (h k hk).1, fun k hk => by simpa using (h (k + 1) hk).2 (by omega)⟩
theorem RightTo.next {es : List En} {k : Nat} (h : RightTo es k) (h1 : sound (es.getD k En.zero) = true) (h2 : 0 < k → less (es.getD (k - 1) En.zero) (es.getD k En.zero) = true) : RightTo es (k + 1) := by
  intro i hi
  rcases Nat.lt_or_ge i k with h3 | h3
  · exact h i h3
  · obtain rfl : i = k := by omega
    exact ⟨h1, h2⟩
theorem not_right {es : List En} {k : Nat} (hk : k < es.length) (h : ¬ (sound (es.getD k En.zero) = true ∧ (0 < k → less (es.getD (k - 1) En.zero) (es.getD k En.zero) = true))) : right es = false := by
  cases hr : right es
  · rfl
  · exact absurd ((right_iff es).1 hr k hk) h
theorem right_append {a b : List En} (h : right (a ++ b) = true) : right a = true := by
  rw [right_iff] at h ⊢
  intro i hi
  have := h i (by simp; omega)
  rw [getD_front hi] at this
  refine ⟨this.1, fun h0 => ?_⟩
  have h2 := this.2 h0
  rwa [getD_front (by omega)] at h2
theorem right_snoc {a : List En} {e : En} (h : right a = true) (h1 : sound e = true) (h2 : 0 < a.length → less (a.getD (a.length - 1) En.zero) e = true) : right (a ++ [e]) = true := by
  rw [right_iff] at h ⊢
  intro i hi
  rw [List.length_append, List.length_singleton] at hi
  rcases Nat.lt_or_ge i a.length with h3 | h3
  · have := h i h3
    rw [getD_front h3]
    refine ⟨this.1, fun h0 => ?_⟩
    rw [getD_front (by omega)]
    exact this.2 h0
  · obtain rfl : i = a.length := by omega
    have e1 : (a ++ [e]).getD a.length En.zero = e := by simp
    rw [e1]
    refine ⟨h1, fun h0 => ?_⟩
    rw [getD_front (by omega)]
    exact h2 h0

/-! ### No bytes are those of two -/
theorem enc_free {a b : Nat} {t u : List UInt8} (ha : a < 18446744073709551616) (hb : b < 18446744073709551616) (h : enc a ++ t = enc b ++ u) : a = b ∧ t = u := by
  have h1 := dnum_enc a t ha
  rw [h, dnum_enc b u hb] at h1
  simp at h1
  obtain ⟨rfl, _⟩ := h1
  exact ⟨rfl, List.append_cancel_left h⟩
theorem text_free {x y t u : List UInt8} (hx : x.length < 18446744073709551616) (hy : y.length < 18446744073709551616) (h : text x ++ t = text y ++ u) : x = y ∧ t = u := by
  unfold text at h
  rw [List.append_assoc, List.append_assoc] at h
  obtain ⟨h1, h2⟩ := enc_free hx hy h
  exact List.append_inj h2 h1
theorem mark_free {d d' : Bool} {v v' t u : List UInt8} (hv : v.length < 18446744073709551616) (hv' : v'.length < 18446744073709551616) (hd : d = true → v = []) (hd' : d' = true → v' = []) (h : mark d v ++ t = mark d' v' ++ u) : d = d' ∧ v = v' ∧ t = u := by
  unfold mark at h
  cases d <;> cases d' <;> simp at h
  · obtain ⟨h1, h2⟩ := text_free hv hv' h
    exact ⟨rfl, h1, h2⟩
  · exact ⟨rfl, by rw [hd rfl, hd' rfl], h⟩
theorem Pc.free {p q : Pc} {t u : List UInt8} (hp : p.Ok) (hq : q.Ok) (h : p.bytes ++ t = q.bytes ++ u) : p = q ∧ t = u := by
  unfold Pc.bytes at h
  simp only [List.append_assoc] at h
  have hp3 := hp.share
  have hp4 := hp.rest
  have hp5 := hp.val
  have hq3 := hq.share
  have hq4 := hq.rest
  have hq5 := hq.val
  obtain ⟨h1, h⟩ := enc_free (by omega) (by omega) h
  obtain ⟨h2, h⟩ := text_free (by rw [bs_len]; omega) (by rw [bs_len]; omega) h
  obtain ⟨h3, h⟩ := enc_free (fold_lt hp.lo hp.hi) (fold_lt hq.lo hq.hi) h
  obtain ⟨h4, h5, h⟩ := mark_free (by rw [bs_len]; omega) (by rw [bs_len]; omega) (fun e => by rw [hp.dead e]; rfl) (fun e => by rw [hq.dead e]; rfl) h
  have h3' : p.seq = q.seq := by rw [← unfold_fold p.seq, h3, unfold_fold]
  refine ⟨?_, h⟩
  cases p; cases q
  simp only at h1 h2 h3' h4 h5
  simp only [Pc.mk.injEq]
  exact ⟨h1, bs_inj h2, h3', h4, bs_inj h5⟩

/-- A version of a right list, of a size that memory holds. -/
structure Fit (e : En) : Prop where
  ok : e.ok
  key : e.key.size < 9223372036854775808
  val : e.val.size < 9223372036854775808
  sound : sound e = true
theorem pc_ok {last : List UInt8} {e : En} (h : Fit e) : (pc last e).Ok := by
  have h1 := share_le last (bs e.key)
  rw [bs_len] at h1
  have h2 := h.key
  refine ⟨h.ok.1, h.ok.2, ?_, ?_, h.val, (sound_iff e).1 h.sound⟩
  · show share last (bs e.key) < _; omega
  · rw [← bs_len]
    show (bs ⟨((bs e.key).drop (share last (bs e.key))).toArray⟩).length < _
    rw [bs_mk, List.length_drop, bs_len]; omega
theorem piece_free {last : List UInt8} {e e' : En} {t u : List UInt8} (h : Fit e) (h' : Fit e') (he : piece last e ++ t = piece last e' ++ u) : e = e' ∧ t = u := by
  obtain ⟨h1, h2⟩ := Pc.free (pc_ok h) (pc_ok h') he
  exact ⟨by rw [← glue_pc last e, h1, glue_pc], h2⟩
theorem body_free {last : List UInt8} {a b : List En} {t u : List UInt8} (ha : ∀ e ∈ a, Fit e) (hb : ∀ e ∈ b, Fit e) (hl : a.length = b.length) (h : body last a ++ t = body last b ++ u) : a = b ∧ t = u := by
  induction a generalizing b last with
  | nil =>
    cases b with
    | nil => exact ⟨rfl, by simpa [body] using h⟩
    | cons x b => simp at hl
  | cons e a ih =>
    cases b with
    | nil => simp at hl
    | cons x b =>
      simp only [body, List.append_assoc] at h
      obtain ⟨rfl, h2⟩ := piece_free (ha e (by simp)) (hb x (by simp)) h
      obtain ⟨rfl, h3⟩ := ih (fun y hy => ha y (by simp [hy])) (fun y hy => hb y (by simp [hy])) (by simpa using hl) h2
      exact ⟨rfl, h3⟩

/-- The text is the versions' block. -/
structure IsBlock (l : List UInt8) (es : List En) : Prop where
  right : right es = true
  fit : ∀ e ∈ es, Fit e
  few : es.length < 9223372036854775808
  eq : l = block es
theorem block_free {l m : List UInt8} {a b : List En} {t u : List UInt8} (ha : IsBlock l a) (hb : IsBlock m b) (h : l ++ t = m ++ u) : a = b ∧ t = u := by
  have h1 := ha.few
  have h2 := hb.few
  rw [ha.eq, hb.eq] at h
  unfold block at h
  rw [List.append_assoc, List.append_assoc] at h
  obtain ⟨h3, h4⟩ := enc_free (by omega) (by omega) h
  exact body_free ha.fit hb.fit h3 h4
theorem IsBlock.unique {l : List UInt8} {a b : List En} (ha : IsBlock l a) (hb : IsBlock l b) : a = b := (block_free (t := []) (u := []) ha hb rfl).1
theorem IsBlock.number {l : List UInt8} {es : List En} (h : IsBlock l es) : dnum l = some (es.length, (enc es.length).length) := by
  have := h.few
  rw [h.eq]; exact dnum_enc _ _ (by omega)

/-- Whatever versions have this block begin with these, and what is left is the rest of them. -/
def Led (l : List UInt8) (n : Nat) (out : List En) (rest : List UInt8) : Prop :=
  ∀ es, IsBlock l es → es.length = n ∧ ∃ more, es = out ++ more ∧ rest = body (lastKey [] out) more
theorem Led.start {l : List UInt8} {n k : Nat} (h : dnum l = some (n, k)) : Led l n [] (l.drop k) := by
  intro es hes
  have := hes.number
  rw [h] at this
  simp at this
  obtain ⟨rfl, rfl⟩ := this
  refine ⟨rfl, es, rfl, ?_⟩
  rw [hes.eq]
  unfold block
  rw [List.drop_left]; rfl
theorem Led.none {l : List UInt8} (h : dnum l = none) (es : List En) : ¬ IsBlock l es := fun hes => by
  rw [hes.number] at h; cases h
/-- There is one more, if there are versions at all. -/
theorem Led.more {l : List UInt8} {n : Nat} {out : List En} {rest : List UInt8} (h : Led l n out rest) (hn : out.length < n) {es : List En} (hes : IsBlock l es) :
    ∃ e more, es = out ++ e :: more ∧ rest = (pc (lastKey [] out) e).bytes ++ body (bs e.key) more ∧ Fit e ∧ (0 < out.length → less (out.getD (out.length - 1) En.zero) e = true) := by
  obtain ⟨h1, more, rfl, h3⟩ := h es hes
  cases more with
  | nil => simp at h1; omega
  | cons e more =>
    refine ⟨e, more, rfl, h3, hes.fit e (by simp), fun h0 => ?_⟩
    have := ((right_iff _).1 hes.right out.length (by simp)).2 h0
    rw [getD_front (by omega)] at this
    have e1 : (out ++ e :: more).getD out.length En.zero = e := by simp
    rwa [e1] at this
theorem Led.next {l : List UInt8} {n : Nat} {out : List En} {t : List UInt8} {p : Pc} (h : Led l n out (p.bytes ++ t)) (hn : out.length < n) (hp : p.Ok) : Led l n (out ++ [glue (lastKey [] out) p]) t := by
  intro es hes
  obtain ⟨e, more, rfl, h3, h4, _⟩ := h.more hn hes
  obtain ⟨rfl, rfl⟩ := Pc.free hp (pc_ok h4) h3
  refine ⟨(h _ hes).1, more, ?_, ?_⟩
  · rw [glue_pc]; simp
  · rw [lastKey_snoc, glue_pc]
theorem Led.stop {l : List UInt8} {n : Nat} {out : List En} {rest : List UInt8} (h : Led l n out rest) (hn : out.length = n) {es : List En} (hes : IsBlock l es) : es = out ∧ rest = [] := by
  obtain ⟨h1, more, rfl, h3⟩ := h es hes
  have : more = [] := by
    rw [List.length_append] at h1
    exact List.eq_nil_of_length_eq_zero (by omega)
  subst this
  exact ⟨by simp, h3⟩

/-! ### A piece that fits behind the key before -/
/-- As the program asks it: of the key before and the piece. -/
def fitsB (key : List UInt8) (seq : Int) (p : Pc) : Bool :=
  match bs p.rest, key.drop p.share with
  | [], [] => decide (p.seq < seq)
  | [], _ :: _ => false
  | _ :: _, [] => true
  | c :: _, d :: _ => decide (d < c)
theorem lt_bs (a b : ByteArray) : lt a b = true ↔ bs a < bs b := by rw [lt_iff, bs_toList, bs_toList]
theorem share_pre (x y z : List UInt8) : share (x ++ y) (x ++ z) = x.length + share y z := by
  induction x with
  | nil => simp
  | cons c x ih => simp [share, ih]; omega
theorem lt_pre (x y z : List UInt8) : x ++ y < x ++ z ↔ y < z := by
  induction x with
  | nil => simp
  | cons c x ih => simp [List.cons_append, ih]
theorem fits_iff {e : En} {p : Pc} (hs : p.share ≤ (bs e.key).length) :
    fitsB (bs e.key) e.seq p = true ↔ (pc (bs e.key) (glue (bs e.key) p) = p ∧ less e (glue (bs e.key) p) = true) := by
  obtain ⟨A, hA⟩ : ∃ A, A = (bs e.key).take p.share := ⟨_, rfl⟩
  obtain ⟨O, hO⟩ : ∃ O, O = (bs e.key).drop p.share := ⟨_, rfl⟩
  have hsplit : bs e.key = A ++ O := by rw [hA, hO, List.take_append_drop]
  have htl : A.length = p.share := by rw [hA]; simp; omega
  have hk : bs (glue (bs e.key) p).key = A ++ bs p.rest := by unfold glue; rw [bs_mk, hA]
  have hpc : pc (bs e.key) (glue (bs e.key) p) = p ↔ share O (bs p.rest) = 0 := by
    have hsh : share (bs e.key) (bs (glue (bs e.key) p).key) = p.share + share O (bs p.rest) := by rw [hk, hsplit, share_pre, htl]
    constructor
    · intro h
      have : share (bs e.key) (bs (glue (bs e.key) p).key) = p.share := congrArg Pc.share h
      omega
    · intro h
      rw [h, Nat.add_zero] at hsh
      have hd : (A ++ bs p.rest).drop p.share = bs p.rest := by rw [← htl, List.drop_left]
      unfold pc
      rw [hsh, hk, hd]
      cases p
      unfold glue
      simp only [Pc.mk.injEq, true_and, and_true]
      apply bs_inj; rw [bs_mk]
  have heq : e.key = (glue (bs e.key) p).key ↔ O = bs p.rest := by
    constructor
    · intro h
      have h2 := congrArg bs h
      rw [hk, hsplit] at h2
      exact List.append_cancel_left h2
    · intro h
      apply bs_inj
      rw [hk, hsplit, h]
  have hlt : lt e.key (glue (bs e.key) p).key = true ↔ O < bs p.rest := by rw [lt_bs, hk, hsplit, lt_pre]
  have hles : less e (glue (bs e.key) p) = true ↔ (O = bs p.rest ∧ p.seq < e.seq) ∨ (O ≠ bs p.rest ∧ O < bs p.rest) := by
    have : less e (glue (bs e.key) p) = if e.key = (glue (bs e.key) p).key then decide (p.seq < e.seq) else lt e.key (glue (bs e.key) p).key := rfl
    rw [this]
    by_cases h : e.key = (glue (bs e.key) p).key
    · rw [if_pos h]
      simp [heq.1 h]
    · rw [if_neg h, hlt]
      have h2 : ¬ O = bs p.rest := fun q => h (heq.2 q)
      simp [h2]
  rw [hpc, hles]
  unfold fitsB
  rw [← hO]
  cases hR : bs p.rest with
  | nil =>
    cases O with
    | nil => simp [share]
    | cons d O => simp
  | cons c R =>
    cases O with
    | nil => simp [share]
    | cons d O =>
      simp only [decide_eq_true_eq, share, List.cons_lt_cons_iff]
      constructor
      · intro h
        have hne : ¬ d = c := fun q => by subst q; exact absurd h (UInt8.lt_irrefl _)
        exact ⟨by rw [if_neg hne], .inr ⟨fun q => by simp at q; exact hne q.1, .inl h⟩⟩
      · rintro ⟨h1, h2⟩
        have hne : ¬ d = c := fun q => by rw [if_pos q] at h1; omega
        rcases h2 with ⟨h2, _⟩ | ⟨_, h2 | h2⟩
        · simp at h2; exact absurd h2.1 hne
        · exact h2
        · exact absurd h2.1 hne

/-! ### How many bytes -/
theorem text_len (v : List UInt8) : (text v).length ≤ v.length + 10 ∧ 1 ≤ (text v).length := by
  have := enc_len v.length
  unfold text
  rw [List.length_append]; omega
theorem mark_len (d : Bool) (v : List UInt8) : (mark d v).length ≤ v.length + 11 ∧ 1 ≤ (mark d v).length := by
  have := text_len v
  unfold mark
  split <;> simp; omega
theorem Pc.len (p : Pc) : p.bytes.length ≤ p.rest.size + p.val.size + 41 ∧ 4 + p.rest.size ≤ p.bytes.length + 1 ∧ 3 ≤ p.bytes.length := by
  have h1 := enc_len p.share
  have h2 := text_len (bs p.rest)
  have h3 := enc_len (fold p.seq)
  have h4 := mark_len p.dead (bs p.val)
  have h5 : (text (bs p.rest)).length = (enc (bs p.rest).length).length + (bs p.rest).length := by unfold text; rw [List.length_append]
  have h6 := enc_len (bs p.rest).length
  rw [bs_len] at h2 h4 h5 h6
  unfold Pc.bytes
  simp only [List.length_append]
  omega
theorem pc_len (last : List UInt8) (e : En) : (pc last e).rest.size ≤ e.key.size := by
  rw [← bs_len]
  show (bs ⟨((bs e.key).drop (share last (bs e.key))).toArray⟩).length ≤ _
  rw [bs_mk, List.length_drop, bs_len]; omega
theorem body_len (last : List UInt8) (es : List En) : (body last es).length ≤ bytesE es + 41 * es.length := by
  induction es generalizing last with
  | nil => simp [body]
  | cons e r ih =>
    have h1 := ih (bs e.key)
    have h2 := (Pc.len (pc last e)).1
    have h3 := pc_len last e
    have h4 : (pc last e).val = e.val := rfl
    rw [h4] at h2
    rw [bytesE_cons, List.length_cons]
    simp only [body, List.length_append]
    unfold sizeE piece
    omega
theorem block_len (es : List En) : (block es).length ≤ bytesE es + 41 * es.length + 10 := by
  have := body_len [] es
  have := enc_len es.length
  unfold block
  rw [List.length_append]; omega
end Go.Proofs.Ytjiajnmpdlaidaa.Bk
