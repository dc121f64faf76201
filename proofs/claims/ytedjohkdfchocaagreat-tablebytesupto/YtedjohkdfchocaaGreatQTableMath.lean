/-
  The texts TableMath.
-/
import Derived.Test.YtedjohkdfchocaaGreatQBlockDecode
import Derived.Test.YtedjohkdfchocaaGreatPart3
import Derived.Test.YtedjohkdfchocaaGreatQBloomRefMath

/-
  Tables as plain data: the versions eight by eight, the index, the keys' filter, the footer; which text is a table's, and that it is one list's alone.
-/
namespace Go.Proofs.YtedjohkdfchocaaGreat.Tb
open Cm Mm Bk
open Pk (enc enc_len dnum dnum_enc text fold)
open Fr (framesB sealed str strs datas)
set_option linter.unusedVariables false

/-! ### The versions eight by eight -/
def nch (es : List En) : Nat := (es.length + 7) / 8
def chunk (es : List En) (k : Nat) : List En := (es.drop (8 * k)).take 8
theorem chunk_len (es : List En) (k : Nat) : (chunk es k).length = min 8 (es.length - 8 * k) := by simp [chunk]
theorem chunk_pos {es : List En} {k : Nat} (h : k < nch es) : 8 * k < es.length := by unfold nch at h; omega
theorem nch_of {es : List En} {k : Nat} (h : 8 * k < es.length) : k < nch es := by unfold nch; omega
theorem chunk_get {es : List En} {k j : Nat} (hj : j < (chunk es k).length) : (chunk es k).getD j En.zero = es.getD (8 * k + j) En.zero := by
  rw [chunk_len] at hj
  unfold chunk
  rw [List.getD_eq_getElem?_getD, List.getD_eq_getElem?_getD, List.getElem?_take, if_pos (by omega), List.getElem?_drop]
theorem chunk_mem {es : List En} {k : Nat} {e : En} (h : e ∈ chunk es k) : e ∈ es := List.mem_of_mem_drop (List.mem_of_mem_take h)
theorem chunks_take (es : List En) (k : Nat) : (List.range k).flatMap (chunk es) = es.take (8 * k) := by
  induction k with
  | zero => simp
  | succ k ih => rw [List.range_succ, List.flatMap_append, ih, Nat.mul_succ, List.take_add]; simp [chunk]
theorem chunks_all (es : List En) : (List.range (nch es)).flatMap (chunk es) = es := by
  rw [chunks_take, List.take_of_length_le]
  unfold nch; omega

theorem right_chunk {es : List En} {k : Nat} (h : right es = true) : right (chunk es k) = true := by
  rw [right_iff] at h ⊢
  intro i hi
  have hl := chunk_len es k
  obtain ⟨h1, h2⟩ := h (8 * k + i) (by omega)
  rw [chunk_get hi]
  refine ⟨h1, fun h0 => ?_⟩
  rw [chunk_get (by omega)]
  have := h2 (by omega)
  rwa [show 8 * k + i - 1 = 8 * k + (i - 1) by omega] at this
theorem right_step {es : List En} {k : Nat} (hk : 8 * k < es.length) (h : RightTo es (8 * k)) (hb : 0 < k → less (es.getD (8 * k - 1) En.zero) (es.getD (8 * k) En.zero) = true) (hc : right (chunk es k) = true) : RightTo es (min (8 * k + 8) es.length) := by
  intro i hi
  rcases Nat.lt_or_ge i (8 * k) with h1 | h1
  · exact h i h1
  · obtain ⟨j, rfl⟩ : ∃ j, i = 8 * k + j := ⟨i - 8 * k, by omega⟩
    have hl := chunk_len es k
    have hj : j < (chunk es k).length := by omega
    rw [right_iff] at hc
    obtain ⟨c1, c2⟩ := hc j hj
    rw [chunk_get hj] at c1 c2
    refine ⟨c1, fun h0 => ?_⟩
    rcases Nat.eq_zero_or_pos j with rfl | hj0
    · exact hb (by omega)
    · have := c2 hj0
      rw [chunk_get (by omega)] at this
      rwa [show 8 * k + (j - 1) = 8 * k + j - 1 by omega] at this
theorem not_right_chunk {es : List En} {k : Nat} (hc : right (chunk es k) = false) : right es = false := by
  cases h : right es with
  | false => rfl
  | true => rw [right_chunk h] at hc; cases hc
theorem not_right_border {es : List En} {k : Nat} (hk : 8 * k < es.length) (h0 : 0 < k) (hl : less (es.getD (8 * k - 1) En.zero) (es.getD (8 * k) En.zero) = false) : right es = false :=
  not_right hk (fun q => by have := q.2 (by omega); rw [hl] at this; cases this)
theorem right_sorted {es : List En} (h : right es = true) : Sorted es := by
  rw [right_iff] at h
  have key : ∀ d i, i + d + 1 < es.length → less (es.getD i En.zero) (es.getD (i + d + 1) En.zero) = true := by
    intro d
    induction d with
    | zero => intro i hi; exact (h (i + 1) hi).2 (by omega)
    | succ d ih =>
      intro i hi
      have h1 := ih i (by omega)
      have h2 := (h (i + (d + 1) + 1) hi).2 (by omega)
      exact less_trans h1 h2
  unfold Sorted
  rw [List.pairwise_iff_getElem]
  intro i j hi hj hij
  have := key (j - i - 1) i (by omega)
  rw [show i + (j - i - 1) + 1 = j by omega, getD_lt _ _ _ hi, getD_lt _ _ _ hj] at this
  exact this

/-! ### The payloads -/
def blk (es : List En) (k : Nat) : ByteArray := str (block (chunk es k))
def pays (es : List En) : List ByteArray := (List.range (nch es)).map (blk es)
theorem pays_len (es : List En) : (pays es).length = nch es := by simp [pays]
theorem pays_take {es : List En} {k : Nat} (h : k ≤ nch es) : (pays es).take k = (List.range k).map (blk es) := by
  unfold pays
  rw [← List.map_take, List.take_range, Nat.min_eq_left h]
def place (es : List En) (k : Nat) : Nat := (framesB ((List.range k).map (blk es))).length
theorem framesB_snoc1 (xs : List ByteArray) (x : ByteArray) : framesB (xs ++ [x]) = framesB xs ++ framesB [x] := Fr.framesB_append xs [x]
theorem range_blk (es : List En) (k : Nat) : (List.range (k + 1)).map (blk es) = (List.range k).map (blk es) ++ [blk es k] := by rw [List.range_succ, List.map_append]; rfl
def lastK (es : List En) (k : Nat) : ByteArray := ((chunk es k).getD ((chunk es k).length - 1) En.zero).key
def index (es : List En) (k : Nat) : List UInt8 := enc (nch es) ++ (List.range k).flatMap fun i => text (bs (lastK es i)) ++ enc (place es i)
theorem index_zero (es : List En) : index es 0 = enc (nch es) := by simp [index]
theorem index_succ (es : List En) (k : Nat) : index es (k + 1) = (index es k ++ text (bs (lastK es k))) ++ enc (place es k) := by
  unfold index
  rw [List.range_succ, List.flatMap_append]
  simp
def fresh (es : List En) (i : Nat) : Bool := decide (i = 0) || !decide ((es.getD (i - 1) En.zero).key = (es.getD i En.zero).key)
def ks (es : List En) (k : Nat) : List ByteArray := ((List.range k).filter (fresh es)).map fun i => (es.getD i En.zero).key
theorem ks_zero (es : List En) : ks es 0 = [] := rfl
theorem ks_new {es : List En} {k : Nat} (h : fresh es k = true) : ks es (k + 1) = ks es k ++ [(es.getD k En.zero).key] := by
  unfold ks
  rw [List.range_succ, List.filter_append, List.map_append]
  simp [h]
theorem ks_old {es : List En} {k : Nat} (h : fresh es k = false) : ks es (k + 1) = ks es k := by
  unfold ks
  rw [List.range_succ, List.filter_append, List.map_append]
  simp [h]
theorem ks_len (es : List En) (k : Nat) : (ks es k).length ≤ k := by
  unfold ks
  rw [List.length_map]
  exact Nat.le_trans (List.length_filter_le _ _) (by simp)
def keysE (es : List En) : List ByteArray := ks es es.length
theorem fresh_no {es : List En} {k : Nat} (h : fresh es k = false) : k ≠ 0 ∧ (es.getD (k - 1) En.zero).key = (es.getD k En.zero).key := by
  unfold fresh at h
  rw [Bool.or_eq_false_iff] at h
  exact ⟨of_decide_eq_false h.1, of_decide_eq_true (by have := h.2; rwa [Bool.not_eq_false'] at this)⟩
theorem ks_mem (es : List En) (k : Nat) : ∀ i, i < k → (es.getD i En.zero).key ∈ ks es k := by
  induction k with
  | zero => intro i hi; omega
  | succ k ih =>
    intro i hi
    rcases Bool.eq_false_or_eq_true (fresh es k) with h | h
    · rw [ks_new h]
      rcases Nat.lt_or_ge i k with h1 | h1
      · exact List.mem_append_left _ (ih i h1)
      · obtain rfl : i = k := by omega
        simp
    · rw [ks_old h]
      rcases Nat.lt_or_ge i k with h1 | h1
      · exact ih i h1
      · obtain rfl : i = k := by omega
        obtain ⟨h0, h1⟩ := fresh_no h
        rw [← h1]
        exact ih (i - 1) (by omega)
theorem keys_mem {es : List En} {e : En} (h : e ∈ es) : e.key ∈ keysE es := by
  obtain ⟨i, hi, rfl⟩ := List.mem_iff_getElem.1 h
  have := ks_mem es es.length i hi
  rwa [getD_lt _ _ _ hi] at this
theorem mem_keys {es : List En} {k : Nat} {x : ByteArray} (h : x ∈ ks es k) : ∃ i, i < k ∧ x = (es.getD i En.zero).key := by
  unfold ks at h
  obtain ⟨i, hi, rfl⟩ := List.mem_map.1 h
  exact ⟨i, by simpa using (List.mem_filter.1 hi).1, rfl⟩
def hitB (xs : List ByteArray) (m q : Nat) : Bool := xs.any fun x => (List.range 4).any fun i => decide (q = Bl.probe (Bl.hash x) i m)
theorem hitB_iff (xs : List ByteArray) (m q : Nat) : hitB xs m q = true ↔ Bl.Hits xs m q := by
  unfold hitB Bl.Hits
  simp only [List.any_eq_true, decide_eq_true_eq, List.mem_range]
def filt (xs : List ByteArray) : List UInt8 := Bl.pack ((List.range (8 * Bl.len xs.length)).map (hitB xs (8 * Bl.len xs.length))) (Bl.len xs.length)
theorem filt_is (xs : List ByteArray) : Bl.IsFilter xs (filt xs) := by
  unfold filt
  refine ⟨Bl.pack_length _ _, fun q hq => ?_⟩
  rw [Bl.pack_length] at hq ⊢
  rw [Bl.pack_bit _ _ _ hq, List.getD_eq_getElem?_getD, List.getElem?_map, List.getElem?_range hq]
  exact hitB_iff _ _ _
theorem filt_eq {xs : List ByteArray} {f : List UInt8} (h : Bl.IsFilter xs f) : f = filt xs := h.unique (filt_is xs) rfl (fun _ => Iff.rfl)
theorem filt_len (xs : List ByteArray) : (filt xs).length = Bl.len xs.length := (filt_is xs).1
def footer (es : List En) : List UInt8 := [84, 82, 77, 49] ++ (enc (place es (nch es)) ++ enc es.length)
def tailB (es : List En) : List ByteArray := [str (index es (nch es)), str (filt (keysE es)), str (footer es)]
def tpays (es : List En) : List ByteArray := pays es ++ tailB es
theorem tpays_len (es : List En) : (tpays es).length = nch es + 3 := by simp [tpays, pays_len, tailB]
def tableV (es : List En) : Value := if right es then sealed (tpays es) else .tuple #[.string ⟨#[]⟩, .int .i64 9]

/-! ### Which text is a table's -/
structure IsTable (l : List UInt8) (es : List En) : Prop where
  right : right es = true
  fit : ∀ e ∈ es, Fit e
  small : ∀ x ∈ tpays es, x.size ≤ 65536
  eq : l = framesB (tpays es)
section
variable {l : List UInt8} {es : List En}
theorem IsTable.block (h : IsTable l es) (k : Nat) : IsBlock (block (chunk es k)) (chunk es k) :=
  ⟨right_chunk h.right, fun e he => h.fit e (chunk_mem he), by have := chunk_len es k; omega, rfl⟩
theorem IsTable.scanned (h : IsTable l es) : Fr.Scanned l (datas (tpays es)) [] := by
  have := Fr.scanned_datas (tpays es) h.small [] (Fr.first_short (by decide))
  rwa [List.append_nil, ← h.eq] at this
theorem IsTable.found (h : IsTable l es) {ps : List (List UInt8)} {n : Nat} (hU : Fr.Upto l ps n) (hf : Fr.first (l.drop n) = none) : strs ps = tpays es ∧ n = l.length := by
  obtain ⟨rfl, hn⟩ := hU.unique hf h.scanned
  refine ⟨Fr.strs_datas _, ?_⟩
  rw [hn, Fr.frames_datas, h.eq]
theorem IsTable.open (h : IsTable l es) : tableV es = .tuple #[.string (str l), .int .i64 0] := by
  unfold tableV
  rw [h.right, if_pos rfl, Fr.sealed_ok h.small, h.eq]
end
theorem table_of {l : List UInt8} {es : List En} {T : ByteArray} (hf : ∀ e ∈ es, Fit e) (h : tableV es = .tuple #[.string T, .int .i64 0]) : IsTable (bs T) es := by
  unfold tableV at h
  rcases Bool.eq_false_or_eq_true (right es) with hr | hr
  · rw [hr, if_pos rfl] at h
    by_cases hs : ∀ x ∈ tpays es, x.size ≤ 65536
    · rw [Fr.sealed_ok hs] at h
      have e1 : str (framesB (tpays es)) = T := by simpa using h
      exact ⟨hr, hf, hs, by rw [← e1]; rfl⟩
    · rw [Fr.sealed_long hs] at h
      simp at h
  · rw [hr] at h
    simp at h
/-- The payloads are, one after the other, the blocks of these versions. -/
def Reads : List ByteArray → List En → Prop
  | [], es => es = []
  | p :: r, es => ∃ a b, es = a ++ b ∧ IsBlock (bs p) a ∧ Reads r b
theorem Reads.snoc {ps : List ByteArray} {es : List En} {p : ByteArray} {a : List En} (h : Reads ps es) (ha : IsBlock (bs p) a) : Reads (ps ++ [p]) (es ++ a) := by
  induction ps generalizing es with
  | nil => cases h; exact ⟨a, [], by simp, ha, rfl⟩
  | cons q ps ih =>
    obtain ⟨x, y, rfl, hx, hy⟩ := h
    exact ⟨x, y ++ a, by simp, hx, ih hy⟩
theorem Reads.unique {ps : List ByteArray} {a b : List En} (ha : Reads ps a) (hb : Reads ps b) : a = b := by
  induction ps generalizing a b with
  | nil => rw [show a = [] from ha, show b = [] from hb]
  | cons q ps ih =>
    obtain ⟨x, y, rfl, hx, hy⟩ := ha
    obtain ⟨u, v, rfl, hu, hv⟩ := hb
    rw [hx.unique hu, ih hy hv]
theorem Reads.fit {ps : List ByteArray} {es : List En} (h : Reads ps es) : ∀ e ∈ es, Fit e := by
  induction ps generalizing es with
  | nil => cases h; intro e he; cases he
  | cons q ps ih =>
    obtain ⟨x, y, rfl, hx, hy⟩ := h
    intro e he
    rcases List.mem_append.1 he with h1 | h1
    · exact hx.fit e h1
    · exact ih hy e h1
theorem bytes_each {es : List En} {m : Nat} (h : ∀ e ∈ es, e.key.size ≤ m ∧ e.val.size ≤ m) : bytesE es ≤ es.length * (2 * m) := by
  induction es with
  | nil => simp [bytesE]
  | cons e es ih =>
    rw [bytesE_cons, List.length_cons, Nat.succ_mul]
    have h1 := h e (by simp)
    have h2 := ih (fun x hx => h x (by simp [hx]))
    unfold sizeE
    omega
theorem each_of {es : List En} {m : Nat} (h : ∀ k, (es.getD k En.zero).key.size ≤ m ∧ (es.getD k En.zero).val.size ≤ m) : ∀ e ∈ es, e.key.size ≤ m ∧ e.val.size ≤ m := fun e he => by
  obtain ⟨i, hi, rfl⟩ := List.mem_iff_getElem.1 he
  have := h i
  rwa [getD_lt _ _ _ hi] at this
theorem Reads.great {ps : List ByteArray} {es : List En} (h : Reads ps es) (hs : ∀ p ∈ ps, p.size ≤ 65536) : es.length ≤ total ps ∧ bytesE es ≤ 131072 * total ps ∧ ∀ e ∈ es, e.key.size ≤ 65536 ∧ e.val.size ≤ 65536 := by
  induction ps generalizing es with
  | nil => cases h; exact ⟨Nat.zero_le _, by simp [bytesE], fun e he => by cases he⟩
  | cons q ps ih =>
    obtain ⟨x, y, rfl, hx, hy⟩ := h
    obtain ⟨h1, h2, h3⟩ := ih hy (fun p hp => hs p (by simp [hp]))
    have hq := hs q (by simp)
    obtain ⟨g1, g2⟩ := hx.great
    rw [bs_len] at g1
    have g3 : ∀ e ∈ x, e.key.size ≤ 65536 ∧ e.val.size ≤ 65536 := each_of (fun k => by have := g2 k; rw [bs_len] at this; omega)
    have g4 := bytes_each g3
    have ht : total (q :: ps) = q.size + total ps := by simp [total]
    refine ⟨by rw [List.length_append, ht]; omega, by rw [bytesE_append, ht]; omega, fun e he => ?_⟩
    rcases List.mem_append.1 he with h5 | h5
    · exact g3 e h5
    · exact h3 e h5
section
variable {l : List UInt8} {es : List En}
theorem IsTable.reads (h : IsTable l es) (k : Nat) : Reads ((List.range k).map (blk es)) (es.take (8 * k)) := by
  induction k with
  | zero => exact rfl
  | succ k ih =>
    rw [range_blk, ← chunks_take, List.range_succ, List.flatMap_append, chunks_take]
    have := ih.snoc (p := blk es k) (a := chunk es k) (h.block k)
    simpa using this
theorem IsTable.readsAll (h : IsTable l es) : Reads (pays es) es := by
  have := h.reads (nch es)
  rwa [List.take_of_length_le (by unfold nch; omega)] at this
theorem IsTable.unique {a : List En} (h : IsTable l a) (hb : IsTable l es) : a = es := by
  obtain ⟨e1, _⟩ := h.scanned.unique hb.scanned
  have e2 : tpays a = tpays es := by rw [← Fr.strs_datas (tpays a), e1, Fr.strs_datas]
  have hn : nch a = nch es := by have := congrArg List.length e2; rw [tpays_len, tpays_len] at this; omega
  have e3 : pays a = pays es := (List.append_inj e2 (by rw [pays_len, pays_len, hn])).1
  have := h.readsAll
  rw [e3] at this
  exact this.unique hb.readsAll
theorem IsTable.front (h : IsTable l es) {ps : List ByteArray} (e : ps = tpays es) : ps.take (ps.length - 3) = pays es := by
  rw [e, tpays_len, Nat.add_sub_cancel]
  unfold tpays
  rw [List.take_left' (pays_len es)]
theorem IsTable.at' (h : IsTable l es) {k : Nat} (hk : k < nch es) : (pays es).getD k ByteArray.empty = blk es k := by
  unfold pays
  rw [List.getD_eq_getElem?_getD, List.getElem?_map, List.getElem?_range hk]
  rfl
theorem IsTable.filter (h : IsTable l es) {ps : List ByteArray} (e : ps = tpays es) : ps.getD (ps.length - 3 + 1) ByteArray.empty = str (filt (keysE es)) := by
  rw [e, tpays_len, Nat.add_sub_cancel]
  unfold tpays
  rw [List.getD_eq_getElem?_getD, List.getElem?_append_right (by rw [pays_len]; omega), pays_len]
  simp [tailB]
end
end Go.Proofs.YtedjohkdfchocaaGreat.Tb
