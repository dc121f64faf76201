/-
  The texts BloomRefMath, TableMath, TableChunk, OrderMath, joined.
-/
import Derived.Test.YtedjohkdfchocaaPart6
import Derived.Lib.Bytealg

/-
  A filter as a list of bits, and its bytes.
-/
namespace Go.Proofs.Ytedjohkdfchocaa.Bl

/-- The number that the bits from number k on, t of them, make, the lowest first. -/
def val (b : Nat → Bool) : Nat → Nat → Nat
  | _, 0 => 0
  | k, t + 1 => 2 * val b (k + 1) t + (if b k = true then 1 else 0)
theorem val_lt (b : Nat → Bool) (k t : Nat) : val b k t < 2 ^ t := by
  induction t generalizing k with
  | zero => simp [val]
  | succ t ih =>
    have := ih (k + 1)
    unfold val
    rw [Nat.pow_succ]
    split <;> omega
theorem val_bit (b : Nat → Bool) (t j : Nat) (h : j < t) (k : Nat) : (val b k t).testBit j = b (k + j) := by
  induction t generalizing k j with
  | zero => omega
  | succ t ih =>
    unfold val
    cases j with
    | zero =>
      rw [Nat.testBit_zero]
      cases hb : b k <;> simp
    | succ j =>
      rw [Nat.testBit_succ]
      have e : (2 * val b (k + 1) t + (if b k = true then 1 else 0)) / 2 = val b (k + 1) t := by split <;> omega
      rw [e, ih j (by omega), show k + 1 + j = k + (j + 1) by omega]
def bitOf (B : List Bool) (i q : Nat) : Bool := B.getD (8 * i + q) false
def byteB (B : List Bool) (i : Nat) : UInt8 := UInt8.ofNat (val (bitOf B i) 0 8)
def pack (B : List Bool) (n : Nat) : List UInt8 := (List.range n).map (byteB B)
theorem pack_length (B : List Bool) (n : Nat) : (pack B n).length = n := by simp [pack]
theorem pack_succ (B : List Bool) (n : Nat) : pack B (n + 1) = pack B n ++ [byteB B n] := by simp [pack, List.range_succ]
theorem pack_bit (B : List Bool) (n q : Nat) (h : q < 8 * n) : bitAt (pack B n) q = B.getD q false := by
  have e : (pack B n).getD (q / 8) 0 = byteB B (q / 8) := by
    have : q / 8 < n := by omega
    unfold pack
    simp [this]
  unfold bitAt
  rw [e]
  unfold byteB
  have hl : val (bitOf B (q / 8)) 0 8 < 2 ^ 8 := val_lt _ _ _
  rw [UInt8.toNat_ofNat_of_lt' hl, val_bit _ _ _ (by omega)]
  unfold bitOf
  rw [show 8 * (q / 8) + (0 + q % 8) = q by omega]

/-- So far: the keys of the list, and the first j probes of one more. -/
def PartB (xs : List ByteArray) (m : Nat) (x : ByteArray) (j : Nat) (B : List Bool) : Prop := B.length = m ∧ ∀ q, q < m → (B.getD q false = true ↔ Hits xs m q ∨ ∃ i, i < j ∧ q = probe (hash x) i m)
theorem PartB.step {xs : List ByteArray} {m : Nat} {x : ByteArray} {j : Nat} {B : List Bool} (h : PartB xs m x j B) (hm : 0 < m) : PartB xs m x (j + 1) (B.set (probe (hash x) j m) true) := by
  have hp := probe_lt (hash x) j hm
  have hpl : probe (hash x) j m < B.length := by rw [h.1]; exact hp
  refine ⟨by rw [List.length_set]; exact h.1, fun q hq => ?_⟩
  have e : (B.set (probe (hash x) j m) true).getD q false = true ↔ q = probe (hash x) j m ∨ B.getD q false = true := by
    by_cases e : q = probe (hash x) j m
    · subst e
      simp [hpl]
    · simp only [List.getD_eq_getElem?_getD]
      rw [List.getElem?_set_ne (Ne.symm e)]
      simp [e]
  rw [e, h.2 q hq]
  clear e
  constructor
  · rintro (e | e | ⟨i, hi, e⟩)
    · exact .inr ⟨j, by omega, e⟩
    · exact .inl e
    · exact .inr ⟨i, by omega, e⟩
  · rintro (e | ⟨i, hi, e⟩)
    · exact .inr (.inl e)
    · by_cases e2 : i = j
      · subst e2; exact .inl e
      · exact .inr (.inr ⟨i, by omega, e⟩)
theorem PartB.turn {xs : List ByteArray} {m : Nat} {x y : ByteArray} {B : List Bool} (h : PartB xs m x 4 B) : PartB (xs ++ [x]) m y 0 B := by
  refine ⟨h.1, fun q hq => ?_⟩
  rw [h.2 q hq]
  unfold Hits
  constructor
  · rintro (⟨a, ha, r⟩ | r)
    · exact .inl ⟨a, by simp [ha], r⟩
    · exact .inl ⟨x, by simp, r⟩
  · rintro (⟨a, ha, r⟩ | ⟨i, hi, _⟩)
    · rcases List.mem_append.1 ha with ha | ha
      · exact .inl ⟨a, ha, r⟩
      · rw [List.mem_singleton.1 ha] at r; exact .inr r
    · omega
theorem PartB.other {xs : List ByteArray} {m : Nat} {x y : ByteArray} {B : List Bool} (h : PartB xs m x 0 B) : PartB xs m y 0 B :=
  ⟨h.1, fun q hq => by rw [h.2 q hq]; simp⟩
theorem PartB.start (m : Nat) (x : ByteArray) : PartB [] m x 0 (List.replicate m false) := by
  refine ⟨by simp, fun q _ => ?_⟩
  have : (List.replicate m false).getD q false = false := by
    simp only [List.getD_eq_getElem?_getD, List.getElem?_replicate]
    split <;> rfl
  rw [this]
  constructor
  · intro h; cases h
  · rintro (⟨a, ha, _⟩ | ⟨i, hi, _⟩)
    · cases ha
    · omega
theorem PartB.done {xs : List ByteArray} {x : ByteArray} {B : List Bool} (h : PartB xs (8 * len xs.length) x 0 B) : IsFilter xs (pack B (len xs.length)) := by
  refine ⟨pack_length _ _, fun q hq => ?_⟩
  rw [pack_length] at hq ⊢
  rw [pack_bit _ _ _ hq, h.2 q hq]
  constructor
  · rintro (e | ⟨i, hi, _⟩)
    · exact e
    · omega
  · exact .inl

end Go.Proofs.Ytedjohkdfchocaa.Bl

/-
  Tables as plain data: the versions eight by eight, the index, the keys' filter, the footer; which text is a table's, and that it is one list's alone.
-/
namespace Go.Proofs.Ytedjohkdfchocaa.Tb
open Cm Mm Bk
open Pk (enc enc_len dnum dnum_enc text fold)
open Fr (framesB sealed str strs datas)
set_option linter.unusedVariables false

/-! ### The versions eight by eight -/
def nch (es : List En) : Nat := (es.length + 7) / 8
def chunk (es : List En) (k : Nat) : List En := (es.drop (8 * k)).take 8
theorem chunk_len (es : List En) (k : Nat) : (chunk es k).length = min 8 (es.length - 8 * k) := by simp [chunk]
theorem chunk_pos {es : List En} {k : Nat} (h : k < nch es) : 8 * k < es.length := by unfold nch at h; omega
theorem nch_of {es : List En} {k : Nat} (h : 8 * k < es.length) : k < nch es := by unfold nch; omega
theorem chunk_get {es : List En} {k j : Nat} (hj : j < (chunk es k).length) : (chunk es k).getD j En.zero = es.getD (8 * k + j) En.zero := by
  rw [chunk_len] at hj
  unfold chunk
  rw [List.getD_eq_getElem?_getD, List.getD_eq_getElem?_getD, List.getElem?_take, if_pos (by omega), List.getElem?_drop]
theorem chunk_mem {es : List En} {k : Nat} {e : En} (h : e ∈ chunk es k) : e ∈ es := List.mem_of_mem_drop (List.mem_of_mem_take h)
theorem chunks_take (es : List En) (k : Nat) : (List.range k).flatMap (chunk es) = es.take (8 * k) := by
  induction k with
  | zero => simp
  | succ k ih => rw [List.range_succ, List.flatMap_append, ih, Nat.mul_succ, List.take_add]; simp [chunk]
theorem chunks_all (es : List En) : (List.range (nch es)).flatMap (chunk es) = es := by
  rw [chunks_take, List.take_of_length_le]
  unfold nch; omega

theorem right_chunk {es : List En} {k : Nat} (h : right es = true) : right (chunk es k) = true := by
  rw [right_iff] at h ⊢
  intro i hi
  have hl := chunk_len es k
  obtain ⟨h1, h2⟩ := h (8 * k + i) (by omega)
  rw [chunk_get hi]
  refine ⟨h1, fun h0 => ?_⟩
  rw [chunk_get (by omega)]
  have := h2 (by omega)
  rwa [show 8 * k + i - 1 = 8 * k + (i - 1) by omega] at this
theorem right_step {es : List En} {k : Nat} (hk : 8 * k < es.length) (h : RightTo es (8 * k)) (hb : 0 < k → less (es.getD (8 * k - 1) En.zero) (es.getD (8 * k) En.zero) = true) (hc : right (chunk es k) = true) : RightTo es (min (8 * k + 8) es.length) := by
  intro i hi
  rcases Nat.lt_or_ge i (8 * k) with h1 | h1
  · exact h i h1
  · obtain ⟨j, rfl⟩ : ∃ j, i = 8 * k + j := ⟨i - 8 * k, by omega⟩
    have hl := chunk_len es k
    have hj : j < (chunk es k).length := by omega
    rw [right_iff] at hc
    obtain ⟨c1, c2⟩ := hc j hj
    rw [chunk_get hj] at c1 c2
    refine ⟨c1, fun h0 => ?_⟩
    rcases Nat.eq_zero_or_pos j with rfl | hj0
    · exact hb (by omega)
    · have := c2 hj0
      rw [chunk_get (by omega)] at this
      rwa [show 8 * k + (j - 1) = 8 * k + j - 1 by omega] at this
theorem not_right_chunk {es : List En} {k : Nat} (hc : right (chunk es k) = false) : right es = false := by
  cases h : right es with
  | false => rfl
  | true => rw [right_chunk h] at hc; cases hc
theorem not_right_border {es : List En} {k : Nat} (hk : 8 * k < es.length) (h0 : 0 < k) (hl : less (es.getD (8 * k - 1) En.zero) (es.getD (8 * k) En.zero) = false) : right es = false :=
  not_right hk (fun q => by have := q.2 (by omega); rw [hl] at this; cases this)
theorem right_sorted {es : List En} (h : right es = true) : Sorted es := by
  rw [right_iff] at h
  have key : ∀ d i, i + d + 1 < es.length → less (es.getD i En.zero) (es.getD (i + d + 1) En.zero) = true := by
    intro d
    induction d with
    | zero => intro i hi; exact (h (i + 1) hi).2 (by omega)
    | succ d ih =>
      intro i hi
      have h1 := ih i (by omega)
      have h2 := (h (i + (d + 1) + 1) hi).2 (by omega)
      exact less_trans h1 h2
  unfold Sorted
  rw [List.pairwise_iff_getElem]
  intro i j hi hj hij
  have := key (j - i - 1) i (by omega)
  rw [show i + (j - i - 1) + 1 = j by omega, getD_lt _ _ _ hi, getD_lt _ _ _ hj] at this
  exact this

/-! ### The payloads -/
def blk (es : List En) (k : Nat) : ByteArray := str (block (chunk es k))
def pays (es : List En) : List ByteArray := (List.range (nch es)).map (blk es)
theorem pays_len (es : List En) : (pays es).length = nch es := by simp [pays]
theorem pays_take {es : List En} {k : Nat} (h : k ≤ nch es) : (pays es).take k = (List.range k).map (blk es) := by
  unfold pays
  rw [← List.map_take, List.take_range, Nat.min_eq_left h]
def place (es : List En) (k : Nat) : Nat := (framesB ((List.range k).map (blk es))).length
theorem framesB_snoc1 (xs : List ByteArray) (x : ByteArray) : framesB (xs ++ [x]) = framesB xs ++ framesB [x] := Fr.framesB_append xs [x]
theorem range_blk (es : List En) (k : Nat) : (List.range (k + 1)).map (blk es) = (List.range k).map (blk es) ++ [blk es k] := by rw [List.range_succ, List.map_append]; rfl
def lastK (es : List En) (k : Nat) : ByteArray := ((chunk es k).getD ((chunk es k).length - 1) En.zero).key
def index (es : List En) (k : Nat) : List UInt8 := enc (nch es) ++ (List.range k).flatMap fun i => text (bs (lastK es i)) ++ enc (place es i)
theorem index_zero (es : List En) : index es 0 = enc (nch es) := by simp [index]
theorem index_succ (es : List En) (k : Nat) : index es (k + 1) = (index es k ++ text (bs (lastK es k))) ++ enc (place es k) := by
  unfold index
  rw [List.range_succ, List.flatMap_append]
  simp
def fresh (es : List En) (i : Nat) : Bool := decide (i = 0) || !decide ((es.getD (i - 1) En.zero).key = (es.getD i En.zero).key)
def ks (es : List En) (k : Nat) : List ByteArray := ((List.range k).filter (fresh es)).map fun i => (es.getD i En.zero).key
theorem ks_zero (es : List En) : ks es 0 = [] := rfl
theorem ks_new {es : List En} {k : Nat} (h : fresh es k = true) : ks es (k + 1) = ks es k ++ [(es.getD k En.zero).key] := by
  unfold ks
  rw [List.range_succ, List.filter_append, List.map_append]
  simp [h]
theorem ks_old {es : List En} {k : Nat} (h : fresh es k = false) : ks es (k + 1) = ks es k := by
  unfold ks
  rw [List.range_succ, List.filter_append, List.map_append]
  simp [h]
theorem ks_len (es : List En) (k : Nat) : (ks es k).length ≤ k := by
  unfold ks
  rw [List.length_map]
  exact Nat.le_trans (List.length_filter_le _ _) (by simp)
def keysE (es : List En) : List ByteArray := ks es es.length
theorem fresh_no {es : List En} {k : Nat} (h : fresh es k = false) : k ≠ 0 ∧ (es.getD (k - 1) En.zero).key = (es.getD k En.zero).key := by
  unfold fresh at h
  rw [Bool.or_eq_false_iff] at h
  exact ⟨of_decide_eq_false h.1, of_decide_eq_true (by have := h.2; rwa [Bool.not_eq_false'] at this)⟩
theorem ks_mem (es : List En) (k : Nat) : ∀ i, i < k → (es.getD i En.zero).key ∈ ks es k := by
  induction k with
  | zero => intro i hi; omega
  | succ k ih =>
    intro i hi
    rcases Bool.eq_false_or_eq_true (fresh es k) with h | h
    · rw [ks_new h]
      rcases Nat.lt_or_ge i k with h1 | h1
      · exact List.mem_append_left _ (ih i h1)
      · obtain rfl : i = k := by omega
        simp
    · rw [ks_old h]
      rcases Nat.lt_or_ge i k with h1 | h1
      · exact ih i h1
      · obtain rfl : i = k := by omega
        obtain ⟨h0, h1⟩ := fresh_no h
        rw [← h1]
        exact ih (i - 1) (by omega)
theorem keys_mem {es : List En} {e : En} (h : e ∈ es) : e.key ∈ keysE es := by
  obtain ⟨i, hi, rfl⟩ := List.mem_iff_getElem.1 h
  have := ks_mem es es.length i hi
  rwa [getD_lt _ _ _ hi] at this
theorem mem_keys {es : List En} {k : Nat} {x : ByteArray} (h : x ∈ ks es k) : ∃ i, i < k ∧ x = (es.getD i En.zero).key := by
  unfold ks at h
  obtain ⟨i, hi, rfl⟩ := List.mem_map.1 h
  exact ⟨i, by simpa using (List.mem_filter.1 hi).1, rfl⟩
def hitB (xs : List ByteArray) (m q : Nat) : Bool := xs.any fun x => (List.range 4).any fun i => decide (q = Bl.probe (Bl.hash x) i m)
theorem hitB_iff (xs : List ByteArray) (m q : Nat) : hitB xs m q = true ↔ Bl.Hits xs m q := by
  unfold hitB Bl.Hits
  simp only [List.any_eq_true, decide_eq_true_eq, List.mem_range]
def filt (xs : List ByteArray) : List UInt8 := Bl.pack ((List.range (8 * Bl.len xs.length)).map (hitB xs (8 * Bl.len xs.length))) (Bl.len xs.length)
theorem filt_is (xs : List ByteArray) : Bl.IsFilter xs (filt xs) := by
  unfold filt
  refine ⟨Bl.pack_length _ _, fun q hq => ?_⟩
  rw [Bl.pack_length] at hq ⊢
  rw [Bl.pack_bit _ _ _ hq, List.getD_eq_getElem?_getD, List.getElem?_map, List.getElem?_range hq]
  exact hitB_iff _ _ _
theorem filt_eq {xs : List ByteArray} {f : List UInt8} (h : Bl.IsFilter xs f) : f = filt xs := h.unique (filt_is xs) rfl (fun _ => Iff.rfl)
theorem filt_len (xs : List ByteArray) : (filt xs).length = Bl.len xs.length := (filt_is xs).1
def footer (es : List En) : List UInt8 := [84, 82, 77, 49] ++ (enc (place es (nch es)) ++ enc es.length)
def tailB (es : List En) : List ByteArray := [str (index es (nch es)), str (filt (keysE es)), str (footer es)]
def tpays (es : List En) : List ByteArray := pays es ++ tailB es
theorem tpays_len (es : List En) : (tpays es).length = nch es + 3 := by simp [tpays, pays_len, tailB]
def tableV (es : List En) : Value := if right es then sealed (tpays es) else .tuple #[.string ⟨#[]⟩, .int .i64 9]

/-! ### Which text is a table's -/
structure IsTable (l : List UInt8) (es : List En) : Prop where
  right : right es = true
  fit : ∀ e ∈ es, Fit e
  small : ∀ x ∈ tpays es, x.size ≤ 65536
  eq : l = framesB (tpays es)
section
variable {l : List UInt8} {es : List En}
theorem IsTable.block (h : IsTable l es) (k : Nat) : IsBlock (block (chunk es k)) (chunk es k) :=
  ⟨right_chunk h.right, fun e he => h.fit e (chunk_mem he), by have := chunk_len es k; omega, rfl⟩
theorem IsTable.scanned (h : IsTable l es) : Fr.Scanned l (datas (tpays es)) [] := by
  have := Fr.scanned_datas (tpays es) h.small [] (Fr.first_short (by decide))
  rwa [List.append_nil, ← h.eq] at this
theorem IsTable.found (h : IsTable l es) {ps : List (List UInt8)} {n : Nat} (hU : Fr.Upto l ps n) (hf : Fr.first (l.drop n) = none) : strs ps = tpays es ∧ n = l.length := by
  obtain ⟨rfl, hn⟩ := hU.unique hf h.scanned
  refine ⟨Fr.strs_datas _, ?_⟩
  rw [hn, Fr.frames_datas, h.eq]
theorem IsTable.open (h : IsTable l es) : tableV es = .tuple #[.string (str l), .int .i64 0] := by
  unfold tableV
  rw [h.right, if_pos rfl, Fr.sealed_ok h.small, h.eq]
end
theorem table_of {l : List UInt8} {es : List En} {T : ByteArray} (hf : ∀ e ∈ es, Fit e) (h : tableV es = .tuple #[.string T, .int .i64 0]) : IsTable (bs T) es := by
  unfold tableV at h
  rcases Bool.eq_false_or_eq_true (right es) with hr | hr
  · rw [hr, if_pos rfl] at h
    by_cases hs : ∀ x ∈ tpays es, x.size ≤ 65536
    · rw [Fr.sealed_ok hs] at h
      have e1 : str (framesB (tpays es)) = T := by simpa using h
      exact ⟨hr, hf, hs, by rw [← e1]; rfl⟩
    · rw [Fr.sealed_long hs] at h
      simp at h
  · rw [hr] at h
    simp at h
/-- The payloads are, one after the other, the blocks of these versions. -/
def Reads : List ByteArray → List En → Prop
  | [], es => es = []
  | p :: r, es => ∃ a b, es = a ++ b ∧ IsBlock (bs p) a ∧ Reads r b
theorem Reads.snoc {ps : List ByteArray} {es : List En} {p : ByteArray} {a : List En} (h : Reads ps es) (ha : IsBlock (bs p) a) : Reads (ps ++ [p]) (es ++ a) := by
  induction ps generalizing es with
  | nil => cases h; exact ⟨a, [], by simp, ha, rfl⟩
  | cons q ps ih =>
    obtain ⟨x, y, rfl, hx, hy⟩ := h
    exact ⟨x, y ++ a, by simp, hx, ih hy⟩
theorem Reads.unique {ps : List ByteArray} {a b : List En} (ha : Reads ps a) (hb : Reads ps b) : a = b := by
  induction ps generalizing a b with
  | nil => rw [show a = [] from ha, show b = [] from hb]
  | cons q ps ih =>
    obtain ⟨x, y, rfl, hx, hy⟩ := ha
    obtain ⟨u, v, rfl, hu, hv⟩ := hb
    rw [hx.unique hu, ih hy hv]
theorem Reads.fit {ps : List ByteArray} {es : List En} (h : Reads ps es) : ∀ e ∈ es, Fit e := by
  induction ps generalizing es with
  | nil => cases h; intro e he; cases he
  | cons q ps ih =>
    obtain ⟨x, y, rfl, hx, hy⟩ := h
    intro e he
    rcases List.mem_append.1 he with h1 | h1
    · exact hx.fit e h1
    · exact ih hy e h1
theorem bytes_each {es : List En} {m : Nat} (h : ∀ e ∈ es, e.key.size ≤ m ∧ e.val.size ≤ m) : bytesE es ≤ es.length * (2 * m) := by
  induction es with
  | nil => simp [bytesE]
  | cons e es ih =>
    rw [bytesE_cons, List.length_cons, Nat.succ_mul]
    have h1 := h e (by simp)
    have h2 := ih (fun x hx => h x (by simp [hx]))
    unfold sizeE
    omega
theorem each_of {es : List En} {m : Nat} (h : ∀ k, (es.getD k En.zero).key.size ≤ m ∧ (es.getD k En.zero).val.size ≤ m) : ∀ e ∈ es, e.key.size ≤ m ∧ e.val.size ≤ m := fun e he => by
  obtain ⟨i, hi, rfl⟩ := List.mem_iff_getElem.1 he
  have := h i
  rwa [getD_lt _ _ _ hi] at this
theorem Reads.great {ps : List ByteArray} {es : List En} (h : Reads ps es) (hs : ∀ p ∈ ps, p.size ≤ 65536) : es.length ≤ total ps ∧ bytesE es ≤ 131072 * total ps ∧ ∀ e ∈ es, e.key.size ≤ 65536 ∧ e.val.size ≤ 65536 := by
  induction ps generalizing es with
  | nil => cases h; exact ⟨Nat.zero_le _, by simp [bytesE], fun e he => by cases he⟩
  | cons q ps ih =>
    obtain ⟨x, y, rfl, hx, hy⟩ := h
    obtain ⟨h1, h2, h3⟩ := ih hy (fun p hp => hs p (by simp [hp]))
    have hq := hs q (by simp)
    obtain ⟨g1, g2⟩ := hx.great
    rw [bs_len] at g1
    have g3 : ∀ e ∈ x, e.key.size ≤ 65536 ∧ e.val.size ≤ 65536 := each_of (fun k => by have := g2 k; rw [bs_len] at this; omega)
    have g4 := bytes_each g3
    have ht : total (q :: ps) = q.size + total ps := by simp [total]
    refine ⟨by rw [List.length_append, ht]; omega, by rw [bytesE_append, ht]; omega, fun e he => ?_⟩
    rcases List.mem_append.1 he with h5 | h5
    · exact g3 e h5
    · exact h3 e h5
section
variable {l : List UInt8} {es : List En}
theorem IsTable.reads (h : IsTable l es) (k : Nat) : Reads ((List.range k).map (blk es)) (es.take (8 * k)) := by
  induction k with
  | zero => exact rfl
  | succ k ih =>
    rw [range_blk, ← chunks_take, List.range_succ, List.flatMap_append, chunks_take]
    have := ih.snoc (p := blk es k) (a := chunk es k) (h.block k)
    simpa using this
theorem IsTable.readsAll (h : IsTable l es) : Reads (pays es) es := by
  have := h.reads (nch es)
  rwa [List.take_of_length_le (by unfold nch; omega)] at this
theorem IsTable.unique {a : List En} (h : IsTable l a) (hb : IsTable l es) : a = es := by
  obtain ⟨e1, _⟩ := h.scanned.unique hb.scanned
  have e2 : tpays a = tpays es := by rw [← Fr.strs_datas (tpays a), e1, Fr.strs_datas]
  have hn : nch a = nch es := by have := congrArg List.length e2; rw [tpays_len, tpays_len] at this; omega
  have e3 : pays a = pays es := (List.append_inj e2 (by rw [pays_len, pays_len, hn])).1
  have := h.readsAll
  rw [e3] at this
  exact this.unique hb.readsAll
theorem IsTable.front (h : IsTable l es) {ps : List ByteArray} (e : ps = tpays es) : ps.take (ps.length - 3) = pays es := by
  rw [e, tpays_len, Nat.add_sub_cancel]
  unfold tpays
  rw [List.take_left' (pays_len es)]
theorem IsTable.at' (h : IsTable l es) {k : Nat} (hk : k < nch es) : (pays es).getD k ByteArray.empty = blk es k := by
  unfold pays
  rw [List.getD_eq_getElem?_getD, List.getElem?_map, List.getElem?_range hk]
  rfl
theorem IsTable.filter (h : IsTable l es) {ps : List ByteArray} (e : ps = tpays es) : ps.getD (ps.length - 3 + 1) ByteArray.empty = str (filt (keysE es)) := by
  rw [e, tpays_len, Nat.add_sub_cancel]
  unfold tpays
  rw [List.getD_eq_getElem?_getD, List.getElem?_append_right (by rw [pays_len]; omega), pays_len]
  simp [tailB]
end
end Go.Proofs.Ytedjohkdfchocaa.Tb

/-
  The library's 'slices.Chunk' over versions: what it hands to a loop, eight by eight.
-/
namespace Go.Proofs.Ytedjohkdfchocaa.Tb
open Go.RowKit Go.Shelf Cm Mm
attribute [local go_sem] Oper.semAt_some
set_option linter.unusedVariables false

def boxS (ao : Option Addr) (n ca : Nat) : Obj := .cells #[.slice ao n ca] 23 (0, 0)
def box8 : Obj := .cells #[.int .i64 8] 3 (0, 0)
set_option maxHeartbeats 1000000 in
theorem chunk_any (ao : Option Addr) (n ca : Nat) (w : World) :
    Calls Try.prog 54 #[.slice ao n ca, .int .i64 8] w fun e w' => e = .returned (.func (.func 79) #[] #[.pointer (some ⟨w.heap.size, 0, none⟩), .pointer (some ⟨w.heap.size + 1, 0, none⟩)]) ∧ w' = (w.alloc (boxS ao n ca)).alloc box8 := by
  unfold boxS box8
  go_enter Try.func54, Try.ntmps54
  go_wp2
  go_ret
  exact ⟨rfl, rfl⟩
/-- These blocks lie as they lay. -/
def Same2 (x y : Nat) (W W' : World) : Prop := W'.heap[x]? = W.heap[x]? ∧ W'.heap[y]? = W.heap[y]?
def piece (b off : Nat) (es : List En) (k : Nat) : Value := .slice (some ⟨b, off + 8 * k * 4, none⟩) (chunk es k).length (chunk es k).length
abbrev Ix (es : List En) : Type := { k : Nat // k < nch es }
def nums {es : List En} (l : List (Ix es)) : List Nat := l.map fun k => k.1
theorem nums_snoc {es : List En} (l : List (Ix es)) (x : Ix es) : nums (l ++ [x]) = nums l ++ [x.1] := by simp [nums]
theorem nums_len {es : List En} (l : List (Ix es)) : (nums l).length = l.length := by simp [nums]
set_option maxRecDepth 100000 in
set_option maxHeartbeats 2000000 in
theorem chunk1_in (n l Bs Bn b off ca : Nat) (ao : Option Addr) (hn : 1 ≤ n) (es : List En) (hao : 0 < es.length → ao = some ⟨b, off, none⟩) (hlen : es.length ≤ 100000000000) (hca : es.length ≤ ca) (J Jx : List (Ix es) → World → Prop) (hJ : ∀ s A, J s A → J s A.drew)
    (hY : ∀ pre x W, J pre W → pre.length < nch es → YieldAt Fence.wide (n - 1) Try.prog l #[piece b off es x.1] W fun e W' =>
      (e = .returned (.bool true) ∧ J (pre ++ [x]) W' ∧ Same2 Bs Bn W W') ∨ (e = .returned (.bool false) ∧ Jx (pre ++ [x]) W'))
    (W : World) (hBs : W.heap[Bs]? = some (boxS ao es.length ca)) (hBn : W.heap[Bn]? = some box8) (h0 : J [] W) :
    CallsIn Fence.wide n Try.prog 79 #[.func (.yield l) #[] #[], .pointer (some ⟨Bs, 0, none⟩), .pointer (some ⟨Bn, 0, none⟩)] W fun e W' => (∃ v, e = .returned v) ∧
      ((∃ ys, nums ys = List.range (nch es) ∧ J ys W') ∨ (∃ pre, (∃ k, k ≤ nch es ∧ nums pre = List.range k) ∧ Jx pre W')) := by
  refine callsIn_of_wp Try.func79 rfl trivial ?_ rfl
  simp only [Try.ntmps79, List.size_toArray, List.length_cons, List.length_nil, Nat.reduceAdd, Nat.reduceSub, Array.replicate_succ, Array.replicate_zero, List.push_toArray, List.append_toArray, List.nil_append, List.cons_append]
  gi_wp2
  gi_loopw [4] (fun i wr => ∃ (k m : Nat) (pre : List (Ix es)), k ≤ nch es ∧ i = .int .i64 (m : Int) ∧ m ≤ es.length + 8 ∧ Hid (m = 8 * k) ∧ Hid (nums pre = List.range k) ∧ J pre wr ∧ Hid (wr.heap[Bs]? = some (boxS ao es.length ca) ∧ wr.heap[Bn]? = some box8))
    (fun i _ => es.length + 8 - (intOf i).toNat)
  case atStart => exact ⟨0, 0, [], Nat.zero_le _, rfl, by omega, hid_rfl, hid_rfl, h0, hBs, hBn⟩
  case round =>
    obtain ⟨k, m, pre, hk, rfl, hm8, HM, HP, hJs, HSN⟩ := hrel
    obtain ⟨hS, hN⟩ := HSN.out
    have c1 : wr.cell? ⟨Bs, 0, none⟩ = some (.slice ao es.length ca) := by rw [Joins.cell_of_block hS]; rfl
    have c2 : wr.cell? ⟨Bn, 0, none⟩ = some (.int .i64 8) := by rw [Joins.cell_of_block hN]; rfl
    clear hS hN
    by_cases hlt : m < es.length
    · obtain rfl := hao (by omega)
      clear hao
      obtain ⟨fn, tmps, assign, body, hy, hR⟩ := hY pre ⟨k, nch_of (by have := HM.out; omega)⟩ wr.drew (hJ _ _ hJs) (by rw [← nums_len, HP.out, List.length_range]; exact nch_of (by have := HM.out; omega))
      obtain ⟨c, hc⟩ : ∃ c, c = min 8 (es.length - m) := ⟨_, rfl⟩
      have hpc : piece b off es k = .slice (some ⟨b, off + m * 4, none⟩) c c := by unfold piece; rw [chunk_len, ← HM.out, hc]
      rw [hpc] at hy
      have hk0 : (0 : Int) ≤ (m : Int) := by omega
      have hk1 : (m : Int) ≤ (es.length : Int) := by omega
      have hk2 : (m : Int) ≤ (ca : Int) := by omega
      have hlt' : decide ((m : Int) < (es.length : Int)) = true := decide_eq_true (by omega)
      have HC : Hid _ := hc
      clear hpc hc
      have HMIN : Hid (min (8 : Int) ((es.length - m : Nat) : Int) = (c : Int)) := by have := HC.out; show _ = _; omega
      have hc1 : (c : Int) ≤ 8 := by have := HC.out; omega
      have hc2 : (m : Int) + (c : Int) ≤ (es.length : Int) := by have := HC.out; omega
      have hc3 : (m : Int) + (c : Int) ≤ (ca : Int) := by omega
      have hc4 : (0 : Int) < (c : Int) := by have := HC.out; omega
      have hc5 : ¬ c = 0 := by omega
      gi_wp2
      gi_region
      rw [HMIN.out]
      have c1' : wr.drew.cell? ⟨Bs, 0, none⟩ = some (.slice (some ⟨b, off, none⟩) es.length ca) := c1
      have c2' : wr.drew.cell? ⟨Bn, 0, none⟩ = some (.int .i64 8) := c2
      have HSN' : Hid (wr.drew.heap[Bs]? = some (boxS (some ⟨b, off, none⟩) es.length ca) ∧ wr.drew.heap[Bn]? = some box8) := HSN.out
      clear c1 c2 HSN hY
      generalize wr.drew = W2 at *
      gi_wp2
      refine hR.mono ?_
      rintro e W3 (⟨rfl, hJ3, hk3⟩ | ⟨rfl, hJx3⟩)
      · have HS3 : Hid (W3.heap[Bs]? = some (boxS (some ⟨b, off, none⟩) es.length ca) ∧ W3.heap[Bn]? = some box8) := ⟨hk3.1.trans HSN'.out.1, hk3.2.trans HSN'.out.2⟩
        have d2 : W3.cell? ⟨Bn, 0, none⟩ = some (.int .i64 8) := by rw [Joins.cell_of_block HS3.out.2]; rfl
        gi_wp2
        go_roundw
        case rel => exact ⟨k + 1, m + 8, _, by have := nch_of (k := k) (es := es) (by have := HM.out; omega); omega, by go_num, by omega, (by have := HM.out; show _ = _; omega), (by show _ = _; rw [nums_snoc, HP.out, List.range_succ]), hJ3, HS3⟩
        case measure => simp [intOf]; omega
      · gi_wp2
        refine bodyPost_ret (results_none rfl _ _ _) rfl ?_
        exact ⟨⟨_, rfl⟩, .inr ⟨_, ⟨k + 1, by have := nch_of (k := k) (es := es) (by have := HM.out; omega); omega, by rw [nums_snoc, HP.out, List.range_succ]⟩, hJx3⟩⟩
    · obtain rfl : k = nch es := by have := HM.out; unfold nch at *; omega
      have hlt' : decide ((m : Int) < (es.length : Int)) = false := decide_eq_false (by omega)
      gi_wp2
      go_end0
      exact ⟨⟨_, rfl⟩, .inl ⟨_, HP.out, hJs⟩⟩
/-- What the loop over the chunks of these versions may go by. -/
theorem chunk_stops (n Bs Bn b off ca : Nat) (ao : Option Addr) (hn : 1 ≤ n) (es : List En) (hao : 0 < es.length → ao = some ⟨b, off, none⟩) (hlen : es.length ≤ 100000000000) (hca : es.length ≤ ca) (w : World) (hBs : w.heap[Bs]? = some (boxS ao es.length ca)) (hBn : w.heap[Bn]? = some box8) :
    SeqStopsK Fence.wide n Try.prog 79 #[.pointer (some ⟨Bs, 0, none⟩), .pointer (some ⟨Bn, 0, none⟩)] (fun x : Ix es => #[piece b off es x.1]) (Same2 Bs Bn) (fun ys => nums ys = List.range (nch es)) (fun pre => ∃ k, k ≤ nch es ∧ nums pre = List.range k) (nch es) w := fun l J Jx W hW hJ hJx hY h0 =>
  chunk1_in n l Bs Bn b off ca ao hn es hao hlen hca J Jx (fun s A hA => hJ s A _ none hA ⟨rfl, rfl, rfl, Nat.le_refl _, fun _ _ _ => rfl⟩ (fun r e => by cases e)) hY W
    ((hW.block _ (lt_of_block hBs)).trans hBs) ((hW.block _ (lt_of_block hBn)).trans hBn) h0
end Go.Proofs.Ytedjohkdfchocaa.Tb

/-
  Keys over plain lists of bytes: parts written down, no part's bytes the beginning of another's, and the order of keys is the order of their parts; the end of a prefix.
-/
namespace Go.Proofs.Ytedjohkdfchocaa.Od
open Go.Lib (compareBytes)
set_option linter.unusedVariables false

/-! Order of bytes. -/
theorem cb_self (a : List UInt8) : compareBytes a a = 0 := by
  induction a with
  | nil => rfl
  | cons x a ih => simp [compareBytes, ih]
theorem cb_vals (a b : List UInt8) : compareBytes a b = -1 ∨ compareBytes a b = 0 ∨ compareBytes a b = 1 := by
  induction a generalizing b with
  | nil => cases b <;> simp [compareBytes]
  | cons x a ih =>
    cases b with
    | nil => simp [compareBytes]
    | cons y b =>
      simp only [compareBytes]
      split
      · simp
      · split
        · simp
        · exact ih b
theorem cb_zero {a b : List UInt8} (h : compareBytes a b = 0) : a = b := by
  induction a generalizing b with
  | nil => cases b <;> simp_all [compareBytes]
  | cons x a ih =>
    cases b with
    | nil => simp [compareBytes] at h
    | cons y b =>
      simp only [compareBytes] at h
      split at h
      · simp at h
      · split at h
        · simp at h
        · rename_i h1 h2
          have : x = y := UInt8.le_antisymm (UInt8.not_lt.1 h2) (UInt8.not_lt.1 h1)
          rw [this, ih h]
theorem cb_anti (a b : List UInt8) : compareBytes b a = - compareBytes a b := by
  induction a generalizing b with
  | nil => cases b <;> simp [compareBytes]
  | cons x a ih =>
    cases b with
    | nil => simp [compareBytes]
    | cons y b =>
      simp only [compareBytes]
      by_cases h1 : x < y
      · have h2 : ¬ y < x := fun h => UInt8.lt_irrefl _ (UInt8.lt_trans h h1)
        simp [h1, h2]
      · by_cases h2 : y < x
        · simp [h1, h2]
        · simp [h1, h2, ih]
theorem less_iff (a b : List UInt8) : Op.bytesLess a b = decide (compareBytes a b < 0) := by
  induction a generalizing b with
  | nil => cases b <;> simp [compareBytes, Op.bytesLess]
  | cons x a ih =>
    cases b with
    | nil => simp [compareBytes, Op.bytesLess]
    | cons y b =>
      simp only [compareBytes, Op.bytesLess]
      by_cases h1 : x < y
      · simp [h1]
      · by_cases h2 : y < x
        · have : ¬ x = y := fun h => by subst h; exact h1 h2
          simp [h1, h2, this]
        · have : x = y := UInt8.le_antisymm (UInt8.not_lt.1 h2) (UInt8.not_lt.1 h1)
          subst this
          simp [h1, ih]
theorem cb_same (q a b : List UInt8) : compareBytes (q ++ a) (q ++ b) = compareBytes a b := by
  induction q with
  | nil => rfl
  | cons x q ih => simp [compareBytes, ih]

/-! Numbers. -/
def val (l : List UInt8) : Nat := l.foldl (fun u c => u * 256 + c.toNat) 0
theorem foldl_val (u : Nat) (l : List UInt8) : l.foldl (fun u c => u * 256 + c.toNat) u = u * 256 ^ l.length + val l := by
  induction l generalizing u with
  | nil => simp [val]
  | cons x l ih =>
    simp only [val, List.foldl_cons, List.length_cons]
    rw [ih, ih (0 * 256 + x.toNat), Nat.pow_succ]
    simp only [Nat.zero_mul, Nat.zero_add, Nat.add_mul, Nat.mul_assoc, Nat.mul_comm 256]
    omega
theorem val_cons (x : UInt8) (l : List UInt8) : val (x :: l) = x.toNat * 256 ^ l.length + val l := by
  have := foldl_val (0 * 256 + x.toNat) l
  simpa [val] using this
theorem val_snoc (l : List UInt8) (x : UInt8) : val (l ++ [x]) = val l * 256 + x.toNat := by simp [val]
theorem val_lt (l : List UInt8) : val l < 256 ^ l.length := by
  induction l with
  | nil => simp [val]
  | cons x l ih =>
    rw [val_cons, List.length_cons, Nat.pow_succ]
    have := x.toNat_lt
    have h2 : x.toNat * 256 ^ l.length ≤ 255 * 256 ^ l.length := Nat.mul_le_mul_right _ (by omega)
    omega
theorem val_inj {l m : List UInt8} (hl : l.length = m.length) (h : val l = val m) : l = m := by
  induction l generalizing m with
  | nil => cases m <;> simp_all
  | cons x l ih =>
    cases m with
    | nil => simp at hl
    | cons y m =>
      simp only [List.length_cons, Nat.add_right_cancel_iff] at hl
      rw [val_cons, val_cons, ← hl] at h
      have h1 := val_lt l
      have h2 := val_lt m
      rw [← hl] at h2
      have e : x.toNat = y.toNat := by
        have a1 : (x.toNat * 256 ^ l.length + val l) / 256 ^ l.length = x.toNat := by
          rw [Nat.mul_comm, Nat.mul_add_div (by omega), Nat.div_eq_of_lt h1, Nat.add_zero]
        have a2 : (y.toNat * 256 ^ l.length + val m) / 256 ^ l.length = y.toNat := by
          rw [Nat.mul_comm, Nat.mul_add_div (by omega), Nat.div_eq_of_lt h2, Nat.add_zero]
        rw [← a1, ← a2, h]
      have ex : x = y := UInt8.toNat.inj e
      subst ex
      rw [ih hl (by omega)]
theorem cb_val {l m : List UInt8} (hl : l.length = m.length) (r s : List UInt8) :
    compareBytes (l ++ r) (m ++ s) = if val l < val m then -1 else if val m < val l then 1 else compareBytes r s := by
  induction l generalizing m with
  | nil =>
    cases m with
    | nil => simp
    | cons y m => simp at hl
  | cons x l ih =>
    cases m with
    | nil => simp at hl
    | cons y m =>
      simp only [List.length_cons, Nat.add_right_cancel_iff] at hl
      rw [val_cons, val_cons, ← hl]
      have h1 := val_lt l
      have h2 := val_lt m
      rw [← hl] at h2
      simp only [List.cons_append, compareBytes]
      by_cases hlt : x < y
      · have hn : x.toNat + 1 ≤ y.toNat := by have := UInt8.lt_iff_toNat_lt.1 hlt; omega
        have hm := Nat.mul_le_mul_right (256 ^ l.length) hn
        rw [Nat.add_mul, Nat.one_mul] at hm
        rw [if_pos hlt, if_pos (by omega)]
      · by_cases hgt : y < x
        · have hn : y.toNat + 1 ≤ x.toNat := by have := UInt8.lt_iff_toNat_lt.1 hgt; omega
          have hm := Nat.mul_le_mul_right (256 ^ l.length) hn
          rw [Nat.add_mul, Nat.one_mul] at hm
          rw [if_neg hlt, if_pos hgt, if_neg (by omega), if_pos (by omega)]
        · have : x = y := UInt8.le_antisymm (UInt8.not_lt.1 hgt) (UInt8.not_lt.1 hlt)
          subst this
          rw [if_neg hlt, if_neg hlt, ih hl]
          have e1 : (x.toNat * 256 ^ l.length + val l < x.toNat * 256 ^ l.length + val m) = (val l < val m) := by simp
          have e2 : (x.toNat * 256 ^ l.length + val m < x.toNat * 256 ^ l.length + val l) = (val m < val l) := by simp
          simp only [e1, e2]

/-- The eight bytes of a number below 2^64, the greatest first. -/
def be (u : Nat) : List UInt8 := (List.range 8).map fun i => (u / 256 ^ (7 - i)).toUInt8
theorem be_length (u : Nat) : (be u).length = 8 := by simp [be]
theorem be_eq (u : Nat) : be u = [(u / 256 ^ 7).toUInt8, (u / 256 ^ 6).toUInt8, (u / 256 ^ 5).toUInt8, (u / 256 ^ 4).toUInt8, (u / 256 ^ 3).toUInt8, (u / 256 ^ 2).toUInt8, (u / 256).toUInt8, u.toUInt8] := by
  simp [be, List.range, List.range.loop]
theorem val_be {u : Nat} (h : u < 18446744073709551616) : val (be u) = u := by
  rw [be_eq]
  simp only [val, List.foldl_cons, List.foldl_nil, Nat.toUInt8, UInt8.toNat_ofNat']
  omega
theorem be_val {l : List UInt8} (h : l.length = 8) : be (val l) = l := by
  apply val_inj (by rw [be_length, h])
  have := val_lt l
  rw [h] at this
  exact val_be (by simpa using this)

/-- A number's place among all: the top bit turned. -/
def numU (n : Int) : Nat := (n + 9223372036854775808).toNat
def numB (n : Int) : List UInt8 := be (numU n)
def inI (n : Int) : Prop := -9223372036854775808 ≤ n ∧ n ≤ 9223372036854775807
theorem numU_lt {n : Int} (h : inI n) : numU n < 18446744073709551616 := by unfold numU; have := h.2; omega

/-! Texts. -/
def esc : List UInt8 → List UInt8
  | [] => []
  | x :: l => if x = 0 then 0 :: 255 :: esc l else x :: esc l
theorem esc_append (a b : List UInt8) : esc (a ++ b) = esc a ++ esc b := by
  induction a with
  | nil => rfl
  | cons x a ih => simp only [List.cons_append, esc]; split <;> simp [ih]
theorem esc_length (a : List UInt8) : (esc a).length ≤ 2 * a.length ∧ a.length ≤ (esc a).length := by
  induction a with
  | nil => simp [esc]
  | cons x a ih => simp only [esc]; split <;> simp <;> omega
theorem zero_lt {y : UInt8} (h : ¬ y = 0) : (0 : UInt8) < y := by
  rw [UInt8.lt_iff_toNat_lt]
  have : y.toNat ≠ 0 := fun e => h (UInt8.toNat.inj e)
  show 0 < y.toNat
  omega
theorem esc_cb (a b r s : List UInt8) : compareBytes (esc a ++ 0 :: 0 :: r) (esc b ++ 0 :: 0 :: s) = if a = b then compareBytes r s else compareBytes a b := by
  induction a generalizing b with
  | nil =>
    cases b with
    | nil => simp [esc, compareBytes]
    | cons y b =>
      simp only [esc]
      split
      · simp [compareBytes]
      · rename_i h
        simp [compareBytes, zero_lt h]
  | cons x a ih =>
    cases b with
    | nil =>
      simp only [esc]
      split
      · simp [compareBytes]
      · rename_i h
        have h1 := zero_lt h
        have h2 : ¬ x < 0 := fun h' => UInt8.lt_irrefl _ (UInt8.lt_trans h' h1)
        simp [compareBytes, h1, h2]
    | cons y b =>
      have ihb := ih b
      simp only [esc]
      by_cases hx : x = 0
      · by_cases hy : y = 0
        · subst hx hy
          simp [compareBytes, ihb]
        · subst hx
          have hne : ¬ (0 : UInt8) = y := fun h => hy h.symm
          simp [compareBytes, hy, hne, zero_lt hy]
      · by_cases hy : y = 0
        · subst hy
          have h1 := zero_lt hx
          have h2 : ¬ x < 0 := fun h' => UInt8.lt_irrefl _ (UInt8.lt_trans h' h1)
          simp [compareBytes, hx, h1, h2]
        · simp only [hx, hy, if_false, List.cons_append, compareBytes, ihb]
          by_cases h1 : x < y
          · have : ¬ x = y := fun h => by subst h; exact UInt8.lt_irrefl _ h1
            simp [h1, this]
          · by_cases h2 : y < x
            · have : ¬ x = y := fun h => by subst h; exact UInt8.lt_irrefl _ h2
              simp [h1, h2, this]
            · have : x = y := UInt8.le_antisymm (UInt8.not_lt.1 h2) (UInt8.not_lt.1 h1)
              subst this
              simp

/-! Parts. -/
structure Pt where
  k : Int
  n : Int
  s : ByteArray
def Pt.zero : Pt := ⟨0, 0, ByteArray.empty⟩
def Pt.t (p : Pt) : List UInt8 := p.s.data.toList
def Pt.ok (p : Pt) : Prop := inI p.k ∧ inI p.n
theorem bytes_inj {a b : ByteArray} (h : a.data.toList = b.data.toList) : a = b := by
  cases a; cases b; simp at h; rw [h]
theorem Pt.ext' {p q : Pt} (h1 : p.k = q.k) (h2 : p.n = q.n) (h3 : p.t = q.t) : p = q := by
  cases p; cases q; simp only [Pt.t] at *; subst h1 h2; rw [bytes_inj h3]
abbrev right (p : Pt) : Prop := (p.k = 1 ∧ p.s.size = 0) ∨ (p.k = 2 ∧ p.n = 0)
def partB (p : Pt) : List UInt8 := if p.k = 1 then 1 :: numB p.n else 2 :: (esc p.t ++ [0, 0])
def cI (a b : Int) : Int := if a < b then -1 else if b < a then 1 else 0
def cP (p q : Pt) : Int := if cI p.k q.k ≠ 0 then cI p.k q.k else if cI p.n q.n ≠ 0 then cI p.n q.n else compareBytes p.t q.t
theorem cI_anti (a b : Int) : cI b a = - cI a b := by unfold cI; split <;> split <;> first | omega | rfl
theorem cI_zero {a b : Int} : cI a b = 0 ↔ a = b := by unfold cI; split <;> (try split) <;> constructor <;> intro h <;> omega
theorem cP_anti (p q : Pt) : cP q p = - cP p q := by
  unfold cP
  rw [cI_anti p.k, cI_anti p.n, cb_anti p.t]
  by_cases h1 : cI p.k q.k = 0
  · by_cases h2 : cI p.n q.n = 0
    · simp [h1, h2]
    · simp [h1, h2]
  · simp [h1]
theorem cP_zero {p q : Pt} : cP p q = 0 ↔ p = q := by
  constructor
  · intro h
    unfold cP at h
    split at h
    · exact absurd h ‹_›
    · split at h
      · exact absurd h ‹_›
      · rename_i h1 h2
        exact Pt.ext' (cI_zero.1 (Decidable.not_not.1 h1)) (cI_zero.1 (Decidable.not_not.1 h2)) (cb_zero h)
  · rintro rfl
    unfold cP
    simp [cI, cb_self]
theorem cP_self (p : Pt) : cP p p = 0 := cP_zero.2 rfl

theorem empty_of {p : Pt} (h : p.s.size = 0) : p.t = [] := by
  have : p.s.data.toList.length = 0 := by rw [Array.length_toList]; exact h
  exact List.length_eq_zero_iff.1 this
/-- Right parts with something behind each: the first difference between the parts decides. -/
theorem part_cb {p q : Pt} (hp : right p) (hq : right q) (op : p.ok) (oq : q.ok) (r s : List UInt8) :
    compareBytes (partB p ++ r) (partB q ++ s) = if cP p q ≠ 0 then cP p q else compareBytes r s := by
  rcases hp with ⟨hk, ht⟩ | ⟨hk, ht⟩ <;> rcases hq with ⟨gk, gt⟩ | ⟨gk, gt⟩
  · have e1 := empty_of ht
    have e2 := empty_of gt
    have hl : (numB p.n).length = (numB q.n).length := by simp [numB, be_length]
    simp only [partB, hk, gk, if_true, List.cons_append, compareBytes]
    rw [cb_val hl]
    have v1 : val (numB p.n) = numU p.n := val_be (numU_lt op.2)
    have v2 : val (numB q.n) = numU q.n := val_be (numU_lt oq.2)
    rw [v1, v2]
    have o1 := op.2.1
    have o2 := oq.2.1
    have a1 : (numU p.n < numU q.n) = (p.n < q.n) := propext (by unfold numU; omega)
    have a2 : (numU q.n < numU p.n) = (q.n < p.n) := propext (by unfold numU; omega)
    simp only [UInt8.lt_irrefl, if_false, cP, hk, gk, e1, e2, cI, compareBytes, Int.lt_irrefl, a1, a2]
    by_cases h1 : p.n < q.n
    · simp [h1]
    · by_cases h2 : q.n < p.n
      · simp [h1, h2]
      · simp [h1, h2]
  · simp [partB, hk, gk, cP, cI, compareBytes]
  · simp [partB, hk, gk, cP, cI, compareBytes]
  · have h21 : ¬ ((2 : Int) = 1) := by omega
    simp only [partB, hk, gk, if_neg h21, List.cons_append, List.append_assoc, List.nil_append, compareBytes, UInt8.lt_irrefl, if_false]
    rw [esc_cb]
    have : cP p q = compareBytes p.t q.t := by simp [cP, hk, gk, ht, gt, cI]
    rw [this]
    by_cases h : p.t = q.t
    · simp [h, cb_self]
    · have h' : compareBytes p.t q.t ≠ 0 := fun e => h (cb_zero e)
      simp [h, h']
theorem part_ne {p : Pt} : partB p ≠ [] := by unfold partB; split <;> simp

/-! Keys. -/
def keyOf (ps : List Pt) : List UInt8 := (ps.map partB).flatten
abbrev rights (ps : List Pt) : Prop := ∀ p ∈ ps, right p
def oks (ps : List Pt) : Prop := ∀ p ∈ ps, p.ok
theorem keyOf_cons (p : Pt) (ps : List Pt) : keyOf (p :: ps) = partB p ++ keyOf ps := by simp [keyOf]
theorem keyOf_append (a b : List Pt) : keyOf (a ++ b) = keyOf a ++ keyOf b := by simp [keyOf]
theorem keyOf_snoc (a : List Pt) (p : Pt) : keyOf (a ++ [p]) = keyOf a ++ partB p := by simp [keyOf]
def cL : List Pt → List Pt → Int
  | [], [] => 0
  | [], _ :: _ => -1
  | _ :: _, [] => 1
  | p :: a, q :: b => if cP p q ≠ 0 then cP p q else cL a b
theorem cL_anti (a b : List Pt) : cL b a = - cL a b := by
  induction a generalizing b with
  | nil => cases b <;> simp [cL]
  | cons p a ih =>
    cases b with
    | nil => simp [cL]
    | cons q b =>
      simp only [cL]
      rw [cP_anti p q, ih]
      by_cases h : cP p q = 0 <;> simp [h]
theorem cL_zero {a b : List Pt} : cL a b = 0 ↔ a = b := by
  induction a generalizing b with
  | nil => cases b <;> simp [cL]
  | cons p a ih =>
    cases b with
    | nil => simp [cL]
    | cons q b =>
      simp only [cL]
      by_cases h : cP p q = 0
      · obtain rfl := cP_zero.1 h
        simp [cP_self, ih]
      · have : ¬ p = q := fun e => h (cP_zero.2 e)
        simp [h, this]
theorem key_cb {a b : List Pt} (ha : rights a) (hb : rights b) (oa : oks a) (ob : oks b) : compareBytes (keyOf a) (keyOf b) = cL a b := by
  induction a generalizing b with
  | nil =>
    cases b with
    | nil => rfl
    | cons q b =>
      rw [keyOf_cons]
      obtain ⟨x, l, e⟩ := List.exists_cons_of_ne_nil (part_ne (p := q))
      rw [e]
      simp [keyOf, compareBytes, cL]
  | cons p a ih =>
    cases b with
    | nil =>
      rw [keyOf_cons]
      obtain ⟨x, l, e⟩ := List.exists_cons_of_ne_nil (part_ne (p := p))
      rw [e]
      simp [keyOf, compareBytes, cL]
    | cons q b =>
      rw [keyOf_cons, keyOf_cons, part_cb (ha p (by simp)) (hb q (by simp)) (oa p (by simp)) (ob q (by simp)), cL]
      rw [ih (fun x h => ha x (by simp [h])) (fun x h => hb x (by simp [h])) (fun x h => oa x (by simp [h])) (fun x h => ob x (by simp [h]))]
theorem key_inj {a b : List Pt} (ha : rights a) (hb : rights b) (oa : oks a) (ob : oks b) (h : keyOf a = keyOf b) : a = b := by
  have := key_cb ha hb oa ob
  rw [h, cb_self] at this
  exact cL_zero.1 this.symm
/-- No part's bytes are the beginning of another's. -/
theorem part_free {p q : Pt} (hp : right p) (hq : right q) (op : p.ok) (oq : q.ok) {r s : List UInt8} (h : partB p ++ r = partB q ++ s) : p = q ∧ r = s := by
  have h1 := part_cb hp hq op oq r s
  rw [h, cb_self] at h1
  have : cP p q = 0 := by
    by_cases hc : cP p q = 0
    · exact hc
    · rw [if_pos hc] at h1; exact absurd h1.symm hc
  have e := cP_zero.1 this
  subst e
  exact ⟨rfl, List.append_cancel_left h⟩
theorem key_begins {a b : List Pt} (ha : rights a) (hb : rights b) (oa : oks a) (ob : oks b) : keyOf a <+: keyOf b ↔ a <+: b := by
  constructor
  · intro h
    induction a generalizing b with
    | nil => exact List.nil_prefix
    | cons p a ih =>
      rw [keyOf_cons] at h
      cases b with
      | nil =>
        obtain ⟨t, ht⟩ := h
        obtain ⟨x, l, e⟩ := List.exists_cons_of_ne_nil (part_ne (p := p))
        rw [e] at ht
        simp [keyOf] at ht
      | cons q b =>
        rw [keyOf_cons] at h
        obtain ⟨t, ht⟩ := h
        rw [List.append_assoc] at ht
        obtain ⟨rfl, h2⟩ := part_free (ha p (by simp)) (hb q (by simp)) (oa p (by simp)) (ob q (by simp)) ht
        have := ih (fun x h => ha x (by simp [h])) (fun x h => hb x (by simp [h])) (fun x h => oa x (by simp [h])) (fun x h => ob x (by simp [h])) ⟨t, h2⟩
        exact List.cons_prefix_cons.2 ⟨rfl, this⟩
  · rintro ⟨t, rfl⟩
    exact ⟨keyOf t, by rw [keyOf_append]⟩

/-! The end of a prefix. -/
/-- The end, over the bytes backwards. -/
def endR : List UInt8 → List UInt8
  | [] => []
  | x :: l => if x = 255 then endR l else (x + 1) :: l
def endOf (l : List UInt8) : List UInt8 := (endR l.reverse).reverse
theorem endOf_snoc (l : List UInt8) (x : UInt8) : endOf (l ++ [x]) = if x = 255 then endOf l else l ++ [x + 1] := by
  simp only [endOf, List.reverse_append, List.reverse_cons, List.reverse_nil, List.nil_append, List.singleton_append, endR]
  split <;> simp
/-- A prefix is bytes whose last can grow and then bytes that cannot, or these alone. -/
theorem end_form (p : List UInt8) : (∃ k, p = List.replicate k 255 ∧ endOf p = []) ∨ ∃ q x k, x ≠ 255 ∧ p = q ++ x :: List.replicate k 255 ∧ endOf p = q ++ [x + 1] := by
  generalize hr : p.reverse = r
  induction r generalizing p with
  | nil =>
    left
    have : p = [] := by simpa using congrArg List.reverse hr
    exact ⟨0, by simp [this], by simp [this, endOf, endR]⟩
  | cons y r ih =>
    have hp : p = r.reverse ++ [y] := by
      have := congrArg List.reverse hr
      simpa using this
    subst hp
    rw [endOf_snoc]
    by_cases hy : y = 255
    · subst hy
      rw [if_pos rfl]
      rcases ih r.reverse (by simp) with ⟨k, h1, h2⟩ | ⟨q, x, k, hx, h1, h2⟩
      · exact .inl ⟨k + 1, by rw [h1, List.replicate_succ'], h2⟩
      · exact .inr ⟨q, x, k + 1, hx, by rw [h1, List.append_assoc, List.cons_append, List.replicate_succ'], h2⟩
    · rw [if_neg hy]
      exact .inr ⟨r.reverse, y, 0, hy, by simp, rfl⟩
theorem last_ge (k : Nat) (t : List UInt8) : 0 ≤ compareBytes t (List.replicate k 255) ↔ List.replicate k 255 <+: t := by
  induction k generalizing t with
  | zero =>
    simp only [List.replicate_zero, List.nil_prefix, iff_true]
    cases t <;> simp [compareBytes]
  | succ k ih =>
    rw [List.replicate_succ]
    cases t with
    | nil => simp [compareBytes]
    | cons y t =>
      rw [List.cons_prefix_cons, ← ih, compareBytes]
      have hmax : ¬ (255 : UInt8) < y := by
        rw [UInt8.lt_iff_toNat_lt]
        have := y.toNat_lt
        show ¬ 255 < y.toNat
        omega
      by_cases h : y < 255
      · have : ¬ (255 : UInt8) = y := fun e => by subst e; exact UInt8.lt_irrefl _ h
        simp [h, this]
      · have : y = 255 := UInt8.le_antisymm (UInt8.not_lt.1 hmax) (UInt8.not_lt.1 h)
        subst this
        simp
theorem begins_iff (p t : List UInt8) : p <+: t ↔ 0 ≤ compareBytes t p ∧ (endOf p = [] ∨ compareBytes t (endOf p) < 0) := by
  rcases end_form p with ⟨k, h1, h2⟩ | ⟨q, x, k, hx, h1, h2⟩
  · rw [h2, h1, last_ge]; simp
  · rw [h2, h1]
    have hne : q ++ [x + 1] ≠ [] := by simp
    simp only [hne, false_or]
    clear h1 h2 hne
    have hx1 : (x + 1).toNat = x.toNat + 1 := by
      have := x.toNat_lt
      have h255 : x.toNat ≠ 255 := fun e => hx (UInt8.toNat.inj e)
      rw [UInt8.toNat_add]
      show (x.toNat + 1) % 256 = _
      omega
    induction q generalizing t with
    | nil =>
      cases t with
      | nil => simp [compareBytes]
      | cons y t =>
        simp only [List.nil_append, compareBytes]
        rw [List.cons_prefix_cons, ← last_ge]
        by_cases h1 : y < x
        · have : ¬ x = y := fun e => by subst e; exact UInt8.lt_irrefl _ h1
          simp [h1, this]
        · by_cases h2 : x < y
          · have hne : ¬ x = y := fun e => by subst e; exact UInt8.lt_irrefl _ h2
            have h3 : ¬ y < x + 1 := by
              rw [UInt8.lt_iff_toNat_lt] at h2 ⊢
              omega
            have h4 : x + 1 < y ∨ y = x + 1 := by
              by_cases h5 : x + 1 < y
              · exact .inl h5
              · exact .inr (UInt8.le_antisymm (UInt8.not_lt.1 h5) (UInt8.not_lt.1 h3))
            rcases h4 with h4 | h4
            · simp [h1, h2, h3, h4, hne]
            · subst h4
              have : ∀ l : List UInt8, ¬ compareBytes l [] < 0 := fun l => by cases l <;> simp [compareBytes]
              simp [h1, h2, hne, this]
          · have : y = x := UInt8.le_antisymm (UInt8.not_lt.1 h2) (UInt8.not_lt.1 h1)
            subst this
            have h3 : y < y + 1 := by rw [UInt8.lt_iff_toNat_lt]; omega
            simp [h3]
    | cons z q ih =>
      cases t with
      | nil => simp [compareBytes]
      | cons y t =>
        simp only [List.cons_append, compareBytes]
        have e := propext (ih t)
        rw [List.cons_prefix_cons, e]
        by_cases h1 : y < z
        · have : ¬ z = y := fun e => by subst e; exact UInt8.lt_irrefl _ h1
          simp [h1, this]
        · by_cases h2 : z < y
          · have : ¬ z = y := fun e => by subst e; exact UInt8.lt_irrefl _ h2
            simp [h1, h2, this]
          · have : y = z := UInt8.le_antisymm (UInt8.not_lt.1 h2) (UInt8.not_lt.1 h1)
            subst this
            simp
end Go.Proofs.Ytedjohkdfchocaa.Od
