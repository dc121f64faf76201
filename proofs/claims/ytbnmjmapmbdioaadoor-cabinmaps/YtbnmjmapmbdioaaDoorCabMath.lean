/-
  Package cabin, plainly: rows, seats, blocks; what a right map is; what stands where.
-/
namespace Go.Proofs.YtbnmjmapmbdioaaDoor.Cb
set_option linter.unusedVariables false

structure Rw where
  num : Int
  cab : Int
  zone : Int
  exit : Bool
  seats : ByteArray
structure Sp where
  num : Int
  ltr : Int
  cab : Int
  zone : Int
  blk : Int
  exit : Bool
  bld : Bool
structure Bk where
  cab : Int
  row : Int
  exit : Bool
  seats : List (Int × Int)
def Rw.zero : Rw := ⟨0, 0, 0, false, ⟨#[]⟩⟩
def Sp.zero : Sp := ⟨0, 0, 0, 0, 0, false, false⟩
def Bk.zero : Bk := ⟨0, 0, false, []⟩
/-- A small letter's great one; whatever else, as it is. -/
def gr (c : Int) : Int := if 97 ≤ c ∧ c ≤ 122 then c - 32 else c
def isL (c : Int) : Bool := decide (65 ≤ c) && decide (c ≤ 90)
/-- Are the signs right, behind n letters, the last of them l, e: an edge just ahead? -/
def scan : Int → Int → Bool → List UInt8 → Bool
  | n, _, e, [] => !e && decide (n ≤ 6)
  | n, l, e, c :: r => if (c.toNat : Int) = 46 then (if e = true then false else scan n l true r) else if isL (gr c.toNat) = true ∧ l < gr c.toNat then scan (n + 1) (gr c.toNat) false r else false
def Rw.list (r : Rw) : List UInt8 := r.seats.data.toList
def rowOK (r : Rw) : Bool := decide (1 ≤ r.num) && decide (r.num ≤ 99) && decide (1 ≤ r.cab) && decide (r.cab ≤ 3) && decide (0 ≤ r.zone) && decide (r.zone < 4) && scan 0 0 true r.list
def ups : Int → List Rw → Bool
  | _, [] => true
  | b, r :: t => if r.num ≤ b then false else if rowOK r = true then ups r.num t else false
def mapOK (rows : List Rw) : Bool := decide (1 ≤ rows.length) && decide (rows.length ≤ 6) && ups 0 rows
def sp (r : Rw) (c : Int) (b : Int) : Sp := ⟨r.num, gr c, r.cab, r.zone, b, r.exit, decide (gr c ≠ c)⟩
def rowSpots (r : Rw) : Int → List UInt8 → List Sp
  | _, [] => []
  | b, c :: t => if (c.toNat : Int) = 46 then rowSpots r (b + 1) t else sp r c.toNat b :: rowSpots r b t
def rowEnd : Int → List UInt8 → Int
  | b, [] => b
  | b, c :: t => if (c.toNat : Int) = 46 then rowEnd (b + 1) t else rowEnd b t
def spotsFrom : Int → List Rw → List Sp
  | _, [] => []
  | b, r :: t => rowSpots r b r.list ++ spotsFrom (rowEnd b r.list + 1) t
def spots (rows : List Rw) : List Sp := if mapOK rows = true then spotsFrom 0 rows else []
def Sp.seat (s : Sp) : Int × Int := (s.num, s.ltr)
/-- Where the seat stands, -1: nowhere. -/
def plc (a : Int × Int) : List Sp → Int
  | [] => -1
  | s :: t => if s.seat = a then 0 else if plc a t < 0 then -1 else plc a t + 1
def find (a : Int × Int) (sps : List Sp) : Option Sp := sps.find? fun s => decide (s.seat = a)
def nearL (sps : List Sp) (a b : Int × Int) : Bool :=
  let i := plc a sps
  let j := plc b sps
  if i < 0 ∨ j < 0 then false
  else if (sps.getD i.toNat Sp.zero).blk ≠ (sps.getD j.toNat Sp.zero).blk then false
  else decide (i + 1 = j) || decide (j + 1 = i)
def Bk.add (b : Bk) (s : Int × Int) : Bk := ⟨b.cab, b.row, b.exit, b.seats ++ [s]⟩
def opened (bs : List Bk) (s : Sp) : List Bk := if s.blk = bs.length then bs ++ [⟨s.cab, s.num, s.exit, []⟩] else bs
def step (bs : List Bk) (s : Sp) : List Bk := if s.bld = true then opened bs s else (opened bs s).modify s.blk.toNat (fun b => b.add s.seat)
def blocksOf (sps : List Sp) : List Bk := sps.foldl step []

/-! ### Right rows are short -/
theorem gr_id {c : Int} (h : ¬ (97 ≤ c ∧ c ≤ 122)) : gr c = c := if_neg h
theorem gr_low {c : Int} (h : 97 ≤ c ∧ c ≤ 122) : gr c = c - 32 := if_pos h
theorem isL_iff (c : Int) : isL c = true ↔ 65 ≤ c ∧ c ≤ 90 := by simp [isL]
theorem scan_dot {n l : Int} {e : Bool} {c : UInt8} {r : List UInt8} (h : (c.toNat : Int) = 46) : scan n l e (c :: r) = if e = true then false else scan n l true r := by rw [scan, if_pos h]
theorem scan_let {n l : Int} {e : Bool} {c : UInt8} {r : List UInt8} (h : (c.toNat : Int) ≠ 46) (h1 : isL (gr c.toNat) = true) (h2 : l < gr c.toNat) : scan n l e (c :: r) = scan (n + 1) (gr c.toNat) false r := by rw [scan, if_neg h, if_pos ⟨h1, h2⟩]
theorem scan_bad {n l : Int} {e : Bool} {c : UInt8} {r : List UInt8} (h : (c.toNat : Int) ≠ 46) (h1 : ¬ (isL (gr c.toNat) = true ∧ l < gr c.toNat)) : scan n l e (c :: r) = false := by rw [scan, if_neg h, if_neg h1]
theorem scan_le {n l : Int} {e : Bool} {L : List UInt8} (h : scan n l e L = true) : n ≤ 6 ∧ (L.length : Int) ≤ 2 * (6 - n) + (if e = true then 0 else 1) ∧ (∀ r b, ((rowSpots r b L).length : Int) ≤ 6 - n) := by
  induction L generalizing n l e with
  | nil =>
    simp [scan] at h
    refine ⟨h.2, ?_, fun r b => ?_⟩
    · rw [h.1]; simp; omega
    · simp [rowSpots]; omega
  | cons c L ih =>
    by_cases hd : (c.toNat : Int) = 46
    · rw [scan_dot hd] at h
      cases e
      · simp at h
        obtain ⟨h1, h2, h3⟩ := ih h
        refine ⟨h1, ?_, fun r b => ?_⟩
        · simp at h2 ⊢; omega
        · rw [rowSpots, if_pos hd]; exact h3 r _
      · simp at h
    · by_cases hl : isL (gr c.toNat) = true ∧ l < gr c.toNat
      · rw [scan_let hd hl.1 hl.2] at h
        obtain ⟨h1, h2, h3⟩ := ih h
        refine ⟨by omega, ?_, fun r b => ?_⟩
        · simp at h2 ⊢; split <;> omega
        · rw [rowSpots, if_neg hd]; have := h3 r b; simp; omega
      · rw [scan_bad hd hl] at h; cases h
theorem rowOK_scan {r : Rw} (h : rowOK r = true) : scan 0 0 true r.list = true := by
  simp [rowOK] at h; exact h.2
theorem rowOK_num {r : Rw} (h : rowOK r = true) : 1 ≤ r.num ∧ r.num ≤ 99 := by
  simp [rowOK] at h; exact ⟨h.1.1.1.1.1.1, h.1.1.1.1.1.2⟩
theorem ups_cons {b : Int} {r : Rw} {t : List Rw} (h : ups b (r :: t) = true) : b < r.num ∧ rowOK r = true ∧ ups r.num t = true := by
  rw [ups] at h
  by_cases h1 : r.num ≤ b
  · rw [if_pos h1] at h; cases h
  · rw [if_neg h1] at h
    by_cases h2 : rowOK r = true
    · rw [if_pos h2] at h; exact ⟨by omega, h2, h⟩
    · rw [if_neg h2] at h; cases h
theorem spotsFrom_le {b p : Int} {rows : List Rw} (h : ups p rows = true) : (spotsFrom b rows).length ≤ 6 * rows.length := by
  induction rows generalizing b p with
  | nil => simp [spotsFrom]
  | cons r t ih =>
    obtain ⟨_, h2, h3⟩ := ups_cons h
    have h4 := (scan_le (rowOK_scan h2)).2.2 r b
    have h5 := ih (b := rowEnd b r.list + 1) h3
    rw [spotsFrom, List.length_append, List.length_cons]
    omega
theorem mapOK_parts {rows : List Rw} (h : mapOK rows = true) : 1 ≤ rows.length ∧ rows.length ≤ 6 ∧ ups 0 rows = true := by
  simp [mapOK] at h; exact ⟨by have := h.1.1; omega, h.1.2, h.2⟩
theorem spots_le (rows : List Rw) : (spots rows).length ≤ 36 := by
  unfold spots
  split
  · next h =>
    obtain ⟨_, h2, h3⟩ := mapOK_parts h
    have := spotsFrom_le (b := 0) h3
    omega
  · simp
theorem ups_mem {b : Int} {rows : List Rw} (h : ups b rows = true) : ∀ r ∈ rows, rowOK r = true ∧ b < r.num := by
  induction rows generalizing b with
  | nil => intro r hr; simp at hr
  | cons r t ih =>
    obtain ⟨h1, h2, h3⟩ := ups_cons h
    intro x hx
    rcases List.mem_cons.1 hx with rfl | hx
    · exact ⟨h2, h1⟩
    · have := ih h3 x hx
      exact ⟨this.1, by omega⟩
theorem list_size (r : Rw) : r.list.length = r.seats.size := by show r.seats.data.toList.length = r.seats.data.size; rw [Array.length_toList]
theorem row_short {r : Rw} (h : rowOK r = true) : r.seats.size ≤ 12 := by
  have := (scan_le (rowOK_scan h)).2.1
  rw [list_size] at this
  simp at this; omega

/-! ### The blocks' numbers, the seats' order -/
/-- From m blocks on, the last of them of that cabin, row and exit: each seat stands in the last block or begins the next. -/
def Ch : Nat → Int → Int → Bool → List Sp → Prop
  | _, _, _, _, [] => True
  | m, c, u, x, s :: t => (s.blk = (m : Int) ∨ (s.blk + 1 = (m : Int) ∧ s.cab = c ∧ s.num = u ∧ s.exit = x)) ∧ 0 ≤ s.blk ∧ Ch (if s.blk = (m : Int) then m + 1 else m) s.cab s.num s.exit t
theorem ch_row {r : Rw} {n l : Int} {e : Bool} {L : List UInt8} {T : List Sp} {b : Nat} {c u : Int} {x : Bool} (h : scan n l e L = true) (he : e = false → c = r.cab ∧ u = r.num ∧ x = r.exit)
    (hT : ∀ m : Nat, (m : Int) = rowEnd b L + 1 → Ch m r.cab r.num r.exit T) : Ch (if e = true then b else b + 1) c u x (rowSpots r b L ++ T) := by
  induction L generalizing n l e b c u x with
  | nil =>
    simp [scan] at h
    obtain ⟨rfl, _⟩ := h
    obtain ⟨rfl, rfl, rfl⟩ := he rfl
    exact hT (b + 1) (by simp [rowEnd])
  | cons k L ih =>
    by_cases hd : (k.toNat : Int) = 46
    · rw [scan_dot hd] at h
      cases e
      · simp at h
        rw [rowSpots, if_pos hd]
        have := ih (e := true) (b := b + 1) (c := c) (u := u) (x := x) h (by intro h; cases h) (fun m hm => hT m (by rw [rowEnd, if_pos hd, hm]; simp))
        simpa using this
      · simp at h
    · by_cases hl : isL (gr k.toNat) = true ∧ l < gr k.toNat
      · rw [scan_let hd hl.1 hl.2] at h
        rw [rowSpots, if_neg hd]
        have := ih (e := false) (b := b) (c := r.cab) (u := r.num) (x := r.exit) h (fun _ => ⟨rfl, rfl, rfl⟩) (fun m hm => hT m (by rw [rowEnd, if_neg hd, hm]))
        simp at this
        show Ch _ _ _ _ (sp r k.toNat b :: (rowSpots r b L ++ T))
        cases e
        · obtain ⟨rfl, rfl, rfl⟩ := he rfl
          refine ⟨.inr ⟨by simp [sp], rfl, rfl, rfl⟩, by simp [sp], ?_⟩
          have hne : ¬ ((sp r (k.toNat : Int) b).blk = ((b + 1 : Nat) : Int)) := by simp [sp]; omega
          simp only [Bool.false_eq_true, if_false]
          rw [if_neg hne]; exact this
        · refine ⟨.inl (by simp [sp]), by simp [sp], ?_⟩
          simp only [if_true]
          rw [if_pos (by simp [sp])]; exact this
      · rw [scan_bad hd hl] at h; cases h
theorem rowEnd_ge (b : Int) (L : List UInt8) : b ≤ rowEnd b L := by
  induction L generalizing b with
  | nil => simp [rowEnd]
  | cons c L ih =>
    rw [rowEnd]
    split
    · have := ih (b + 1); omega
    · exact ih b
theorem ch_from {p : Int} {rows : List Rw} {b : Nat} {c u : Int} {x : Bool} (h : ups p rows = true) : Ch b c u x (spotsFrom b rows) := by
  induction rows generalizing b p c u x with
  | nil => simp [spotsFrom, Ch]
  | cons r t ih =>
    obtain ⟨_, h2, h3⟩ := ups_cons h
    rw [spotsFrom]
    have := ch_row (r := r) (e := true) (b := b) (c := c) (u := u) (x := x) (T := spotsFrom (rowEnd b r.list + 1) t) (rowOK_scan h2) (by intro h; cases h) (fun m hm => by rw [← hm]; exact ih h3)
    simpa using this
theorem ch_spots (rows : List Rw) : Ch 0 0 0 false (spots rows) := by
  unfold spots
  split
  · next h => exact ch_from (b := 0) (mapOK_parts h).2.2
  · simp [Ch]
/-- The seats rise. -/
def lessS (a b : Sp) : Prop := a.num < b.num ∨ (a.num = b.num ∧ a.ltr < b.ltr)
theorem rise_row {r : Rw} {n l : Int} {e : Bool} {L : List UInt8} {b : Int} (h : scan n l e L = true) : (rowSpots r b L).Pairwise lessS ∧ ∀ s ∈ rowSpots r b L, s.num = r.num ∧ l < s.ltr ∧ 65 ≤ s.ltr ∧ s.ltr ≤ 90 := by
  induction L generalizing n l e b with
  | nil => exact ⟨List.Pairwise.nil, fun s hs => by simp [rowSpots] at hs⟩
  | cons k L ih =>
    by_cases hd : (k.toNat : Int) = 46
    · rw [scan_dot hd] at h
      rw [rowSpots, if_pos hd]
      cases e
      · simp at h; exact ih h
      · simp at h
    · by_cases hl : isL (gr k.toNat) = true ∧ l < gr k.toNat
      · rw [scan_let hd hl.1 hl.2] at h
        rw [rowSpots, if_neg hd]
        obtain ⟨h1, h2⟩ := ih (b := b) h
        have hb := (isL_iff _).1 hl.1
        refine ⟨List.Pairwise.cons (fun s hs => .inr ⟨(h2 s hs).1.symm, (h2 s hs).2.1⟩) h1, fun s hs => ?_⟩
        rcases List.mem_cons.1 hs with rfl | hs
        · exact ⟨rfl, hl.2, hb.1, hb.2⟩
        · obtain ⟨a, b, c⟩ := h2 s hs
          exact ⟨a, by omega, c⟩
      · rw [scan_bad hd hl] at h; cases h
theorem rise_from {p b : Int} {rows : List Rw} (h : ups p rows = true) : (spotsFrom b rows).Pairwise lessS ∧ ∀ s ∈ spotsFrom b rows, p < s.num := by
  induction rows generalizing b p with
  | nil => exact ⟨List.Pairwise.nil, fun s hs => by simp [spotsFrom] at hs⟩
  | cons r t ih =>
    obtain ⟨h1, h2, h3⟩ := ups_cons h
    obtain ⟨a1, a2⟩ := rise_row (r := r) (b := b) (rowOK_scan h2)
    obtain ⟨b1, b2⟩ := ih (b := rowEnd b r.list + 1) h3
    rw [spotsFrom]
    refine ⟨List.pairwise_append.2 ⟨a1, b1, fun s hs s' hs' => .inl ?_⟩, fun s hs => ?_⟩
    · rw [(a2 s hs).1]; exact b2 s' hs'
    · rcases List.mem_append.1 hs with hs | hs
      · rw [(a2 s hs).1]; exact h1
      · have := b2 s hs; omega
theorem rise_spots (rows : List Rw) : (spots rows).Pairwise lessS := by
  unfold spots
  split
  · next h => exact (rise_from (mapOK_parts h).2.2).1
  · exact List.Pairwise.nil
theorem lessS_ne {a b : Sp} (h : lessS a b) : a.seat ≠ b.seat := by
  intro e
  unfold Sp.seat at e
  simp only [Prod.mk.injEq] at e
  rcases h with h | h <;> omega
end Go.Proofs.YtbnmjmapmbdioaaDoor.Cb
