/-
  The statement CabinMaps, walked: maps are judged and laid out, seat by seat and block by block, as the document says.
-/
import Derived.Test.YtbnmjmapmbdioaaDoorCabLives
import Derived.Test.YtbnmjmapmbdioaaDoorCabMapsMarks
import Derived.Test.YtbnmjmapmbdioaaDoorCabRefCheck
import Derived.Test.YtbnmjmapmbdioaaDoorCabRefSpots
import Derived.Test.YtbnmjmapmbdioaaDoorCabRefBlocks
import Derived.Test.YtbnmjmapmbdioaaDoorCabPartsMath
import Derived.Deep.CutRange
namespace Go.Proofs.YtbnmjmapmbdioaaDoor.Cb
open Go.RowKit Cm Go.Shelf
attribute [local go_sem ↓] Go.wp_at_zero Go.wp_at_succ
set_option linter.unusedVariables false

def mk7 : Rw := ⟨-7, 0, 0, false, ⟨#[]⟩⟩
theorem infoRw : (Tryd.prog.info? 25).map (fun i => (i.zero, i.size, i.bytes)) = some (some (.agg #[.int .i64 0, .int .i64 0, .int .i64 0, .bool false, .string ⟨#[]⟩]), 5, 48) := by kernel_rfl
theorem own_nil (w : World) (e : TypeId) (k base : Nat) (h : base ≤ w.heap.size) : (w.alloc (.cells #[] e)).ownsRow base e k (.slice (some ⟨w.heap.size, 0, none⟩) 0 0) 0 [] :=
  ⟨by simp, .inr ⟨w.heap.size, 0, #[], rfl, h, heap_alloc_new w _, by simp, by simp, by simp, by simp⟩⟩
theorem rw_one (w : World) (r : Rw) : ElemsAt rwShape (w.alloc (rwObj r)) (some ⟨w.heap.size, 0, none⟩) [r] := by
  refine .inr ⟨w.heap.size, 0, rfl, by simp, fun i hi j u hu => ?_⟩
  obtain rfl : i = 0 := by simpa using hi
  rw [Joins.cell_of_block (show (w.alloc (rwObj r)).heap[w.heap.size]? = some (.cells #[.int .i64 r.num, .int .i64 r.cab, .int .i64 r.zone, .bool r.exit, .string r.seats] 25 (0, 0)) from heap_alloc_new w _)]
  match j, hu with
  | 0, hu => exact hu
  | 1, hu => exact hu
  | 2, hu => exact hu
  | 3, hu => exact hu
  | 4, hu => exact hu
  | (k + 5), hu => simp [rwShape] at hu
theorem sp_one (w : World) (s : Sp) : ElemsAt spShape (w.alloc (spObj s)) (some ⟨w.heap.size, 0, none⟩) [s] := by
  refine .inr ⟨w.heap.size, 0, rfl, by simp, fun i hi j u hu => ?_⟩
  obtain rfl : i = 0 := by simpa using hi
  rw [Joins.cell_of_block (show (w.alloc (spObj s)).heap[w.heap.size]? = some (.cells #[.int .i64 s.num, .int .u8 s.ltr, .int .i64 s.cab, .int .i64 s.zone, .int .i64 s.blk, .bool s.exit, .bool s.bld] 40 (0, 0)) from heap_alloc_new w _)]
  match j, hu with
  | 0, hu => exact hu
  | 1, hu => exact hu
  | 2, hu => exact hu
  | 3, hu => exact hu
  | 4, hu => exact hu
  | 5, hu => exact hu
  | 6, hu => exact hu
  | (k + 7), hu => simp [spShape] at hu
theorem se_one (w : World) (a b : Int) : ElemsAt seShape (w.alloc (seObj a b)) (some ⟨w.heap.size, 0, none⟩) [(a, b)] := by
  refine .inr ⟨w.heap.size, 0, rfl, by simp, fun i hi j u hu => ?_⟩
  obtain rfl : i = 0 := by simpa using hi
  rw [Joins.cell_of_block (show (w.alloc (seObj a b)).heap[w.heap.size]? = some (.cells #[.int .i64 a, .int .u8 b] 38 (0, 0)) from heap_alloc_new w _)]
  match j, hu with
  | 0, hu => exact hu
  | 1, hu => exact hu
  | (k + 2), hu => simp [seShape] at hu
theorem rw_front {w : World} {ao : Option Addr} {xs ys : List Rw} (h : ElemsAt rwShape w ao (xs ++ ys)) : ElemsAt rwShape w ao xs := by
  rcases h with h | ⟨b, off, rfl, hb, hc⟩
  · exact .inl (List.append_eq_nil_iff.1 h).1
  · refine .inr ⟨b, off, rfl, hb, fun i hi j u hu => ?_⟩
    refine hc i (by rw [List.length_append]; omega) j u ?_
    rw [List.getElem_append_left hi]; exact hu
theorem own_form {w : World} {B n k : Nat} {e : TypeId} {v : Value} {vs : List Value} (h : w.ownsRow B e k v n vs) (hn : 0 < n) : ∃ g cap, v = .slice (some ⟨g, 0, none⟩) n cap ∧ B ≤ g ∧ g < w.heap.size ∧ n ≤ cap := by
  rcases h.2 with ⟨rfl, h0⟩ | ⟨g, cap, cur, rfl, hB, hg, hle, _⟩
  · omega
  · exact ⟨g, cap, rfl, hB, lt_of_block hg, hle⟩
/-- What three calls leave, in whatever order they came. -/
def Three (R : Value → World → Nat → Nat → Prop) (Z X : World) (va vb vw : Value) : Prop := ∃ Ba Ea Bb Eb Bw Ew, R va X Ba Ea ∧ R vb X Bb Eb ∧ R vw X Bw Ew ∧ Z.heap.size ≤ Ba ∧ Z.heap.size ≤ Bb ∧ Z.heap.size ≤ Bw ∧ Ea ≤ X.heap.size ∧ Eb ≤ X.heap.size ∧ Ew ≤ X.heap.size ∧ (Ea ≤ Bb ∨ Eb ≤ Ba) ∧ (Ea ≤ Bw ∨ Ew ≤ Ba) ∧ Ba ≤ Ea ∧ Below Z.heap.size Z X
theorem three_all (R : Value → World → Nat → Nat → Prop) {Z X : World} {v1 v2 v3 : Value} {a b c : Nat} (h1 : R v1 X Z.heap.size a) (h2 : R v2 X a b) (h3 : R v3 X b c) (hs : Z.heap.size ≤ a) (hab : a ≤ b) (hbc : b ≤ c) (hc : c ≤ X.heap.size) (hb : Below Z.heap.size Z X) :
    Three R Z X v1 v2 v3 ∧ Three R Z X v1 v3 v2 ∧ Three R Z X v2 v1 v3 ∧ Three R Z X v2 v3 v1 ∧ Three R Z X v3 v1 v2 ∧ Three R Z X v3 v2 v1 := by
  refine ⟨?_, ?_, ?_, ?_, ?_, ?_⟩
  · exact ⟨_, _, _, _, _, _, h1, h2, h3, by omega, by omega, by omega, by omega, by omega, by omega, by omega, by omega, by omega, hb⟩
  · exact ⟨_, _, _, _, _, _, h1, h3, h2, by omega, by omega, by omega, by omega, by omega, by omega, by omega, by omega, by omega, hb⟩
  · exact ⟨_, _, _, _, _, _, h2, h1, h3, by omega, by omega, by omega, by omega, by omega, by omega, by omega, by omega, by omega, hb⟩
  · exact ⟨_, _, _, _, _, _, h2, h3, h1, by omega, by omega, by omega, by omega, by omega, by omega, by omega, by omega, by omega, hb⟩
  · exact ⟨_, _, _, _, _, _, h3, h1, h2, by omega, by omega, by omega, by omega, by omega, by omega, by omega, by omega, by omega, hb⟩
  · exact ⟨_, _, _, _, _, _, h3, h2, h1, by omega, by omega, by omega, by omega, by omega, by omega, by omega, by omega, by omega, hb⟩
theorem threeW {P Q R : World → Prop} {Z w1 w2 w3 : World} (h1 : P w1) (hb1 : Below Z.heap.size Z w1) (h2 : Q w2) (hb2 : Below w1.heap.size w1 w2) (h3 : R w3) (hb3 : Below w2.heap.size w2 w3) :
    InP P w3 Z.heap.size w1.heap.size ∧ InP Q w3 w1.heap.size w2.heap.size ∧ InP R w3 w2.heap.size w3.heap.size ∧ Z.heap.size ≤ w1.heap.size ∧ w1.heap.size ≤ w2.heap.size ∧ w2.heap.size ≤ w3.heap.size ∧ Below Z.heap.size Z w3 := by
  have s1 := hb1.size
  have s2 := hb2.size
  have s3 := hb3.size
  have i1 : InP P w1 Z.heap.size w1.heap.size := InP.now h1
  have i2 : InP Q w2 w1.heap.size w2.heap.size := InP.now h2
  have i3 : InP R w3 w2.heap.size w3.heap.size := InP.now h3
  exact ⟨(i1.later (Nat.le_refl _) hb2).later s2 hb3, i2.later (Nat.le_refl _) hb3, i3, s1, s2, s3, hb1.trans ((hb2.mono s1).trans (hb3.mono (by omega)))⟩
theorem three_sp {sps : List Sp} {Z w1 w2 w3 : World} {v1 v2 v3 : Value} (h1 : SpOwn w1 Z.heap.size v1 sps) (hb1 : Below Z.heap.size Z w1) (h2 : SpOwn w2 w1.heap.size v2 sps) (hb2 : Below w1.heap.size w1 w2) (h3 : SpOwn w3 w2.heap.size v3 sps) (hb3 : Below w2.heap.size w2 w3) :
    Three (SpI sps) Z w3 v1 v2 v3 ∧ Three (SpI sps) Z w3 v1 v3 v2 ∧ Three (SpI sps) Z w3 v2 v1 v3 ∧ Three (SpI sps) Z w3 v2 v3 v1 ∧ Three (SpI sps) Z w3 v3 v1 v2 ∧ Three (SpI sps) Z w3 v3 v2 v1 := by
  obtain ⟨i1, i2, i3, s1, s2, s3, hb⟩ := threeW (P := fun W => SpOwn W Z.heap.size v1 sps) (Q := fun W => SpOwn W w1.heap.size v2 sps) (R := fun W => SpOwn W w2.heap.size v3 sps) h1 hb1 h2 hb2 h3 hb3
  exact three_all (SpI sps) i1 i2 i3 s1 s2 s3 (Nat.le_refl _) hb
theorem three_bk {bs : List Bk} {Z w1 w2 w3 : World} {v1 v2 v3 : Value} (h1 : BlksAt w1 Z.heap.size v1 bs) (hb1 : Below Z.heap.size Z w1) (h2 : BlksAt w2 w1.heap.size v2 bs) (hb2 : Below w1.heap.size w1 w2) (h3 : BlksAt w3 w2.heap.size v3 bs) (hb3 : Below w2.heap.size w2 w3) :
    Three (BkI bs) Z w3 v1 v2 v3 ∧ Three (BkI bs) Z w3 v1 v3 v2 ∧ Three (BkI bs) Z w3 v2 v1 v3 ∧ Three (BkI bs) Z w3 v2 v3 v1 ∧ Three (BkI bs) Z w3 v3 v1 v2 ∧ Three (BkI bs) Z w3 v3 v2 v1 := by
  obtain ⟨i1, i2, i3, s1, s2, s3, hb⟩ := threeW (P := fun W => BlksAt W Z.heap.size v1 bs) (Q := fun W => BlksAt W w1.heap.size v2 bs) (R := fun W => BlksAt W w2.heap.size v3 bs) h1 hb1 h2 hb2 h3 hb3
  exact three_all (BkI bs) i1 i2 i3 s1 s2 s3 (Nat.le_refl _) hb
/-- Cutting a slice of rows from its beginning. -/
theorem cut_rows (ao : Option Addr) (len cap n : Nat) (hn : n ≤ cap) (W : World) :
    (Instr.slice 22 (.slice ao len cap) none (some (.int .i64 (n : Int))) none).run Tryd.prog W = .ok (.slice ao n cap) W := by
  have hel : Tryd.prog.elem 22 = 25 := by kernel_rfl
  have h := run_slice_h (P := Tryd.prog) W 22 ao len cap (by rw [hel]; exact Tryd.underlying22) .i64 (n : Int) (by omega) (by omega)
  rw [h]
  have e : ao.map (·.add 0) = ao := by
    cases ao with
    | none => rfl
    | some a => cases a; simp [Addr.add]
  have hz := Tryd.sizeOf25 W
  rw [hel, hz]
  simp [Result.andThen, sliced, e]
theorem foldLe (L : List Sp) (bs : List Bk) : (L.foldl step bs).length ≤ bs.length + L.length := by
  induction L generalizing bs with
  | nil => simp
  | cons s t ih =>
    rw [List.foldl_cons, List.length_cons]
    have h1 := ih (step bs s)
    have h2 : (step bs s).length = if s.blk = bs.length then bs.length + 1 else bs.length := by rw [step_length, opened_length]
    split at h2 <;> omega
theorem blocks_le36 (rows : List Rw) : (blocksOf (spots rows)).length ≤ 36 := by
  have h1 := foldLe (spots rows) []
  have h2 := spots_le rows
  unfold blocksOf
  simp only [List.length_nil] at h1
  omega
theorem seats_le36 (rows : List Rw) (k : Nat) : ((blocksOf (spots rows)).getD k Bk.zero).seats.length ≤ 36 := by
  by_cases hk : k < (blocksOf (spots rows)).length
  · rw [(good_all rows).seats k hk, List.length_map]
    exact Nat.le_trans (List.length_filter_le _ _) (spots_le rows)
  · rw [List.getD_eq_getElem?_getD, List.getElem?_eq_none (by omega)]
    simp [Bk.zero]
def set7 (w : World) (g i : Nat) (x : Sp) : World := ((((((w.setCell ⟨g, i * 7, none⟩ (.int .i64 x.num)).setCell ⟨g, i * 7 + 1, none⟩ (.int .u8 x.ltr)).setCell ⟨g, i * 7 + 2, none⟩ (.int .i64 x.cab)).setCell ⟨g, i * 7 + 3, none⟩ (.int .i64 x.zone)).setCell ⟨g, i * 7 + 4, none⟩ (.int .i64 x.blk)).setCell ⟨g, i * 7 + 5, none⟩ (.bool x.exit)).setCell ⟨g, i * 7 + 6, none⟩ (.bool x.bld)
/-- Spots in memory of one's own; all else lies as it did. -/
def MarkS (B : Nat) (v : Value) (n : Nat) (w0 w : World) : Prop := (∃ xs : List Sp, xs.length = n ∧ w.ownsRow B 40 7 v n (spShape.vals xs)) ∧ w0.grownBy w v.ownBlock
theorem MarkS.put {B n k cap g : Nat} {w0 w : World} (h : MarkS B (.slice (some ⟨g, 0, none⟩) n cap) n w0 w) (hk : k < n) (x : Sp) :
    (∀ j, w.frozen? ⟨g, j, none⟩ = false) ∧ (∃ y : Sp, w.cell? ⟨g, k * 7, none⟩ = some (.int .i64 y.num) ∧ w.cell? ⟨g, k * 7 + 1, none⟩ = some (.int .u8 y.ltr) ∧ w.cell? ⟨g, k * 7 + 2, none⟩ = some (.int .i64 y.cab) ∧ w.cell? ⟨g, k * 7 + 3, none⟩ = some (.int .i64 y.zone) ∧ w.cell? ⟨g, k * 7 + 4, none⟩ = some (.int .i64 y.blk) ∧ w.cell? ⟨g, k * 7 + 5, none⟩ = some (.bool y.exit) ∧ w.cell? ⟨g, k * 7 + 6, none⟩ = some (.bool y.bld)) ∧
      MarkS B (.slice (some ⟨g, 0, none⟩) n cap) n w0 (set7 w g k x) := by
  obtain ⟨⟨xs, hl, ho⟩, hg⟩ := h
  subst hl
  have hel : ElemsAt spShape w (some ⟨g, 0, none⟩) xs := by
    obtain ⟨ao, c, e, _, _, _, he⟩ := own_rows (F := spShape) ho
    cases e; exact he
  obtain ⟨pb, off, e, _, d0, d1, d2, d3, d4, d5, d6⟩ := spot_cells hel hk
  cases e
  rw [Nat.zero_add] at d0 d1 d2 d3 d4 d5 d6
  have hfz : ∀ j, w.frozen? ⟨g, j, none⟩ = false := by
    intro j
    rcases ho.2 with ⟨e, _⟩ | ⟨g', c', cur, e, _, hq, _⟩
    · cases e
    · cases e; simp [World.frozen?, hq]
  obtain ⟨s1, g1⟩ := ho.stored (k * 7) (.int .i64 x.num)
  obtain ⟨s2, g2⟩ := s1.stored (k * 7 + 1) (.int .u8 x.ltr)
  obtain ⟨s3, g3⟩ := s2.stored (k * 7 + 2) (.int .i64 x.cab)
  obtain ⟨s4, g4⟩ := s3.stored (k * 7 + 3) (.int .i64 x.zone)
  obtain ⟨s5, g5⟩ := s4.stored (k * 7 + 4) (.int .i64 x.blk)
  obtain ⟨s6, g6⟩ := s5.stored (k * 7 + 5) (.bool x.exit)
  obtain ⟨s7, g7⟩ := s6.stored (k * 7 + 6) (.bool x.bld)
  rw [← vals7_set x xs k hk] at s7
  exact ⟨hfz, ⟨_, d0, d1, d2, d3, d4, d5, d6⟩, ⟨xs.set k x, by simp, s7⟩, grownTrans hg (grownTrans g1 (grownTrans g2 (grownTrans g3 (grownTrans g4 (grownTrans g5 (grownTrans g6 g7))))))⟩
theorem rw_last {w : World} {g : Nat} {rows : List Rw} (h : ElemsAt rwShape w (some ⟨g, 0, none⟩) (rows ++ [mk7])) : w.cell? ⟨g, rows.length * 5, none⟩ = some (.int .i64 (-7)) := by
  rcases h with h | ⟨b, off, e, hb, hc⟩
  · simp at h
  · cases e
    have := hc rows.length (by simp) 0 (.int .i64 (-7)) (by rw [List.getElem_append_right (Nat.le_refl _)]; simp [mk7, rwShape])
    simpa [rwShape] using this
set_option maxRecDepth 100000 in
set_option maxHeartbeats 2000000 in
theorem maps_walk (ao : Option Addr) (ca : Nat) (rows : List Rw) (w : World) (hx : ElemsAt rwShape w ao rows) (hok : ∀ r ∈ rows, r.ok) (na : ao = none → ca = 0) (hl : rows.length * 48 ≤ 140737488351232) (hp : Pow w) :
    Calls Tryd.prog 3 #[.slice ao rows.length ca] w fun e w' => e = .returned (.bool true) ∧ Below w.heap.size w w' := by
  obtain ⟨r0, hri, hrz0, hrz1, hrz2⟩ := info_parts infoRw
  obtain ⟨s0, hsi, hsz0, hsz1, hsz2⟩ := info_parts infoSp
  obtain ⟨e0, hei, hez0, hez1, hez2⟩ := info_parts infoSe
  have HL : Hid _ := lives_any w hp
  have HX : Hid (∀ Y, Below w.heap.size w Y → ElemsAt rwShape Y ao rows) := fun Y hY => hx.later hY
  have HOK : Hid (∀ r ∈ rows, r.ok) := hok
  have HNA : Hid _ := na
  clear hx hok hp na
  obtain ⟨rl, hrl⟩ : ∃ rl, rl = rows.length := ⟨_, rfl⟩
  have HR : Hid _ := hrl
  rw [← hrl] at hl ⊢
  clear hrl
  have HRL : Hid (rows.length ≤ 4611686018427387904) := by show _ ≤ _; have := HR.out; omega
  go_enter Tryd.func3, Tryd.ntmps3
  go_wp2_with fail
  refine (show Calls _ _ _ _ _ from HL.out).mono ?_
  rintro e w0 ⟨rfl, hb0⟩
  have H0 : Hid (Below w.heap.size w w0) := hb0
  have hbe : Below w.heap.size w (w0.alloc (.cells #[] 25)) := hb0.alloc hb0.size _
  have he0 := own_nil w0 25 5 w0.heap.size (Nat.le_refl _)
  have hae := HX.out _ hbe
  have hna := HNA.out
  clear hbe hb0 HL
  go_wp2_with (at_builtin; refine wpList_append_rows (F := rwShape) _ rfl _ _ 22 rfl w0.heap.size 25 r0 _ 48 Tryd.underlying22 hri hrz0 hrz1 hrz2 rfl _ 0 [] rfl he0 ao rl ca rows rfl hna HR.out.symm hae ?c1 ?c2 ?c3 ?_)
  case c1 => unfold maxLen; omega
  case c2 => omega
  try (case c3 => first | omega | (simp; done) | (simp; omega))
  intro v1 w1 hown1 hgrow1 hat1
  have HB1 : Hid (Below w0.heap.size w0 w1) := ((Below.refl _ w0).alloc (Nat.le_refl _) _).grown hgrow1 (by simp) (fun k hk => (World.ownsRow.lt he0 k hk).1)
  have HO1 : Hid (w1.ownsRow w0.heap.size 25 5 v1 rl (rwShape.vals rows)) := by first | exact hown1 | simpa using hown1
  have helm := rw_one w1 mk7
  unfold rwObj mk7 at helm
  have hws1 : w0.heap.size ≤ w1.heap.size := HB1.out.size
  clear hown1 hgrow1 hat1 he0 hae hna
  go_wp2_with (at_builtin; refine wpList_append_rows (F := rwShape) _ rfl _ _ 22 rfl w0.heap.size 25 r0 _ 48 Tryd.underlying22 hri hrz0 hrz1 hrz2 rfl v1 rl rows rfl (World.ownsRow.alloc HO1.out _) (some ⟨w1.heap.size, 0, none⟩) 1 1 [mk7] rfl (by simp) rfl helm ?d1 ?d2 ?d3 ?_)
  case d1 => unfold maxLen; omega
  case d2 => omega
  try (case d3 => first | omega | (simp; done) | (simp; omega))
  intro v2 w2 hown2 hgrow2 hat2
  have HB2 : Hid (Below w0.heap.size w0 w2) := (HB1.out.alloc hws1 _).grown hgrow2 (by simp; omega) (fun k hk => (World.ownsRow.lt HO1.out k hk).1)
  have HB02 : Hid (Below w.heap.size w w2) := H0.out.trans (HB2.out.mono H0.out.size)
  obtain ⟨go, co, rfl, _, hglt, hgle⟩ := own_form (k := 5) hown2 (by omega)
  have HX2 : Hid (∀ X, Below w2.heap.size w2 X → ElemsAt rwShape X (some ⟨go, 0, none⟩) (rows ++ [mk7])) := fun X hX => by
    have hll : (rows ++ [mk7]).length = rl + 1 := by rw [List.length_append, HR.out]; rfl
    obtain ⟨ao', c', e1, _, _, _, hx⟩ := own_rows (F := rwShape) (xs := rows ++ [mk7]) (show w2.ownsRow w0.heap.size 25 rwShape.sz (.slice (some ⟨go, 0, none⟩) (rl + 1) co) (rows ++ [mk7]).length _ by rw [hll]; exact hown2)
    injection e1 with h1 _ _
    rw [← h1] at hx
    exact hx.later hX
  have HXa : Hid (∀ X, Below w2.heap.size w2 X → ElemsAt rwShape X ao rows) := fun X hX => HX.out X (HB02.out.trans (hX.mono HB02.out.size))
  clear hown2 hgrow2 hat2 helm HO1 HB1 hglt hws1 HB2 H0 HX
  have HCut : Hid (∀ W, (Instr.slice 22 (.slice (some ⟨go, 0, none⟩) (rl + 1) co) none (some (.int .i64 (rl : Int))) none).run Tryd.prog W = .ok (.slice (some ⟨go, 0, none⟩) rl co) W) := fun W => cut_rows (some ⟨go, 0, none⟩) (rl + 1) co rl (by omega) W
  have hcut1 := HCut.out
  have HK1 : Hid (Calls Tryd.prog 8 #[.slice (some ⟨go, 0, none⟩) rl co] w2 fun e w' => e = .returned (.int .i64 (errOf (mapOK rows))) ∧ Below w2.heap.size w2 w') := by rw [HR.out]; exact check_any _ co rows w2 (rw_front (HX2.out w2 (Below.refl _ _))) HOK.out HRL.out
  obtain ⟨er, her⟩ : ∃ er, er = errOf (mapOK rows) := ⟨_, rfl⟩
  rw [← her] at HK1
  have HER : Hid _ := her
  clear her
  go_wp2_with fail
  refine (show Calls _ _ _ _ _ from HK1.out).mono ?_
  rintro e w3 ⟨rfl, hb3⟩
  have HB3 : Hid (Below w2.heap.size w2 w3) := hb3
  have HK2 : Hid (Calls Tryd.prog 9 #[.slice ao rl ca] w3 fun e w' => e = .returned (.int .i64 er) ∧ Below w3.heap.size w3 w') := by rw [HR.out, HER.out]; exact checkR_any ao ca rows w3 (HXa.out w3 hb3) HOK.out HRL.out
  clear hb3 HK1 HER
  go_wp2_with fail
  refine (show Calls _ _ _ _ _ from HK2.out).mono ?_
  rintro e w4 ⟨rfl, hb4⟩
  have HB4 : Hid (Below w2.heap.size w2 w4) := HB3.out.trans (hb4.mono HB3.out.size)
  clear hb4 HK2 HB3
  have herr : (er != er) = false := by simp
  have herd : decide (er = er) = true := by simp
  have HCS : Hid (∀ Y, Below w4.heap.size w4 Y → Calls Tryd.prog 10 #[.slice (some ⟨go, 0, none⟩) rl co] Y fun e w' => ∃ v, e = .returned v ∧ SpOwn w' Y.heap.size v (spots rows) ∧ Below Y.heap.size Y w') := fun Y hY => by
    rw [HR.out]
    exact spots_any _ co rows Y (rw_front (HX2.out Y (HB4.out.trans (hY.mono HB4.out.size)))) HOK.out HRL.out
  have HCSR : Hid (∀ Y, Below w4.heap.size w4 Y → Calls Tryd.prog 11 #[.slice ao rl ca] Y fun e w' => ∃ v, e = .returned v ∧ SpOwn w' Y.heap.size v (spots rows) ∧ Below Y.heap.size Y w') := fun Y hY => by
    rw [HR.out]
    exact spotsR_any ao ca rows Y (HXa.out Y (HB4.out.trans (hY.mono HB4.out.size))) HOK.out HRL.out
  have HT : Hid (∀ Y V, Below w4.heap.size w4 Y → Below Y.heap.size Y V → Below w4.heap.size w4 V) := fun Y V h1 h2 => h1.trans (h2.mono h1.size)
  have HD : Hid (Below w4.heap.size w4 w4.drew) := (Below.refl _ _).drew
  go_upto_region 6 with fail
  go_cut [4, 5, 6] from 32 to 43 (fun va vb vw wx => Hid (Three (SpI (spots rows)) w4 wx va vb vw))
  case first =>
    go_region_held3 (fun w' => True) (trivial)
      ((first
        | (go_at_call 10; refine (show Calls _ _ _ _ _ from HCS.out w4.drew HD.out).mono ?_; rintro e x5 ⟨v5, rfl, h5, hb5⟩)
        | (go_at_call 11; refine (show Calls _ _ _ _ _ from HCSR.out w4.drew HD.out).mono ?_; rintro e x5 ⟨v5, rfl, h5, hb5⟩)
        | (go_at_call 10; refine (show Calls _ _ _ _ _ from HCS.out x5 (HT.out _ _ HD.out hb5)).mono ?_; rintro e x7 ⟨v7, rfl, h7, hb7⟩)
        | (go_at_call 11; refine (show Calls _ _ _ _ _ from HCSR.out x5 (HT.out _ _ HD.out hb5)).mono ?_; rintro e x7 ⟨v7, rfl, h7, hb7⟩)
        | (go_at_call 10; refine (show Calls _ _ _ _ _ from HCS.out x7 (HT.out _ _ (HT.out _ _ HD.out hb5) hb7)).mono ?_; rintro e x8 ⟨v8, rfl, h8, hb8⟩)
        | (go_at_call 11; refine (show Calls _ _ _ _ _ from HCSR.out x7 (HT.out _ _ (HT.out _ _ HD.out hb5) hb7)).mono ?_; rintro e x8 ⟨v8, rfl, h8, hb8⟩)
        | fail))
    all_goals
      have h3 := three_sp (Z := w4) h5 (HD.out.trans hb5) h7 hb7 h8 hb8
      go_wp2_with fail
      go_meet
      case rel => first | exact h3.1 | exact h3.2.1 | exact h3.2.2.1 | exact h3.2.2.2.1 | exact h3.2.2.2.2.1 | exact h3.2.2.2.2.2
  case rest =>
    obtain ⟨Ba, Ea, Bb, Eb, Bw, Ew, ia, ib, iw, l1, l2, l3, l4, l5, l6, d1, d2, l7, hb6⟩ := hcut.out
    obtain ⟨m, hm⟩ : ∃ m, m = (spots rows).length := ⟨_, rfl⟩
    have hm36 : m ≤ 36 := by rw [hm]; exact spots_le rows
    have HM : Hid _ := hm
    obtain ⟨aA, cA, rfl, hcA, _⟩ := SpOwn.slice ia.own.1
    obtain ⟨aB, cB, rfl, hcB, _⟩ := SpOwn.slice ib.own.1
    obtain ⟨aW, cW, rfl, hcW, _⟩ := SpOwn.slice iw.own.1
    rw [← hm] at hcA hcB hcW ia ib iw ⊢
    clear hm hcut HCS HCSR HT HD
    generalize wc = X6 at *
    have HB6 : Hid (Below w2.heap.size w2 X6) := HB4.out.trans (hb6.mono HB4.out.size)
    have HIa : Hid (SpI (spots rows) (.slice aA m cA) X6 Ba Ea ∧ SpI (spots rows) (.slice aB m cB) X6 Bb Eb ∧ SpI (spots rows) (.slice aW m cW) X6 Bw Ew) := ⟨ia, ib, iw⟩
    have HLe : Hid (w2.heap.size ≤ Ba ∧ w2.heap.size ≤ Bb ∧ w2.heap.size ≤ Bw ∧ Ea ≤ X6.heap.size ∧ Eb ≤ X6.heap.size ∧ Ew ≤ X6.heap.size ∧ (Ea ≤ Bb ∨ Eb ≤ Ba) ∧ (Ea ≤ Bw ∨ Ew ≤ Ba) ∧ Ba ≤ Ea) := by
      show _ ∧ _
      have := HB4.out.size
      omega
    clear ia ib iw l1 l2 l3 l4 l5 l6 d1 d2 l7 hb6 HB4
    have HCB : Hid (∀ Y, Below X6.heap.size X6 Y → Calls Tryd.prog 12 #[.slice (some ⟨go, 0, none⟩) rl co] Y fun e w' => ∃ v, e = .returned v ∧ BlksAt w' Y.heap.size v (blocksOf (spots rows)) ∧ Below Y.heap.size Y w') := fun Y hY => by
      rw [HR.out]
      exact blocks_any _ co rows Y (rw_front (HX2.out Y (HB6.out.trans (hY.mono HB6.out.size)))) HOK.out HRL.out
    have HCBR : Hid (∀ Y, Below X6.heap.size X6 Y → Calls Tryd.prog 13 #[.slice ao rl ca] Y fun e w' => ∃ v, e = .returned v ∧ BlksAt w' Y.heap.size v (blocksOf (spots rows)) ∧ Below Y.heap.size Y w') := fun Y hY => by
      rw [HR.out]
      exact blocksR_any ao ca rows Y (HXa.out Y (HB6.out.trans (hY.mono HB6.out.size))) HOK.out HRL.out
    have HT : Hid (∀ Y V, Below X6.heap.size X6 Y → Below Y.heap.size Y V → Below X6.heap.size X6 V) := fun Y V h1 h2 => h1.trans (h2.mono h1.size)
    have HD : Hid (Below X6.heap.size X6 X6.drew) := (Below.refl _ _).drew
    go_upto_region 7 with fail
    go_cut [7, 8, 9] from 44 to 55 (fun vx vy vz wx => Hid (Three (BkI (blocksOf (spots rows))) X6 wx vx vy vz))
    case first =>
      go_region_held3 (fun w' => True) (trivial)
        ((first
          | (go_at_call 12; refine (show Calls _ _ _ _ _ from HCB.out X6.drew HD.out).mono ?_; rintro e x5 ⟨v5, rfl, h5, hb5⟩)
          | (go_at_call 13; refine (show Calls _ _ _ _ _ from HCBR.out X6.drew HD.out).mono ?_; rintro e x5 ⟨v5, rfl, h5, hb5⟩)
          | (go_at_call 12; refine (show Calls _ _ _ _ _ from HCB.out x5 (HT.out _ _ HD.out hb5)).mono ?_; rintro e x7 ⟨v7, rfl, h7, hb7⟩)
          | (go_at_call 13; refine (show Calls _ _ _ _ _ from HCBR.out x5 (HT.out _ _ HD.out hb5)).mono ?_; rintro e x7 ⟨v7, rfl, h7, hb7⟩)
          | (go_at_call 12; refine (show Calls _ _ _ _ _ from HCB.out x7 (HT.out _ _ (HT.out _ _ HD.out hb5) hb7)).mono ?_; rintro e x8 ⟨v8, rfl, h8, hb8⟩)
          | (go_at_call 13; refine (show Calls _ _ _ _ _ from HCBR.out x7 (HT.out _ _ (HT.out _ _ HD.out hb5) hb7)).mono ?_; rintro e x8 ⟨v8, rfl, h8, hb8⟩)
          | fail))
      all_goals
        have h3 := three_bk (Z := X6) h5 (HD.out.trans hb5) h7 hb7 h8 hb8
        go_wp2_with fail
        go_meet
        case rel => first | exact h3.1 | exact h3.2.1 | exact h3.2.2.1 | exact h3.2.2.2.1 | exact h3.2.2.2.2.1 | exact h3.2.2.2.2.2
    case rest =>
      obtain ⟨Bx, Ex, By, Ey, Bz, Ez, ix, iy, iz, l1, l2, l3, l4, l5, l6, d1, d2, l7, hb7⟩ := hcut.out
      obtain ⟨M, hM⟩ : ∃ M, M = (blocksOf (spots rows)).length := ⟨_, rfl⟩
      have HMB : Hid _ := hM
      obtain ⟨aX, cX, rfl, _⟩ := BlksAt.size_eq ix.at'
      obtain ⟨aY, cY, rfl, _⟩ := BlksAt.size_eq iy.at'
      obtain ⟨aZ, cZ, rfl, _⟩ := BlksAt.size_eq iz.at'
      rw [← hM] at ix iy iz ⊢
      clear hM hcut HCB HCBR HT HD
      generalize wc = X7 at *
      have HB7 : Hid (Below w2.heap.size w2 X7) := HB6.out.trans (hb7.mono HB6.out.size)
      have hs67 := hb7.size
      have HI7 : Hid ((SpI (spots rows) (.slice aA m cA) X7 Ba Ea ∧ SpI (spots rows) (.slice aB m cB) X7 Bb Eb ∧ SpI (spots rows) (.slice aW m cW) X7 Bw Ew) ∧ BkI (blocksOf (spots rows)) (.slice aX M cX) X7 Bx Ex ∧ BkI (blocksOf (spots rows)) (.slice aY M cY) X7 By Ey ∧ BkI (blocksOf (spots rows)) (.slice aZ M cZ) X7 Bz Ez) :=
        ⟨⟨HIa.out.1.later HLe.out.2.2.2.1 hb7, HIa.out.2.1.later HLe.out.2.2.2.2.1 hb7, HIa.out.2.2.later HLe.out.2.2.2.2.2.1 hb7⟩, ix, iy, iz⟩
      have HLf : Hid (w2.heap.size ≤ Ba ∧ w2.heap.size ≤ Bb ∧ w2.heap.size ≤ Bw ∧ Ea ≤ X7.heap.size ∧ Eb ≤ X7.heap.size ∧ Ew ≤ X7.heap.size ∧ (Ea ≤ Bb ∨ Eb ≤ Ba) ∧ (Ea ≤ Bw ∨ Ew ≤ Ba) ∧ Ba ≤ Ea ∧
          Ea ≤ Bx ∧ Ea ≤ By ∧ Ea ≤ Bz ∧ Eb ≤ Bx ∧ Ew ≤ Bx ∧ Ex ≤ X7.heap.size ∧ Ey ≤ X7.heap.size ∧ Ez ≤ X7.heap.size ∧ (Ex ≤ By ∨ Ey ≤ Bx) ∧ (Ex ≤ Bz ∨ Ez ≤ Bx) ∧ Bx ≤ Ex) := by
        show _ ∧ _
        have := HLe.out
        omega
      clear ix iy iz l1 l2 l3 l4 l5 l6 d1 d2 l7 hb7 HIa HLe HB6 hs67
      have HSS : Hid (∀ (B E B' E' : Nat) (X : World) (a b : Option Addr) (c d : Nat), SpI (spots rows) (.slice a m c) X B E → SpI (spots rows) (.slice b m d) X B' E' → Calls Tryd.prog 14 #[.slice a m c, .slice b m d] X fun e w' => e = .returned (.bool true) ∧ ∃ n, w' = X.drewN n) := fun B E B' E' X a b c d h1 h2 => by
        obtain ⟨_, _, e1, _, x1⟩ := SpOwn.slice h1.own.1
        obtain ⟨_, _, e2, _, x2⟩ := SpOwn.slice h2.own.1
        cases e1
        cases e2
        rw [HM.out]
        exact sameSpots_any _ _ _ _ _ X x1 x2 (by have := spots_le rows; omega)
      have HSB : Hid (∀ (B B' : Nat) (X : World) (va vb : Value), BlksAt X B va (blocksOf (spots rows)) → BlksAt X B' vb (blocksOf (spots rows)) → Calls Tryd.prog 15 #[va, vb] X fun e w' => e = .returned (.bool true) ∧ ∃ n, w' = X.drewN n) := fun B B' X va vb h1 h2 => sameBlocks_any va vb _ B B' X h1 h2 (by have := blocks_le36 rows; omega) (fun k => by have := seats_le36 rows k; omega)
      have HQ1 : Hid _ := HSS.out _ _ _ _ X7 aA aW cA cW HI7.out.1.1 HI7.out.1.2.2
      have HQ2 : Hid (∀ n, _) := fun n => HSB.out _ _ (X7.drewN n) _ _ (BlksAt.drewN HI7.out.2.1.at') (BlksAt.drewN HI7.out.2.2.2.at')
      go_wp2_with fail
      refine (show Calls _ _ _ _ _ from HQ1.out).mono ?_
      rintro e w8 ⟨rfl, n1, rfl⟩
      clear HQ1
      go_wp2_with fail
      refine (show Calls _ _ _ _ _ from HQ2.out n1).mono ?_
      rintro e w9 ⟨rfl, n2, rfl⟩
      clear HQ2
      have HD9 : Hid (Below X7.heap.size X7 ((X7.drewN n1).drewN n2)) := ⟨rfl, rfl, rfl, Nat.le_refl _, fun _ _ => rfl⟩
      generalize (X7.drewN n1).drewN n2 = X9 at *
      have HI9 : Hid ((SpI (spots rows) (.slice aA m cA) X9 Ba Ea ∧ SpI (spots rows) (.slice aB m cB) X9 Bb Eb ∧ SpI (spots rows) (.slice aW m cW) X9 Bw Ew) ∧ BkI (blocksOf (spots rows)) (.slice aX M cX) X9 Bx Ex ∧ BkI (blocksOf (spots rows)) (.slice aY M cY) X9 By Ey ∧ BkI (blocksOf (spots rows)) (.slice aZ M cZ) X9 Bz Ez) :=
        ⟨⟨HI7.out.1.1.later HLf.out.2.2.2.1 HD9.out, HI7.out.1.2.1.later HLf.out.2.2.2.2.1 HD9.out, HI7.out.1.2.2.later HLf.out.2.2.2.2.2.1 HD9.out⟩, HI7.out.2.1.later (by have := HLf.out; omega) HD9.out, HI7.out.2.2.1.later (by have := HLf.out; omega) HD9.out, HI7.out.2.2.2.later (by have := HLf.out; omega) HD9.out⟩
      have HB9 : Hid (Below w2.heap.size w2 X9) := HB7.out.trans (HD9.out.mono HB7.out.size)
      have hs9 : X7.heap.size ≤ X9.heap.size := HD9.out.size
      have HLg : Hid (w2.heap.size ≤ Ba ∧ w2.heap.size ≤ Bb ∧ w2.heap.size ≤ Bw ∧ Ea ≤ X9.heap.size ∧ Eb ≤ X9.heap.size ∧ Ew ≤ X9.heap.size ∧ (Ea ≤ Bb ∨ Eb ≤ Ba) ∧ (Ea ≤ Bw ∨ Ew ≤ Ba) ∧ Ba ≤ Ea ∧
          Ea ≤ Bx ∧ Ea ≤ By ∧ Ea ≤ Bz ∧ Eb ≤ Bx ∧ Ew ≤ Bx ∧ Ex ≤ X9.heap.size ∧ Ey ≤ X9.heap.size ∧ Ez ≤ X9.heap.size ∧ (Ex ≤ By ∨ Ey ≤ Bx) ∧ (Ex ≤ Bz ∨ Ez ≤ Bx) ∧ Bx ≤ Ex) := by
        show _ ∧ _
        have := HLf.out
        omega
      have HMk : Hid (MarkS Ba (.slice aA m cA) m X9 X9) := by
        refine ⟨⟨spots rows, HM.out.symm, ?_⟩, grownRefl _ _⟩
        have := HI9.out.1.1.own.1
        unfold SpOwn at this
        rw [← HM.out] at this
        exact this
      clear HI7 HLf HB7 HD9 hs9
      go_wp2_with fail
      go_loopw [10, 68] (fun vt vi wr => ∃ k : Nat, vi = .int .i64 k ∧ k ≤ m ∧ Hid (MarkS Ba (.slice aA m cA) m X9 wr)) (fun _ vi _ => m - (intOf vi).toNat)
      case atStart => exact ⟨0, rfl, by omega, HMk⟩
      case round =>
        clear HMk
        obtain ⟨k, rfl, hk, HK⟩ := hrel
        by_cases hlt : k < m
        · have hlt' : (k : Int) < (m : Int) := by omega
          have hk0 : (0 : Int) ≤ (k : Int) := by omega
          obtain ⟨g, cap, e, _, _, _⟩ := own_form (k := 7) HK.out.1.choose_spec.2 (by omega)
          injection e with e1 _ e2
          subst e1
          subst e2
          obtain ⟨hfz, ⟨y, d0, d1, d2, d3, d4, d5, d6⟩, hm⟩ := HK.out.put hlt ⟨0, 0, 0, 0, -1, false, false⟩
          have HP : Hid _ := hm
          unfold set7 at HP
          clear hm HK
          go_wp2_with fail
          go_roundw
          case rel =>
            clear d0 d1 d2 d3 d4 d5 d6
            exact ⟨k + 1, by go_num, by omega, HP⟩
          case measure => simp [intOf]; omega
        · have hke : m = k := by omega
          subst hke
          obtain ⟨⟨xs, hxl, ho⟩, hg⟩ := HK.out
          have HO : Hid _ := ho
          have HG : Hid _ := hg
          have helm := sp_one wr Sp.zero
          unfold spObj Sp.zero at helm
          have hbw : Ba ≤ wr.heap.size := by have := HLg.out; have := hg.size; omega
          clear ho hg hlt HK
          go_wp2_with (at_builtin; refine wpList_append_rows (F := spShape) _ rfl _ _ 29 rfl Ba 40 s0 _ 48 Tryd.underlying29 hsi hsz0 hsz1 hsz2 rfl _ m xs rfl (World.ownsRow.alloc HO.out _) (some ⟨wr.heap.size, 0, none⟩) 1 1 [Sp.zero] rfl (by simp) rfl helm ?m1 ?m2 ?m3 ?_)
          case m1 => unfold maxLen; omega
          case m2 => omega
          try (case m3 => first | omega | (simp; done) | (simp; omega))
          intro v10 w10 hown10 hgrow10 hat10
          obtain ⟨q, qc, rfl, _, _, _⟩ := own_form (k := 7) hown10 (by omega)
          have hgr : X9.grownBy w10 (Value.slice aA m cA).ownBlock := grownTrans HG.out (grownTrans (World.grownBy_alloc _ _ _) hgrow10)
          have hia := HI9.out.1.1.own.2
          have hs10 := hgr.size
          have HI10 : Hid ((SpI (spots rows) (.slice aB m cB) w10 Bb Eb ∧ SpI (spots rows) (.slice aW m cW) w10 Bw Ew) ∧ BkI (blocksOf (spots rows)) (.slice aX M cX) w10 Bx Ex ∧ BkI (blocksOf (spots rows)) (.slice aY M cY) w10 By Ey ∧ BkI (blocksOf (spots rows)) (.slice aZ M cZ) w10 Bz Ez) :=
            ⟨⟨HI9.out.1.2.1.grown (by have := HLg.out; omega) hgr (fun q hq => by have := hia q hq; have := HLg.out; omega), HI9.out.1.2.2.grown (by have := HLg.out; omega) hgr (fun q hq => by have := hia q hq; have := HLg.out; omega)⟩,
              HI9.out.2.1.grown (by have := HLg.out; omega) hgr (fun q hq => by have := hia q hq; have := HLg.out; omega), HI9.out.2.2.1.grown (by have := HLg.out; omega) hgr (fun q hq => by have := hia q hq; have := HLg.out; omega), HI9.out.2.2.2.grown (by have := HLg.out; omega) hgr (fun q hq => by have := hia q hq; have := HLg.out; omega)⟩
          have HB10 : Hid (Below w2.heap.size w2 w10) := HB9.out.grown hgr HB9.out.size (fun q hq => by have := hia q hq; have := HLg.out; omega)
          have HLh : Hid (w2.heap.size ≤ Bb ∧ w2.heap.size ≤ Bw ∧ w2.heap.size ≤ Bx ∧ Eb ≤ Bx ∧ Ew ≤ Bx ∧ Eb ≤ w10.heap.size ∧ Ew ≤ w10.heap.size ∧ Ex ≤ w10.heap.size ∧ Ey ≤ w10.heap.size ∧ Ez ≤ w10.heap.size ∧ (Ex ≤ By ∨ Ey ≤ Bx) ∧ (Ex ≤ Bz ∨ Ez ≤ Bx) ∧ Bx ≤ Ex) := by
            show _ ∧ _
            have := HLg.out
            omega
          have hM36 : M ≤ 36 := by have := HMB.out; have := blocks_le36 rows; omega
          have HMx : Hid (MX w10 Bx Ex (.slice aX M cX) M w10 0) := MX.start HI10.out.2.1 (by have := HLh.out; omega) HMB.out.symm (seats_le36 rows)
          clear hown10 hgrow10 hat10 helm HO HG hbw hgr hia hs10 HI9 HB9 HLg hxl
          go_wp2_with fail
          go_loopw [11, 82] (fun vt vi wr => ∃ i : Nat, vi = .int .i64 i ∧ i ≤ M ∧ Hid (MX w10 Bx Ex (.slice aX M cX) M wr i)) (fun _ vi _ => M - (intOf vi).toNat)
          case atStart => exact ⟨0, rfl, by omega, HMx⟩
          case round =>
            clear HMx
            obtain ⟨i, rfl, hi, HX1⟩ := hrel
            by_cases hlt : i < M
            · have hlt' : (i : Int) < (M : Int) := by omega
              have hi0 : (0 : Int) ≤ (i : Int) := by omega
              obtain ⟨N, hN36, hy, gX, cap, a4, c4, e, c3⟩ := HX1.out.enter hlt
              have HY : Hid _ := hy
              injection e with e1 _ e2
              subst e1
              subst e2
              clear hy HX1
              go_wp2_with fail
              clear c3
              go_loopw [12, 91] (fun vt vk wr => ∃ k : Nat, vk = .int .i64 k ∧ k ≤ N ∧ Hid (MY w10 Bx Ex (.slice (some ⟨gX, 0, none⟩) M cX) M wr i k N)) (fun _ vk _ => N - (intOf vk).toNat)
              case atStart => exact ⟨0, rfl, by omega, HY⟩
              case round =>
                clear HY
                obtain ⟨k, rfl, hk, HY1⟩ := hrel
                by_cases hkl : k < N
                · have hkl' : (k : Int) < (N : Int) := by omega
                  have hk0 : (0 : Int) ≤ (k : Int) := by omega
                  obtain ⟨g', cap', gq, cq, e, c3, hle, hfz, ⟨p, d0, d1⟩, hy2⟩ := HY1.out.put hlt hkl (-1) (by omega)
                  cases e
                  have HY2 : Hid _ := hy2
                  clear hy2 HY1
                  go_wp2_with fail
                  go_roundw
                  case rel =>
                    clear d0 d1 c3
                    exact ⟨k + 1, by go_num, by omega, HY2⟩
                  case measure => simp [intOf]; omega
                · have hke : N = k := by omega
                  subst hke
                  obtain ⟨g', cap', a5, c5, ss, e, c3, hss, ho5, hnext⟩ := HY1.out.add hlt (-2) (by omega)
                  cases e
                  have HNx : Hid _ := hnext
                  have helm := se_one wr (-2) 0
                  have HO5 : Hid _ := ho5
                  unfold seObj at helm HO5
                  have hbw : Bx ≤ wr.heap.size := by
                    obtain ⟨_, _, hm, _⟩ := HY1.out
                    have h1 := hm.big
                    have h2 := hm.bel.size
                    omega
                  clear hnext ho5 HY1 hkl
                  go_wp2_with (at_builtin; refine wpList_append_rows (F := seShape) _ rfl _ _ 41 rfl Bx 38 e0 _ 16 Tryd.underlying41 hei hez0 hez1 hez2 rfl _ N ss rfl HO5.out (some ⟨wr.heap.size, 0, none⟩) 1 1 [(-2, 0)] rfl (by simp) rfl helm ?n1 ?n2 ?n3 ?_)
                  case n1 => unfold maxLen; omega
                  case n2 => omega
                  try (case n3 => first | omega | (simp; done) | (simp; omega))
                  intro v11 w11 hown11 hgrow11 hat11
                  obtain ⟨g5, cap5, rfl, _, _, _⟩ := own_form (k := 2) hown11 (by omega)
                  obtain ⟨a1, a2, a3⟩ := HNx.out g5 cap5 w11 hown11 hgrow11 (by
                    rcases hat11 with h | h
                    · left; rw [← h]; rfl
                    · right
                      simp [Value.ownBlock] at h
                      exact h)
                  have HX2' : Hid _ := a3
                  clear hown11 hgrow11 hat11 helm HO5 HNx a3 c3 hss
                  go_wp2_with fail
                  go_roundw
                  case rel =>
                    clear a1 a2
                    exact ⟨i + 1, by go_num, by omega, HX2'⟩
                  case measure => simp [intOf]; omega
            · have hke : M = i := by omega
              subst hke
              obtain ⟨bsm, hm⟩ := HX1.out.mine
              have hsm := hm.bel.size
              have HJ : Hid ((SpI (spots rows) (.slice aB m cB) wr Bb Eb ∧ SpI (spots rows) (.slice aW m cW) wr Bw Ew) ∧ BkI (blocksOf (spots rows)) (.slice aY M cY) wr By Ey ∧ BkI (blocksOf (spots rows)) (.slice aZ M cZ) wr Bz Ez) :=
                ⟨⟨HI10.out.1.1.mine (by have := HLh.out; omega) (by have := HLh.out; omega) hm, HI10.out.1.2.mine (by have := HLh.out; omega) (by have := HLh.out; omega) hm⟩, HI10.out.2.2.1.mine (by have := HLh.out; omega) (by have := HLh.out; omega) hm, HI10.out.2.2.2.mine (by have := HLh.out; omega) (by have := HLh.out; omega) hm⟩
              have HE : Hid (Eb ≤ wr.heap.size ∧ Ew ≤ wr.heap.size ∧ Ey ≤ wr.heap.size ∧ Ez ≤ wr.heap.size) := by
                show _ ∧ _
                have := HLh.out
                omega
              have HB11 : Hid (Below w2.heap.size w2 wr) := HB10.out.trans (hm.bel.mono (by have := HLh.out; omega))
              have HRd : Hid (∀ Y, Below wr.heap.size wr Y → MX w10 Bx Ex (.slice aX M cX) M Y M) := fun Y hY => HX1.out.later hY
              clear hm hsm HX1 HLh HB10 HI10 hlt hi
              generalize wr = Zm at *
              go_wp2_with fail
              go_loopw [13, 118] (fun vt vi wr => ∃ i : Nat, vi = .int .i64 i ∧ i ≤ M ∧ Hid (Below Zm.heap.size Zm wr)) (fun _ vi _ => M - (intOf vi).toNat)
              case atStart => exact ⟨0, rfl, by omega, Below.refl _ _⟩
              case round =>
                obtain ⟨i, rfl, hi, HB⟩ := hrel
                by_cases hlt : i < M
                · have hlt' : (i : Int) < (M : Int) := by omega
                  have hi0 : (0 : Int) ≤ (i : Int) := by omega
                  obtain ⟨g', cap', a6, c6, ss, e, c3, he, hneg, h37⟩ := (HRd.out wr HB.out).read hlt
                  have e1 : aX = some ⟨g', 0, none⟩ := by injection e
                  clear e
                  subst e1
                  have HEl : Hid (∀ Y, Below wr.heap.size wr Y → ElemsAt seShape Y a6 ss) := fun Y hY => he.later hY
                  have HNg : Hid (∀ k, k < ss.length → (ss.getD k (0, 0)).1 < 0) := fun k hk => hneg _ (by rw [getD_lt _ _ _ hk]; exact List.getElem_mem hk)
                  obtain ⟨N, hN⟩ : ∃ N, N = ss.length := ⟨_, rfl⟩
                  have HN : Hid _ := hN
                  rw [← hN] at c3 h37
                  have HBr : Hid (Below Zm.heap.size Zm wr) := HB.out
                  clear he hneg hN HB
                  go_wp2_with fail
                  clear c3
                  generalize wr = V4 at *
                  go_loopw [127] (fun vk wr => ∃ k : Nat, vk = .int .i64 k ∧ k ≤ N ∧ Hid (Below V4.heap.size V4 wr)) (fun vk _ => N - (intOf vk).toNat)
                  case atStart => exact ⟨0, rfl, by omega, Below.refl _ _⟩
                  case round =>
                    obtain ⟨k, rfl, hk, HB⟩ := hrel
                    by_cases hkl : k < N
                    · have hkl' : (k : Int) < (N : Int) := by omega
                      have hk0 : (0 : Int) ≤ (k : Int) := by omega
                      have hneg := HNg.out k (by have := HN.out; omega)
                      obtain ⟨b1, o1, e1, _, d0, d1⟩ := seat_cells (HEl.out wr HB.out) (k := k) (by have := HN.out; omega)
                      subst e1
                      generalize ss.getD k (0, 0) = p at *
                      obtain ⟨p1, p2⟩ := p
                      simp only at d0 d1 hneg
                      have hdec : decide (0 ≤ p1) = false := decide_eq_false (by omega)
                      obtain ⟨W1, hW1⟩ : ∃ W1, W1 = wr.alloc (seObj p1 p2) := ⟨_, rfl⟩
                      have h1W : Below wr.heap.size wr W1 := by rw [hW1]; exact (Below.refl _ _).alloc (Nat.le_refl _) _
                      have hgW1 : W1.heap[wr.heap.size]? = some (seObj p1 p2) := by rw [hW1]; exact heap_alloc_new wr _
                      have HBW : Hid (Below V4.heap.size V4 W1) := HB.out.trans (h1W.mono HB.out.size)
                      obtain ⟨f0, f1⟩ := seo_cells hgW1
                      unfold seObj at hW1
                      have HW1 : Hid _ := hW1
                      clear hW1 h1W hgW1 HB
                      go_upto_region 32 with fail
                      rw [← HW1.out]
                      clear HW1 d0 d1
                      go_wp2_with fail
                      go_roundw
                      case rel => exact ⟨k + 1, by go_num, by omega, HBW⟩
                      case measure => simp [intOf]; omega
                    · have hke : N = k := by omega
                      subst hke
                      have HBW : Hid (Below Zm.heap.size Zm wr) := HBr.out.trans (HB.out.mono HBr.out.size)
                      clear HB hkl
                      go_wp2_with fail
                      go_roundw
                      case rel => exact ⟨i + 1, by go_num, by omega, HBW⟩
                      case measure => simp [intOf]; omega
                · have hke : M = i := by omega
                  subst hke
                  have hjb := HB.out
                  have hsz := hjb.size
                  have HK1 : Hid _ := HSS.out _ _ _ _ wr aB aW cB cW (HJ.out.1.1.later HE.out.1 hjb) (HJ.out.1.2.later HE.out.2.1 hjb)
                  have HK2 : Hid (∀ n, _) := fun n => HSB.out _ _ (wr.drewN n) _ _ (BlksAt.drewN (BkI.at' (InP.later HJ.out.2.1 HE.out.2.2.1 hjb))) (BlksAt.drewN (BkI.at' (InP.later HJ.out.2.2 HE.out.2.2.2 hjb)))
                  have HB2w : Hid (Below w2.heap.size w2 wr) := HB11.out.trans (hjb.mono HB11.out.size)
                  have HDr : Hid (∀ n, Below wr.heap.size wr (wr.drewN n)) := fun n => ⟨rfl, rfl, rfl, Nat.le_refl _, fun _ _ => rfl⟩
                  have HK3 : Hid (∀ Y, Below wr.heap.size wr Y → Calls Tryd.prog 16 #[.slice (some ⟨go, 0, none⟩) rl co, .slice ao rl ca] Y fun e w' => e = .returned (.bool true) ∧ ∃ n, w' = Y.drewN n) := fun Y hY => by
                    have h2 := HB2w.out.trans (hY.mono HB2w.out.size)
                    rw [HR.out]
                    exact sameRows_any _ _ _ _ rows Y (rw_front (HX2.out Y h2)) (HXa.out Y h2) HRL.out
                  have HLast : Hid (∀ Y, Below wr.heap.size wr Y → Y.cell? ⟨go, rl * 5, none⟩ = some (.int .i64 (-7)) ∧ Below w.heap.size w Y) := fun Y hY => by
                    have h2 := HB2w.out.trans (hY.mono HB2w.out.size)
                    refine ⟨?_, HB02.out.trans (h2.mono HB02.out.size)⟩
                    rw [HR.out]
                    exact rw_last (HX2.out Y h2)
                  clear hjb hsz hlt HB HRd HJ HE HB11 HSS HSB
                  go_wp2_with fail
                  refine (show Calls _ _ _ _ _ from HK1.out).mono ?_
                  rintro e y1 ⟨rfl, n1, rfl⟩
                  clear HK1
                  go_wp2_with fail
                  refine (show Calls _ _ _ _ _ from HK2.out n1).mono ?_
                  rintro e y2 ⟨rfl, n2, rfl⟩
                  clear HK2
                  have HDD : Hid (Below wr.heap.size wr ((wr.drewN n1).drewN n2)) := ⟨rfl, rfl, rfl, Nat.le_refl _, fun _ _ => rfl⟩
                  generalize (wr.drewN n1).drewN n2 = Yd at *
                  have HK4 : Hid _ := HK3.out _ HDD.out
                  go_wp2_with fail
                  refine (show Calls _ _ _ _ _ from HK4.out).mono ?_
                  rintro e y3 ⟨rfl, n3, rfl⟩
                  clear HK4 HK3
                  have HDE : Hid (Below wr.heap.size wr (Yd.drewN n3)) := HDD.out.trans (show Below wr.heap.size Yd (Yd.drewN n3) from ⟨rfl, rfl, rfl, Nat.le_refl _, fun _ _ => rfl⟩)
                  obtain ⟨hlast, hbf⟩ := HLast.out _ HDE.out
                  have HBF : Hid _ := hbf
                  clear hbf HDE HDD
                  generalize Yd.drewN n3 = Yf at *
                  go_wp2_with fail
                  go_ret
                  exact ⟨rfl, HBF.out⟩
end Go.Proofs.YtbnmjmapmbdioaaDoor.Cb
