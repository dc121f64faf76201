/-
  Package cabin: a seat found; seats side by side.
-/
import Derived.Test.YtbnmjmapmbdioaaDoorCabPlace
import Derived.Handy
namespace Go.Proofs.YtbnmjmapmbdioaaDoor.Cb
open Go.RowKit Cm
attribute [local go_sem ↓] Go.wp_at_zero Go.wp_at_succ
set_option linter.unusedVariables false

def foundL (a : Int × Int) (sps : List Sp) : Option Sp := if plc a sps < 0 then none else some (sps.getD (plc a sps).toNat Sp.zero)
def foundV : Option Sp → Value
  | some s => .tuple #[spv s, .bool true]
  | none => .tuple #[spv Sp.zero, .bool false]
theorem spo_frozen {w : World} {g : Nat} {s : Sp} (h : w.heap[g]? = some (spObj s)) (j : Nat) : w.frozen? ⟨g, j, none⟩ = false := by simp [World.frozen?, h, spObj]
/-- Spots, as a slice to be read. -/
theorem SpOwn.slice {w : World} {B : Nat} {v : Value} {sps : List Sp} (h : SpOwn w B v sps) : ∃ ao ca, v = .slice ao sps.length ca ∧ sps.length ≤ ca ∧ ElemsAt spShape w ao sps := by
  obtain ⟨ao, ca, e, _, _, h1, h2⟩ := own_rows h
  exact ⟨ao, ca, e, h1, h2⟩
/-- A spot stored into a spot's block. -/
theorem spot_set {w : World} {g : Nat} {s : Sp} (h : w.heap[g]? = some (spObj s)) (t : Sp) : (w.setCell ⟨g, 0, none⟩ (.int .i64 t.num)).cell? ⟨g, 0, none⟩ = some (.int .i64 t.num) ∧ ((w.setCell ⟨g, 0, none⟩ (.int .i64 t.num)).setCell ⟨g, 1, none⟩ (.int .u8 t.ltr)).cell? ⟨g, 1, none⟩ = some (.int .u8 t.ltr) ∧ (((w.setCell ⟨g, 0, none⟩ (.int .i64 t.num)).setCell ⟨g, 1, none⟩ (.int .u8 t.ltr)).setCell ⟨g, 2, none⟩ (.int .i64 t.cab)).cell? ⟨g, 2, none⟩ = some (.int .i64 t.cab) ∧ ((((w.setCell ⟨g, 0, none⟩ (.int .i64 t.num)).setCell ⟨g, 1, none⟩ (.int .u8 t.ltr)).setCell ⟨g, 2, none⟩ (.int .i64 t.cab)).setCell ⟨g, 3, none⟩ (.int .i64 t.zone)).cell? ⟨g, 3, none⟩ = some (.int .i64 t.zone) ∧ (((((w.setCell ⟨g, 0, none⟩ (.int .i64 t.num)).setCell ⟨g, 1, none⟩ (.int .u8 t.ltr)).setCell ⟨g, 2, none⟩ (.int .i64 t.cab)).setCell ⟨g, 3, none⟩ (.int .i64 t.zone)).setCell ⟨g, 4, none⟩ (.int .i64 t.blk)).cell? ⟨g, 4, none⟩ = some (.int .i64 t.blk) ∧ ((((((w.setCell ⟨g, 0, none⟩ (.int .i64 t.num)).setCell ⟨g, 1, none⟩ (.int .u8 t.ltr)).setCell ⟨g, 2, none⟩ (.int .i64 t.cab)).setCell ⟨g, 3, none⟩ (.int .i64 t.zone)).setCell ⟨g, 4, none⟩ (.int .i64 t.blk)).setCell ⟨g, 5, none⟩ (.bool t.exit)).cell? ⟨g, 5, none⟩ = some (.bool t.exit) ∧ (((((((w.setCell ⟨g, 0, none⟩ (.int .i64 t.num)).setCell ⟨g, 1, none⟩ (.int .u8 t.ltr)).setCell ⟨g, 2, none⟩ (.int .i64 t.cab)).setCell ⟨g, 3, none⟩ (.int .i64 t.zone)).setCell ⟨g, 4, none⟩ (.int .i64 t.blk)).setCell ⟨g, 5, none⟩ (.bool t.exit)).setCell ⟨g, 6, none⟩ (.bool t.bld)).cell? ⟨g, 6, none⟩ = some (.bool t.bld) := by
  unfold spObj at h
  have h1 := Joins.block_setCell h (i := 0) (.int .i64 t.num)
  have h2 := Joins.block_setCell h1 (i := 1) (.int .u8 t.ltr)
  have h3 := Joins.block_setCell h2 (i := 2) (.int .i64 t.cab)
  have h4 := Joins.block_setCell h3 (i := 3) (.int .i64 t.zone)
  have h5 := Joins.block_setCell h4 (i := 4) (.int .i64 t.blk)
  have h6 := Joins.block_setCell h5 (i := 5) (.bool t.exit)
  have h7 := Joins.block_setCell h6 (i := 6) (.bool t.bld)
  rw [Joins.cell_of_block h1, Joins.cell_of_block h2, Joins.cell_of_block h3, Joins.cell_of_block h4, Joins.cell_of_block h5, Joins.cell_of_block h6, Joins.cell_of_block h7]
  simp
set_option maxRecDepth 100000 in
set_option maxHeartbeats 2000000 in
theorem find_any (a : Int × Int) (ao : Option Addr) (ca : Nat) (rows : List Rw) (w : World) (hx : ElemsAt rwShape w ao rows) (hok : ∀ r ∈ rows, r.ok) (hl : rows.length ≤ 4611686018427387904) :
    Calls Tryd.prog 17 #[sev a, .slice ao rows.length ca] w fun e w' => e = .returned (foundV (foundL a (spots rows))) ∧ Below w.heap.size w w' := by
  obtain ⟨X, hX⟩ : ∃ X, X = (w.alloc (seObj a.1 a.2)).alloc (spObj Sp.zero) := ⟨_, rfl⟩
  have hbX : Below w.heap.size w X := by rw [hX]; exact ((Below.refl _ _).alloc (Nat.le_refl _) _).alloc (by simp) _
  have HC : Hid _ := spots_any ao ca rows X (hx.later hbX) hok hl
  have g0 : X.heap[w.heap.size]? = some (seObj a.1 a.2) := by rw [hX, Below.heap_alloc _ _ _ (by simp)]; exact heap_alloc_new w _
  have g1 : X.heap[w.heap.size + 1]? = some (spObj Sp.zero) := by
    rw [hX]
    have := heap_alloc_new (w.alloc (seObj a.1 a.2)) (spObj Sp.zero)
    rw [World.size_alloc] at this
    exact this
  have hle := spots_le rows
  generalize spots rows = sps at *
  generalize rows.length = rl at *
  clear hx hok hl
  have HBX : Hid _ := hbX
  unfold sev seObj spObj Sp.zero at *
  have HX : Hid _ := hX
  clear hX hbX
  go_enter Tryd.func17, Tryd.ntmps17
  go_wp2_with fail
  rw [← HX.out]
  clear HX
  refine (show Calls _ _ _ _ _ from HC.out).mono ?_
  rintro e w1 ⟨vS, rfl, hS, hb1⟩
  obtain ⟨aS, cS, rfl, hcS, hxS⟩ := hS.slice
  have HP : Hid _ := place_any a aS cS sps w1 hxS (by omega)
  have hs1 := hb1.size
  obtain ⟨c0, c1⟩ := seo_cells ((hb1.block _ (lt_of_block g0)).trans g0)
  have HG1 : Hid (w1.heap[w.heap.size + 1]? = some (spObj Sp.zero)) := (hb1.block _ (lt_of_block g1)).trans g1
  have HXS : Hid (∀ Y, Below w1.heap.size w1 Y → ElemsAt spShape Y aS sps) := fun Y hY => hxS.later hY
  have HB1 : Hid (Below w.heap.size w w1) := HBX.out.trans (hb1.mono HBX.out.size)
  clear hS hxS hb1 HC g0 g1 hs1 HBX
  unfold sev at HP
  go_wp2_with fail
  refine (show Calls _ _ _ _ _ from HP.out).mono ?_
  rintro e w2 ⟨rfl, hb2⟩
  have hg2 : w2.heap[w.heap.size + 1]? = some (spObj Sp.zero) := (hb2.block _ (lt_of_block HG1.out)).trans HG1.out
  obtain ⟨d0, d1, d2, d3, d4, d5, d6⟩ := spo_cells hg2
  have df := spo_frozen hg2
  have df0 := df 0
  have df1 := df 1
  have df2 := df 2
  have df3 := df 3
  have df4 := df 4
  have df5 := df 5
  have df6 := df 6
  have hset := spot_set hg2
  have HB2 : Hid (Below w.heap.size w w2) := HB1.out.trans (hb2.mono HB1.out.size)
  have hx2 := HXS.out w2 hb2
  have HF : Hid (foundL a sps = if plc a sps < 0 then none else some (sps.getD (plc a sps).toNat Sp.zero)) := rfl
  have hge := plc_ge a sps
  have hlt := plc_lt a sps
  unfold Sp.zero at d0 d1 d2 d3 d4 d5 d6
  simp only at d0 d1 d2 d3 d4 d5 d6
  clear HP hg2 hb2 HG1 HXS HB1 df c0 c1
  generalize plc a sps = i at *
  by_cases hi : i < 0
  · have hi' : decide (i < 0) = true := decide_eq_true hi
    have HF2 : Hid (foundL a sps = none) := by show _ = _; rw [HF.out, if_pos hi]
    obtain ⟨e0, e1, e2, e3, e4, e5, e6⟩ := hset ⟨0, 0, 0, 0, 0, false, false⟩
    simp only at e0 e1 e2 e3 e4 e5 e6
    clear HF hx2 hset
    go_wp2
    refine bodyPost_ret (v := .tuple #[.agg #[.int .i64 0, .int .u8 0, .int .i64 0, .int .i64 0, .int .i64 0, .bool false, .bool false], .bool false]) (by simp [results, Tryd.results17, go_sem, e0, e1, e2, e3, e4, e5, e6]) rfl ?_
    refine ⟨by rw [HF2.out]; rfl, ?_⟩
    repeat (refine Below.setCell ?_ (by simp) _)
    exact HB2.out
  · have hi' : decide (i < 0) = false := decide_eq_false hi
    obtain ⟨k, rfl⟩ : ∃ k : Nat, i = (k : Int) := ⟨i.toNat, by omega⟩
    have hk : k < sps.length := by omega
    have HF2 : Hid (foundL a sps = some (sps.getD k Sp.zero)) := by show _ = _; rw [HF.out, if_neg hi]; simp
    obtain ⟨pb, off, rfl, hpb, k0, k1, k2, k3, k4, k5, k6⟩ := spot_cells hx2 hk
    generalize sps.getD k Sp.zero = s at *
    obtain ⟨num, ltr, cab, zone, blk, exit, bld⟩ := s
    simp only at k0 k1 k2 k3 k4 k5 k6
    have hk0 : (0 : Int) ≤ (k : Int) := by omega
    have hk1 : (k : Int) < (sps.length : Int) := by omega
    obtain ⟨e0, e1, e2, e3, e4, e5, e6⟩ := hset ⟨num, ltr, cab, zone, blk, exit, bld⟩
    simp only at e0 e1 e2 e3 e4 e5 e6
    clear HF hx2 hset
    go_wp2
    refine bodyPost_ret (v := .tuple #[.agg #[.int .i64 num, .int .u8 ltr, .int .i64 cab, .int .i64 zone, .int .i64 blk, .bool exit, .bool bld], .bool true]) (by simp [results, Tryd.results17, go_sem, e0, e1, e2, e3, e4, e5, e6]) rfl ?_
    refine ⟨by rw [HF2.out]; rfl, ?_⟩
    repeat (refine Below.setCell ?_ (by simp) _)
    exact HB2.out
end Go.Proofs.YtbnmjmapmbdioaaDoor.Cb
