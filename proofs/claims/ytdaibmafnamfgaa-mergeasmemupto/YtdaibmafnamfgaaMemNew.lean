/-
  Package mem: a new table.
-/
import Derived.Test.YtdaibmafnamfgaaMemCalls
namespace Go.Proofs.Ytdaibmafnamfgaa.Mm
open Go.RowKit Cm
set_option linter.unusedVariables false

theorem infoInt : (Try.prog.info? 3).map (fun i => (i.zero, i.size, i.bytes)) = some (some (.int .i64 0), 1, 8) := by kernel_rfl
def nilLinks : Array Value := #[.pointer none, .pointer none, .pointer none, .pointer none, .pointer none, .pointer none, .pointer none, .pointer none]
theorem make8 (W : World) : (Instr.makeSlice 42 (.int .i64 8) (.int .i64 8)).run Try.prog W = .ok (.slice (some ⟨W.heap.size, 0, none⟩) 8 8) (W.alloc (.cells nilLinks 70)) := by
  obtain ⟨i, hi, hz, hsz, hby⟩ := info_parts infoPN
  have := run_make (P := Try.prog) W 42 70 i (.pointer none) Try.underlying42 hi hz .i64 .i64 8 8 (by omega) (Int.le_refl _) (by rw [hby]; omega) (by omega)
  rw [this, hsz, show madeCells (Value.pointer none).cells ((8 : Int).toNat * 1) = nilLinks by kernel_rfl]
  rfl
theorem own_form1 {w : World} {B n : Nat} {e : TypeId} {v : Value} {vs : List Value} (h : w.ownsRow B e 1 v n vs) (hn : 0 < n) : ∃ g cap, v = .slice (some ⟨g, 0, none⟩) n cap ∧ B ≤ g ∧ g < w.heap.size := by
  rcases h.2 with ⟨rfl, h0⟩ | ⟨g, cap, cur, rfl, hB, hg, _⟩
  · omega
  · exact ⟨g, cap, rfl, hB, lt_of_block hg⟩
theorem cellsI1 {w : World} (k : Int) : CellsAt (w.alloc (.cells #[.int .i64 k] 3)) (some ⟨w.heap.size, 0, none⟩) [.int .i64 k] := .inr ⟨w.heap.size, 0, rfl, by simp, fun j hj => by
    obtain rfl : j = 0 := (by simpa using hj)
    rw [Joins.cell_of_block (heap_alloc_new w _)]; rfl⟩
/-- A table that is being made. -/
structure Made (w : World) (hv : Value) (hs : List Int) (X : World) : Prop where
  tab : X.heap[w.heap.size + 1]? = some (tabObj 0 0 w.heap.size hv 0)
  links : X.heap[w.heap.size]? = some (.cells nilLinks 70 (0, 0))
  row : X.ownsRow (w.heap.size + 2) 3 1 hv hs.length (hs.map (Value.int .i64))
  bel : Below w.heap.size w X
  ok : ∀ h ∈ hs, 1 ≤ h ∧ h ≤ 8
theorem Made.tabS {w X : World} {hv : Value} {hs : List Int} (h : Made w hv hs X) (hn : 0 < hs.length) (hl : hs.length ≤ 1000000000000) : Tab X (fun k => w.heap.size ≤ k) (w.heap.size + 1) [] := by
  refine ⟨w.heap.size, 0, hv, hs, [], ⟨h.tab, by show _ ≤ _; omega, ⟨⟨nilLinks, h.links, rfl, Nat.le_refl _, fun l hl => ?_⟩, trivial, List.nodup_nil, by simp, fun n hn => (by simp at hn), fun n hn => (by simp at hn), Nat.le_refl _⟩, ⟨Joins.ownsRow_le h.row (Nat.zero_le _), fun k hk => by have := (h.row.lt k hk).1; show _ ≤ _; omega, hn, hl, h.ok⟩⟩, rfl, (fun x hx => by simp at hx), sorted_nil, (fun e he => by simp at he)⟩
  have : l = 0 ∨ l = 1 ∨ l = 2 ∨ l = 3 ∨ l = 4 ∨ l = 5 ∨ l = 6 ∨ l = 7 := by omega
  rcases this with rfl | rfl | rfl | rfl | rfl | rfl | rfl | rfl <;> rfl
theorem Made.start (w : World) : Made w (.slice none 0 0) [] ((w.alloc (.cells nilLinks 70)).alloc (tabObj 0 0 w.heap.size (.slice none 0 0) 0)) := by
  refine ⟨?_, by rw [Below.heap_alloc _ _ _ (by simp)]; exact heap_alloc_new w _, World.ownsRow_nil _ _ _ _, ((Below.refl _ _).alloc (Nat.le_refl _) _).alloc (by simp) _, fun h hh => by simp at hh⟩
  have := heap_alloc_new (w.alloc (.cells nilLinks 70)) (tabObj 0 0 w.heap.size (.slice none 0 0) 0)
  simpa using this
/-- One height more. -/
theorem Made.more {w X Y : World} {hv hv' : Value} {hs : List Int} {x : Int} (h : Made w hv hs X) (hrow : Y.ownsRow (w.heap.size + 2) 3 1 hv' (hs.length + 1) (hs.map (Value.int .i64) ++ [.int .i64 x])) (hk : ∀ k, k < w.heap.size + 2 → Y.heap[k]? = X.heap[k]?) (hb : Below w.heap.size w Y) (hx : 1 ≤ x ∧ x ≤ 8) : Made w hv' (hs ++ [x]) (Y.setCell ⟨w.heap.size + 1, 7, none⟩ hv') := by
  have ht := (hk (w.heap.size + 1) (by omega)).trans h.tab
  refine ⟨?_, ?_, ?_, hb.setCell (by simp) _, fun z hz => ?_⟩
  · rw [Joins.block_setCell (show Y.heap[w.heap.size + 1]? = some (.cells _ _ _) from ht)]; rfl
  · rw [Below.heap_setCell _ _ _ _ (by simp), hk _ (by omega)]; exact h.links
  · rw [List.length_append, List.map_append]
    exact own_keep hrow fun k hk2 => Below.heap_setCell _ _ _ _ (by have := (hrow.lt k hk2).1; simp; omega)
  · rcases List.mem_append.1 hz with hz | hz
    · exact h.ok z hz
    · simp at hz; subst hz; exact hx

theorem hgt_ok (x : Int) : 1 ≤ wrap64 (1 + wrap64 ((IntKind.u64.wrap x).tmod 8)) ∧ wrap64 (1 + wrap64 ((IntKind.u64.wrap x).tmod 8)) ≤ 8 := by
  have h0 : 0 ≤ IntKind.u64.wrap x := by simp [IntKind.wrap, IntKind.bits, IntKind.signed]; omega
  have h1 : (IntKind.u64.wrap x).tmod 8 = IntKind.u64.wrap x % 8 := Int.tmod_eq_emod_of_nonneg h0
  rw [h1]
  generalize IntKind.u64.wrap x = y at *
  unfold wrap64
  omega
theorem own_lit1 (w : World) (B : Nat) (h : B ≤ w.heap.size) (x : Int) : (w.alloc (.cells #[.int .i64 x] 3)).ownsRow B 3 1 (.slice (some ⟨w.heap.size, 0, none⟩) 1 1) 1 [.int .i64 x] :=
  ⟨by simp, .inr ⟨w.heap.size, 1, #[.int .i64 x], rfl, h, heap_alloc_new w _, by simp, by simp [maxLen], by simp, by simp⟩⟩
set_option maxRecDepth 100000 in
set_option maxHeartbeats 1000000 in
theorem newS (ao : Option Addr) (cap : Nat) (hs : List Int) (w : World) (hc : CellsAt w ao (hs.map (Value.int .i64))) (hok : ∀ h ∈ hs, -9223372036854775808 ≤ h ∧ h ≤ 9223372036854775807) (hl : hs.length ≤ 1000000000000) :
    Calls Try.prog 8 #[.slice ao hs.length cap] w fun r w' => r = .returned (.pointer (some ⟨w.heap.size + 1, 0, none⟩)) ∧ Tab w' (fun k => w.heap.size ≤ k) (w.heap.size + 1) [] ∧ Below w.heap.size w w' := by
  obtain ⟨i0, hi, hz0, hz1, hz2⟩ := info_parts infoInt
  have HM : Hid _ := Made.start w
  have HC : Hid (∀ wr, Below w.heap.size w wr → CellsAt wr ao (hs.map (Value.int .i64))) := fun wr hb => hc.below hb
  have hmk := make8
  unfold tabObj at HM
  clear hc
  go_enter Try.func8, Try.ntmps8
  go_wp2
  go_loopw [12] (fun i wr => ∃ (k : Nat) (hv : Value) (xs : List Int), k ≤ hs.length ∧ i = .int .i64 k ∧ xs.length = k ∧ Hid (Made w hv xs wr)) (fun i _ => hs.length - (intOf i).toNat)
  case atStart => exact ⟨0, _, [], by omega, rfl, rfl, HM⟩
  case round =>
    obtain ⟨k, hv, xs, hk, rfl, hxl, HMk⟩ := hrel
    subst hxl
    obtain ⟨hao, hcap, rfl⟩ : ∃ a c, hv = .slice a xs.length c := by
      rcases HMk.out.row.2 with ⟨e, e2⟩ | ⟨g, c, cur, e, _⟩
      · rw [e2]; exact ⟨_, _, e⟩
      · exact ⟨_, _, e⟩
    by_cases hlt : xs.length < hs.length
    · have hx : (hs.map (Value.int .i64))[xs.length]? = some (.int .i64 (hs.getD xs.length 0)) := by simp [hlt]
      have hmem : hs.getD xs.length 0 ∈ hs := by rw [getD_lt _ _ _ hlt]; exact List.getElem_mem hlt
      obtain ⟨lo, hi'⟩ := hok _ hmem
      rcases HC.out wr HMk.out.bel with h0 | ⟨pb, off, rfl, hbl, hcells⟩
      · have : hs.length = 0 := by have := congrArg List.length h0; simpa using this
        omega
      have hck := hcells xs.length (by simpa using hlt)
      rw [hx] at hck
      generalize hs.getD xs.length 0 = x at *
      obtain ⟨_, _, c7, _, fz⟩ := tab_cells HMk.out.tab
      have f7 := fz 7
      have hbs := HMk.out.bel.size
      have hts := lt_of_block HMk.out.tab
      have hk0 : (0 : Int) ≤ (xs.length : Int) := by omega
      have hk1 : (xs.length : Int) < (hs.length : Int) := by omega
      clear hcells hx hmem hbl fz HM HC hmk
      go_wp2_with (at_builtin; refine wpList_append_any _ rfl _ _ 32 rfl (w.heap.size + 2) 3 i0 (.int .i64 0) 8 Try.underlying32 hi hz0 hz1 hz2 rfl (.slice hao xs.length hcap) xs.length (xs.map (Value.int .i64)) rfl (World.ownsRow.alloc HMk.out.row _) (some ⟨wr.heap.size, 0, none⟩) 1 1 _ rfl (by simp) rfl (cellsI1 _) ?c0 ?c1 ?c2 ?c3 ?_)
      case c0 => intro u hu; simp at hu; subst hu; rfl
      case c1 => unfold maxLen; omega
      case c2 => omega
      case c3 => simp; omega
      intro v5 w5 hown5 hgrow5 hat5
      have hE := hgt_ok x
      generalize wrap64 (1 + wrap64 ((IntKind.u64.wrap x).tmod 8)) = y at *
      obtain ⟨g5, c5, rfl, hg5, hgl5⟩ := own_form1 hown5 (by omega)
      have hk5 : ∀ j, j < w.heap.size + 2 → w5.heap[j]? = wr.heap[j]? := fun j hj => (hgrow5.block j (by simp; omega) (fun e => by have := (HMk.out.row.lt j e.symm).1; omega)).trans (Below.heap_alloc _ _ _ (by omega))
      have HB5 : Below w.heap.size w w5 := (HMk.out.bel.alloc hbs _).grown hgrow5 (by simp; omega) (fun k hk => by have := (HMk.out.row.lt k hk).1; omega)
      have HM5 : Hid _ := HMk.out.more hown5 hk5 HB5 hE
      obtain ⟨_, _, d7, _, dz⟩ := tab_cells ((hk5 (w.heap.size + 1) (by omega)).trans HMk.out.tab)
      have g7 := dz 7
      clear hown5 hgrow5 hat5 hk5 HB5 dz HMk c7 f7 hck
      go_wp2
      go_roundw
      case rel => exact ⟨xs.length + 1, _, xs ++ [y], by omega, by go_num, by simp, HM5⟩
      case measure => simp [intOf]; omega
    · obtain ⟨_, _, c7, _, fz⟩ := tab_cells HMk.out.tab
      have f7 := fz 7
      have hts := lt_of_block HMk.out.tab
      have hbs := HMk.out.bel.size
      by_cases h0 : xs = []
      · subst h0
        have HM5 : Hid (Made w (.slice (some ⟨wr.heap.size, 0, none⟩) 1 1) ([] ++ [1]) ((wr.alloc (.cells #[.int .i64 1] 3)).setCell ⟨w.heap.size + 1, 7, none⟩ (.slice (some ⟨wr.heap.size, 0, none⟩) 1 1))) :=
          HMk.out.more (own_lit1 wr (w.heap.size + 2) (by omega) 1) (fun j hj => Below.heap_alloc _ _ _ (by omega)) (HMk.out.bel.alloc hbs _) (by omega)
        have HR : Hid (Tab ((wr.alloc (.cells #[.int .i64 1] 3)).setCell ⟨w.heap.size + 1, 7, none⟩ (.slice (some ⟨wr.heap.size, 0, none⟩) 1 1)) (fun k => w.heap.size ≤ k) (w.heap.size + 1) [] ∧ Below w.heap.size w ((wr.alloc (.cells #[.int .i64 1] 3)).setCell ⟨w.heap.size + 1, 7, none⟩ (.slice (some ⟨wr.heap.size, 0, none⟩) 1 1))) := ⟨HM5.out.tabS (by simp) (by simp), HM5.out.bel⟩
        have e1 : ((wr.setCell ⟨w.heap.size + 1, 7, none⟩ (.slice (some ⟨wr.heap.size, 0, none⟩) 1 1)).alloc (.cells #[.int .i64 1] 3)) = ((wr.alloc (.cells #[.int .i64 1] 3)).setCell ⟨w.heap.size + 1, 7, none⟩ (.slice (some ⟨wr.heap.size, 0, none⟩) 1 1)) := (World.setCell_alloc_past _ _ _ _ hts).symm
        rw [← e1] at HR
        clear HM5 e1 HMk HM HC fz hok
        simp only [List.length_nil] at c7
        go_wp2
        go_ret
        exact ⟨rfl, HR.out⟩
      · have hpos : 0 < xs.length := List.length_pos_iff.2 h0
        have HR : Hid _ := And.intro (HMk.out.tabS hpos (by omega)) HMk.out.bel
        have hne : ((xs.length : Int) == 0) = false := by simp only [beq_eq_false_iff_ne, ne_eq]; omega
        clear HMk HM HC fz hok h0 hpos
        go_wp2
        go_ret
        exact ⟨rfl, HR.out⟩
end Go.Proofs.Ytdaibmafnamfgaa.Mm
