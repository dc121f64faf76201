/-
  The row in order, compacted: of several of one key and number the first stays.
-/
import Derived.Test.YtdaibmafnamfgaaMergeInsert
import Derived.Lib.SliceRun
namespace Go.Proofs.Ytdaibmafnamfgaa.Mg
open Go.RowKit Cm Mm
set_option linter.unusedVariables false

theorem own_cut {w : World} {B g n cap k : Nat} {e : TypeId} {ys : List Value} (h : w.ownsRow B e 4 (.slice (some ⟨g, 0, none⟩) n cap) n ys) (hk : k ≤ n) : w.ownsRow B e 4 (.slice (some ⟨g, 0, none⟩) k cap) k (ys.take (k * 4)) := by
  rcases h.2 with ⟨e1, _⟩ | ⟨g', cap', cur, e1, hB, hg, hle, hcm, hcs, htk⟩
  · cases e1
  · cases e1
    have h4 : k * 4 ≤ n * 4 := Nat.mul_le_mul_right _ hk
    refine ⟨by rw [List.length_take, h.1]; omega, .inr ⟨g, cap, cur, rfl, hB, hg, by omega, hcm, hcs, ?_⟩⟩
    rw [← htk, List.take_take, Nat.min_eq_left h4]
theorem own_many {B g n cap : Nat} {e : TypeId} : ∀ (vs : List Value) (o : Nat) (w : World) (ys : List Value), w.ownsRow B e 4 (.slice (some ⟨g, 0, none⟩) n cap) n ys →
    ∃ ys', (w.setCells g o vs).ownsRow B e 4 (.slice (some ⟨g, 0, none⟩) n cap) n ys' ∧ w.grownBy (w.setCells g o vs) (some g) ∧ ys'.take o = ys.take o
  | [], o, w, ys, h => ⟨ys, h, ⟨rfl, rfl, rfl, Nat.le_refl _, fun _ _ _ => rfl⟩, rfl⟩
  | v :: vs, o, w, ys, h => by
    obtain ⟨h1, g1⟩ := h.stored o v
    obtain ⟨ys', h2, g2, e2⟩ := own_many vs (o + 1) _ _ h1
    refine ⟨ys', h2, grown_trans g1 g2, ?_⟩
    have := congrArg (List.take o) e2
    rw [List.take_take, List.take_take, Nat.min_eq_left (Nat.le_succ o)] at this
    rw [this, List.take_set_of_le (Nat.le_refl o)]
def zeroVals (m : Nat) : List Value := (Builtin.zeroCells #[.string ⟨#[]⟩, .int .i64 0, .bool false, .string ⟨#[]⟩] m).toList
theorem zeroVals_len (m : Nat) : (zeroVals m).length = m * 4 := by simp [zeroVals, Builtin.zeroCells]
theorem zeroVals_one (m : Nat) : ∀ v ∈ zeroVals m, v.oneCell' = true := by
  intro v hv
  obtain ⟨i, hi, rfl⟩ := List.getElem_of_mem hv
  have h4 : i % 4 < 4 := Nat.mod_lt _ (by omega)
  simp only [zeroVals, Builtin.zeroCells, Array.getElem_toList, List.size_toArray, List.length_cons, List.length_nil, Nat.zero_add, Nat.reduceAdd] at *
  rcases (show i % 4 = 0 ∨ i % 4 = 1 ∨ i % 4 = 2 ∨ i % 4 = 3 by omega) with h | h | h | h <;> simp [h, Value.oneCell']
theorem run_clear_entries (w : World) (ty : TypeId) {g o n c : Nat} (hn : 0 < n) (hc : ∀ j, j < n * 4 → (w.cell? ⟨g, o + j, none⟩).isSome = true) (hf : ∀ j, j < n * 4 → w.frozen? ⟨g, o + j, none⟩ = false) :
    (Builtin.clear_ #[22] ty #[.slice (some ⟨g, o, none⟩) n c]).run Try.prog w = .ok (.tuple #[]) (w.setCells g o (zeroVals n)) := by
  have hst := run_storeCells_cells (P := Try.prog) g o (zeroVals n) 0 w (by rw [zeroVals_len]; simpa using hc) (by rw [zeroVals_len]; simpa using hf) (zeroVals_one n)
  simp only [Nat.add_zero] at hst
  obtain ⟨m, rfl⟩ : ∃ m, n = m + 1 := ⟨n - 1, by omega⟩
  have hv : ∀ w, (zeroValue 28).run Try.prog w = .ok (.agg #[.string ⟨#[]⟩, .int .i64 0, .bool false, .string ⟨#[]⟩]) w := Try.zeroValue28
  have hzc : (Builtin.zeroCells (Value.agg #[.string ⟨#[]⟩, .int .i64 0, .bool false, .string ⟨#[]⟩]).cells (m + 1)).toList = zeroVals (m + 1) := rfl
  simp [Builtin.clear_, run_underlying Try.underlying22, hv, hzc, hst]
theorem RowE.cut {B g n cap k : Nat} {w0 w : World} {xs : List En} (h : RowE B g n cap w0 xs w) (hk : k ≤ n) : RowE B g k cap w0 (xs.take k) w := by
  have h1 := own_cut h.own hk
  have e : (enShape.vals xs).take (k * 4) = enShape.vals (xs.take k) := by
    have e1 : enShape.vals xs = enShape.vals (xs.take k) ++ enShape.vals (xs.drop k) := by rw [← enShape.vals_append, List.take_append_drop]
    have hl : (enShape.vals (xs.take k)).length = k * 4 := by
      rw [enShape.vals_length, List.length_take, h.len, Nat.min_eq_left hk]; rfl
    rw [e1, ← hl, List.take_left']
    rfl
  rw [e] at h1
  exact ⟨h1, by rw [List.length_take, h.len, Nat.min_eq_left hk], h.grown⟩
theorem RowE.clear {B g n cap k : Nat} {w0 w : World} {xs : List En} (h : RowE B g n cap w0 xs w) (hk : k ≤ n) (vs : List Value) : RowE B g k cap w0 (xs.take k) (w.setCells g (k * 4) vs) := by
  obtain ⟨ys, h1, g1, e1⟩ := own_many vs (k * 4) w _ h.own
  have h2 := own_cut h1 hk
  rw [e1] at h2
  have h3 := (h.cut hk)
  have e : (enShape.vals xs).take (k * 4) = enShape.vals (xs.take k) := by
    have e1 : enShape.vals xs = enShape.vals (xs.take k) ++ enShape.vals (xs.drop k) := by rw [← enShape.vals_append, List.take_append_drop]
    have hl : (enShape.vals (xs.take k)).length = k * 4 := by
      rw [enShape.vals_length, List.length_take, h.len, Nat.min_eq_left hk]; rfl
    rw [e1, ← hl, List.take_left']
    rfl
  rw [e] at h2
  exact ⟨h2, h3.len, grown_trans h.grown g1⟩
theorem RowE.there {B g n cap : Nat} {w0 w : World} {xs : List En} (h : RowE B g n cap w0 xs w) {j : Nat} (hj : j < n * 4) : (w.cell? ⟨g, j, none⟩).isSome = true := by
  obtain ⟨c0, c1, c2, c3⟩ := h.cells (k := j / 4) (by omega)
  have e : j = j / 4 * 4 + j % 4 := by omega
  rcases (show j % 4 = 0 ∨ j % 4 = 1 ∨ j % 4 = 2 ∨ j % 4 = 3 by omega) with h4 | h4 | h4 | h4
  · have : j = j / 4 * 4 := by omega
    rw [this, c0]; rfl
  · have : j = j / 4 * 4 + 1 := by omega
    rw [this, c1]; rfl
  · have : j = j / 4 * 4 + 2 := by omega
    rw [this, c2]; rfl
  · have : j = j / 4 * 4 + 3 := by omega
    rw [this, c3]; rfl

/-- What the second loop has left: k of the first j. -/
structure Thinned (xs ys : List En) (k j : Nat) : Prop where
  len : ys.length = xs.length
  got : ys.take k = thin xs j
  cnt : (thin xs j).length = k
  le : k + 1 ≤ j
  rest : ∀ i, j - 1 ≤ i → i < xs.length → ys.getD i En.zero = xs.getD i En.zero
theorem thin_all {xs : List En} : ∀ k, k ≤ xs.length → (∀ i, i < k → news xs i = true) → thin xs k = xs.take k
  | 0, _, _ => by simp [thin]
  | k + 1, hk, h => by
    unfold thin
    rw [thin_all k (by omega) (fun i hi => h i (by omega)), h k (by omega), if_pos rfl, take_next (by omega)]
theorem Thinned.start {xs : List En} {k : Nat} (hk : k < xs.length) (h : ∀ i, i < k → news xs i = true) (hn : news xs k = false) : Thinned xs xs k (k + 1) := by
  have e : thin xs (k + 1) = xs.take k := by
    show thin xs k ++ (if news xs k then _ else _) = _
    rw [thin_all k (by omega) h, hn]; simp
  exact ⟨rfl, e.symm, by rw [e]; simp; omega, Nat.le_refl _, fun i _ _ => rfl⟩
theorem Thinned.skip {xs ys : List En} {k j : Nat} (h : Thinned xs ys k j) (hn : news xs j = false) : Thinned xs ys k (j + 1) := by
  have e : thin xs (j + 1) = thin xs j := by
    show thin xs j ++ (if news xs j then _ else _) = _
    rw [hn]; simp
  exact ⟨h.len, by rw [e]; exact h.got, by rw [e]; exact h.cnt, by have := h.le; omega, fun i h1 h2 => h.rest i (by omega) h2⟩
theorem Thinned.keep {xs ys : List En} {k j : Nat} (h : Thinned xs ys k j) (hj : j < xs.length) (hn : news xs j = true) : Thinned xs (ys.set k (xs.getD j En.zero)) (k + 1) (j + 1) := by
  have e : thin xs (j + 1) = thin xs j ++ [xs.getD j En.zero] := by
    show thin xs j ++ (if news xs j then _ else _) = _
    rw [hn]; rfl
  have hle := h.le
  have hl := h.len
  refine ⟨by rw [List.length_set]; exact hl, ?_, by rw [e, List.length_append, h.cnt]; rfl, by omega, fun i h1 h2 => ?_⟩
  · rw [e, ← h.got, take_next (by rw [List.length_set]; omega), List.take_set_of_le (Nat.le_refl k)]
    congr 1
    rw [List.getD_eq_getElem?_getD, List.getElem?_set_self (by omega)]; rfl
  · rw [getD_set_ne (by omega)]
    exact h.rest i (by omega) h2
theorem news_hit {xs : List En} {i : Nat} (hi : 0 < i) : hit (xs.getD (i - 1) En.zero).key (xs.getD (i - 1) En.zero).seq (xs.getD i En.zero) = !news xs i := by
  unfold news
  rw [decide_eq_false (by omega)]; simp
theorem news_zero (xs : List En) : news xs 0 = true := rfl

set_option maxRecDepth 100000 in
set_option maxHeartbeats 2000000 in
theorem compact_any {B g n cap : Nat} {w0 w : World} {xs : List En} (h : RowE B g n cap w0 xs w) (hn : n ≤ 1000000000000) :
    Calls Try.prog 27 #[.slice (some ⟨g, 0, none⟩) n cap, .func (.func 28) #[] #[]] w fun e w' => ∃ k, e = .returned (.slice (some ⟨g, 0, none⟩) k cap) ∧ RowE B g k cap w0 (thin xs n) w' := by
  have hlen := h.len
  have hcap : n ≤ cap := by
    rcases h.own.2 with ⟨e1, _⟩ | ⟨g', cap', cur, e1, hB, hg, hle, _⟩
    · cases e1
    · cases e1; exact hle
  have hcap63 : cap ≤ 9223372036854775807 := by
    rcases h.own.2 with ⟨e1, _⟩ | ⟨g', cap', cur, e1, hB, hg, hle, hcm, _⟩
    · cases e1
    · cases e1; have h2 := hcm; unfold maxLen at h2; omega
  have HR : Hid _ := h
  have HALL : Hid (∀ wq, (∀ i, i < n → news xs i = true) → RowE B g n cap w0 xs wq → RowE B g n cap w0 (thin xs n) wq) := fun wq ha hq => by
    rw [thin_all n (by omega) ha, ← hlen, List.take_length, hlen]; exact hq
  clear h
  by_cases h2 : n < 2
  · have h2' : (n : Int) < 2 := by omega
    have HN : Hid (∀ i, i < n → news xs i = true) := fun i hi => by
      obtain rfl : i = 0 := by omega
      rfl
    go_enter Try.func27, Try.ntmps27
    go_wp2
    go_ret
    exact ⟨n, rfl, HALL.out _ HN.out HR.out⟩
  · have h2' : ¬ (n : Int) < 2 := by omega
    have HN1 : Hid (∀ i, i < 1 → news xs i = true) := fun i hi => by
      obtain rfl : i = 0 := by omega
      rfl
    go_enter Try.func27, Try.ntmps27
    go_wp2
    go_loopw [5] (fun vk wr => ∃ k : Nat, vk = .int .i64 k ∧ 1 ≤ k ∧ k ≤ n ∧ Hid (∀ i, i < k → news xs i = true) ∧ Hid (RowE B g n cap w0 xs wr)) (fun vk _ => n - (intOf vk).toNat)
    case atStart => exact ⟨1, rfl, by omega, by omega, HN1, HR⟩
    case round =>
      clear HR
      obtain ⟨k, rfl, hk1, hk, HN, HR⟩ := hrel
      by_cases hlt : k < n
      · have hlt' : (k : Int) < (n : Int) := by omega
        obtain ⟨k', hk'⟩ : ∃ k', k' + 1 = k := ⟨k - 1, by omega⟩
        have hk'n : k' < n := by omega
        have he := fun w' (hb : Below wr.heap.size wr w') => HR.out.eight (i := k) (j := k') hlt hk'n hb
        have HK : Hid _ := he
        obtain ⟨c0, c1, c2, c3, d0, d1, d2, d3⟩ := he wr (Below.refl _ _)
        have HL : Hid (∀ wq, _) := fun wq => eqE_any (xs.getD k En.zero) (xs.getD k' En.zero) wq
        unfold env at HL
        have HBd : Hid (∀ wq, Below wr.drew.heap.size wr.drew wq → Below wr.heap.size wr wq) := fun wq h => (Below.refl _ _).drew.trans h
        have HRL : Hid (∀ wq, Below wr.heap.size wr wq → RowE B g n cap w0 xs wq) := fun wq h => HR.out.later h
        have wk' : IntKind.i64.wrap ((k : Int) - 1) = (k' : Int) := wrap_nat (by omega) (by omega)
        have hk'1 : (k' : Int) < (n : Int) := by omega
        have HNW : Hid (hit (xs.getD k' En.zero).key (xs.getD k' En.zero).seq (xs.getD k En.zero) = !news xs k) := by
          have := news_hit (xs := xs) (i := k) (by omega)
          rw [← hk'] at this
          rw [← hk']; exact this
        have HK' : Hid _ := hk'
        clear he HR hk'
        have hxy := HNW.out
        clear HNW
        generalize xs.getD k En.zero = x at *
        generalize xs.getD k' En.zero = y at *
        cases hnw : news xs k
        · rw [hnw] at hxy
          simp only [Bool.not_false] at hxy
          have HS : Hid _ := Thinned.start (k := k) (by omega) HN.out hnw
          rw [hxy] at HL
          clear hxy hnw HN HALL
          have hck : ¬ cap = k := by omega
          have hkc : k ≤ cap := by omega
          go_wp2_with fail
          go_region_held3 (fun w' => w'.cell? ⟨g, k * 4, none⟩ = some (.string x.key) ∧ w'.cell? ⟨g, k * 4 + 1, none⟩ = some (.int .i64 x.seq) ∧ w'.cell? ⟨g, k * 4 + 2, none⟩ = some (.bool x.dead) ∧ w'.cell? ⟨g, k * 4 + 3, none⟩ = some (.string x.val) ∧ w'.cell? ⟨g, k' * 4, none⟩ = some (.string y.key) ∧ w'.cell? ⟨g, k' * 4 + 1, none⟩ = some (.int .i64 y.seq) ∧ w'.cell? ⟨g, k' * 4 + 2, none⟩ = some (.bool y.dead) ∧ w'.cell? ⟨g, k' * 4 + 3, none⟩ = some (.string y.val)) (first | with_reducible exact ⟨c0, c1, c2, c3, d0, d1, d2, d3⟩ | exact ⟨c0, c1, c2, c3, d0, d1, d2, d3⟩ | exact HK.out _ hbq)
            ((go_at_call 28; refine (show Calls _ _ _ _ _ from HL.out _).mono ?_; rintro e w2 ⟨rfl, hb2⟩; have hbq := HBd.out w2 hb2))
          have HR2 : Hid (RowE B g n cap w0 xs w2) := HRL.out _ hbq
          clear hb2 hbq HBd HK HL c0 c1 c2 c3 d0 d1 d2 d3 HRL wk' HK' hk'n hk'1
          generalize wr = X at *
          go_wp2
          generalize hl2 : n - k = l2 at *
          generalize cap - k = c2 at *
          have HL2 : Hid _ := hl2
          have hl2n : l2 ≤ 1000000000000 := by omega
          clear hl2 hck hkc
          go_loopw [5, 7] (fun va vb wr => ∃ (q t : Nat) (ys : List En), va = .int .i64 q ∧ vb = .int .i64 t ∧ 1 ≤ t ∧ t ≤ l2 ∧ q < n ∧ Hid (Thinned xs ys q (k + t)) ∧ Hid (RowE B g n cap w0 ys wr)) (fun _ vb _ => l2 - (intOf vb).toNat)
          case atStart => exact ⟨k, 1, xs, rfl, rfl, by omega, by have := HL2.out; omega, by omega, HS, HR2⟩
          case round =>
            clear HS HR2
            obtain ⟨q, t, ys, rfl, rfl, ht1, ht, hqn, HT, HR⟩ := hrel
            by_cases hlt2 : t < l2
            · have hlt2' : (t : Int) < (l2 : Int) := by omega
              have HLT : Hid (t + 1 ≤ l2) := by show _ ≤ _; omega
              have hkn : k + t < n := by have := HL2.out; omega
              obtain ⟨t', ht'⟩ : ∃ t', t' + 1 = t := ⟨t - 1, by omega⟩
              have he := fun w' (hb : Below wr.heap.size wr w') => HR.out.eight (i := k + t) (j := k + t') hkn (by omega) hb
              have e1 : ys.getD (k + t) En.zero = xs.getD (k + t) En.zero := HT.out.rest _ (by omega) (by omega)
              have e2 : ys.getD (k + t') En.zero = xs.getD (k + t') En.zero := HT.out.rest _ (by omega) (by omega)
              rw [e1, e2] at he
              simp only [Nat.add_mul] at he
              have HK : Hid _ := he
              obtain ⟨c0, c1, c2', c3, d0, d1, d2, d3⟩ := he wr (Below.refl _ _)
              have HL : Hid (∀ wq, _) := fun wq => eqE_any (xs.getD (k + t) En.zero) (xs.getD (k + t') En.zero) wq
              unfold env at HL
              have HBd : Hid (∀ wq, Below wr.drew.heap.size wr.drew wq → Below wr.heap.size wr wq) := fun wq h => (Below.refl _ _).drew.trans h
              have HRL : Hid (∀ wq, Below wr.heap.size wr wq → RowE B g n cap w0 ys wq) := fun wq h => HR.out.later h
              have wk' : IntKind.i64.wrap ((t : Int) - 1) = (t' : Int) := wrap_nat (by omega) (by omega)
              have hk'1 : (t' : Int) < (l2 : Int) := by omega
              have HNW : Hid (hit (xs.getD (k + t') En.zero).key (xs.getD (k + t') En.zero).seq (xs.getD (k + t) En.zero) = !news xs (k + t)) := by
                have := news_hit (xs := xs) (i := k + t) (by omega)
                have e3 : k + t - 1 = k + t' := by omega
                rw [e3] at this
                exact this
              have HT' : Hid _ := ht'
              have HKN : Hid _ := hkn
              have hxy := HNW.out
              clear he HR ht' HNW e1 e2 hkn
              have HX : Hid (xs.getD (k + t) En.zero = xs.getD (k + t) En.zero) := rfl
              generalize hx : xs.getD (k + t) En.zero = x at *
              generalize xs.getD (k + t') En.zero = y at *
              have HXX : Hid _ := hx
              clear hx HX
              cases hnw : news xs (k + t)
              · rw [hnw] at hxy
                simp only [Bool.not_false] at hxy
                have HS : Hid _ := HT.out.skip hnw
                rw [hxy] at HL
                clear hxy hnw HT
                go_wp2_with fail
                go_region_held3 (fun w' => w'.cell? ⟨g, k * 4 + t * 4, none⟩ = some (.string x.key) ∧ w'.cell? ⟨g, k * 4 + t * 4 + 1, none⟩ = some (.int .i64 x.seq) ∧ w'.cell? ⟨g, k * 4 + t * 4 + 2, none⟩ = some (.bool x.dead) ∧ w'.cell? ⟨g, k * 4 + t * 4 + 3, none⟩ = some (.string x.val) ∧ w'.cell? ⟨g, k * 4 + t' * 4, none⟩ = some (.string y.key) ∧ w'.cell? ⟨g, k * 4 + t' * 4 + 1, none⟩ = some (.int .i64 y.seq) ∧ w'.cell? ⟨g, k * 4 + t' * 4 + 2, none⟩ = some (.bool y.dead) ∧ w'.cell? ⟨g, k * 4 + t' * 4 + 3, none⟩ = some (.string y.val)) (first | with_reducible exact ⟨c0, c1, c2', c3, d0, d1, d2, d3⟩ | exact ⟨c0, c1, c2', c3, d0, d1, d2, d3⟩ | exact HK.out _ hbq)
                  ((go_at_call 28; refine (show Calls _ _ _ _ _ from HL.out _).mono ?_; rintro e w2 ⟨rfl, hb2⟩; have hbq := HBd.out w2 hb2))
                have HR2 : Hid (RowE B g n cap w0 ys w2) := HRL.out _ hbq
                clear hb2 hbq HBd HK HL c0 c1 c2' c3 d0 d1 d2 d3 HRL wk' hk'1
                go_wp2
                go_roundw
                case rel => exact ⟨q, t + 1, ys, rfl, by go_num, by omega, HLT.out, hqn, HS, HR2⟩
                case measure => have := HLT.out; simp [intOf]; omega
              · rw [hnw] at hxy
                simp only [Bool.not_true] at hxy
                have HS : Hid _ := HT.out.keep (by have := HKN.out; omega) hnw
                rw [HXX.out] at HS
                rw [hxy] at HL
                clear hxy hnw
                go_wp2_with fail
                go_region_held3 (fun w' => w'.cell? ⟨g, k * 4 + t * 4, none⟩ = some (.string x.key) ∧ w'.cell? ⟨g, k * 4 + t * 4 + 1, none⟩ = some (.int .i64 x.seq) ∧ w'.cell? ⟨g, k * 4 + t * 4 + 2, none⟩ = some (.bool x.dead) ∧ w'.cell? ⟨g, k * 4 + t * 4 + 3, none⟩ = some (.string x.val) ∧ w'.cell? ⟨g, k * 4 + t' * 4, none⟩ = some (.string y.key) ∧ w'.cell? ⟨g, k * 4 + t' * 4 + 1, none⟩ = some (.int .i64 y.seq) ∧ w'.cell? ⟨g, k * 4 + t' * 4 + 2, none⟩ = some (.bool y.dead) ∧ w'.cell? ⟨g, k * 4 + t' * 4 + 3, none⟩ = some (.string y.val)) (first | with_reducible exact ⟨c0, c1, c2', c3, d0, d1, d2, d3⟩ | exact ⟨c0, c1, c2', c3, d0, d1, d2, d3⟩ | exact HK.out _ hbq)
                  ((go_at_call 28; refine (show Calls _ _ _ _ _ from HL.out _).mono ?_; rintro e w2 ⟨rfl, hb2⟩; have hbq := HBd.out w2 hb2))
                have hr2 := HRL.out _ hbq
                have HQ : Hid (q + 1 < n) := by have := HT.out.le; have := HKN.out; show _ < _; omega
                have HR2 : Hid _ := hr2.put (i := q) hqn x
                obtain ⟨x0, x1, x2, x3⟩ := HK.out w2 hbq |>.1 |> fun h => (⟨h, (HK.out w2 hbq).2.1, (HK.out w2 hbq).2.2.1, (HK.out w2 hbq).2.2.2.1⟩ : _ ∧ _ ∧ _ ∧ _)
                obtain ⟨f0, f1, f2, f3⟩ := hr2.cells (k := q) hqn
                have hfz := hr2.frozen
                have hq0 : (q : Int) < (n : Int) := by omega
                generalize ys.getD q En.zero = z at *
                unfold set4 at HR2
                clear hb2 hbq HBd HK HL c0 c1 c2' c3 d0 d1 d2 d3 HRL wk' hk'1 HT hr2
                go_wp2
                go_roundw
                case rel =>
                  clear x0 x1 x2 x3 f0 f1 f2 f3
                  refine ⟨q + 1, t + 1, ys.set q x, by go_num, by go_num, by omega, HLT.out, HQ.out, HS, ?_⟩
                  with_reducible exact HR2
                case measure => have := HLT.out; simp [intOf]; omega
            · obtain rfl : t = l2 := by omega
              have hlt2' : ¬ (t : Int) < (t : Int) := by omega
              have hck : ¬ cap = q := by omega
              have hkc : q ≤ cap := by omega
              have hcl : ∀ ty, (Builtin.clear_ #[22] ty #[.slice (some ⟨g, q * 4, none⟩) (n - q) (cap - q)]).run Try.prog wr = .ok (.tuple #[]) (wr.setCells g (q * 4) (zeroVals (n - q))) :=
                fun ty => run_clear_entries wr ty (by omega) (fun j hj => HR.out.there (by omega)) (fun j hj => HR.out.frozen _)
              have HE : Hid (ys.take q = thin xs n) := by
                have := HT.out.got
                have e : k + t = n := by have := HL2.out; omega
                rw [e] at this; exact this
              have HF : Hid _ := HR.out.clear (k := q) (by omega) (zeroVals (n - q))
              rw [HE.out] at HF
              clear HE HT HR
              go_wp2
              go_ret
              exact ⟨q, rfl, HF.out⟩
        · rw [hnw] at hxy
          simp only [Bool.not_true] at hxy
          have HN2 : Hid (∀ i, i < k + 1 → news xs i = true) := fun i hi => by
            by_cases e : i = k
            · rw [e]; exact hnw
            · exact HN.out i (by omega)
          rw [hxy] at HL
          clear hxy hnw HN
          go_wp2_with fail
          go_region_held3 (fun w' => w'.cell? ⟨g, k * 4, none⟩ = some (.string x.key) ∧ w'.cell? ⟨g, k * 4 + 1, none⟩ = some (.int .i64 x.seq) ∧ w'.cell? ⟨g, k * 4 + 2, none⟩ = some (.bool x.dead) ∧ w'.cell? ⟨g, k * 4 + 3, none⟩ = some (.string x.val) ∧ w'.cell? ⟨g, k' * 4, none⟩ = some (.string y.key) ∧ w'.cell? ⟨g, k' * 4 + 1, none⟩ = some (.int .i64 y.seq) ∧ w'.cell? ⟨g, k' * 4 + 2, none⟩ = some (.bool y.dead) ∧ w'.cell? ⟨g, k' * 4 + 3, none⟩ = some (.string y.val)) (first | with_reducible exact ⟨c0, c1, c2, c3, d0, d1, d2, d3⟩ | exact ⟨c0, c1, c2, c3, d0, d1, d2, d3⟩ | exact HK.out _ hbq)
            ((go_at_call 28; refine (show Calls _ _ _ _ _ from HL.out _).mono ?_; rintro e w2 ⟨rfl, hb2⟩; have hbq := HBd.out w2 hb2))
          have HR2 : Hid (RowE B g n cap w0 xs w2) := HRL.out _ hbq
          clear hb2 hbq HBd HK HL c0 c1 c2 c3 d0 d1 d2 d3 HRL wk' HK' hk'n hk'1
          go_wp2
          go_roundw
          case rel => exact ⟨k + 1, by go_num, by omega, by omega, HN2, HR2⟩
          case measure => simp [intOf]; omega
      · obtain rfl : k = n := by omega
        have hlt' : ¬ (k : Int) < (k : Int) := by omega
        go_wp2
        go_ret
        exact ⟨k, rfl, HALL.out _ HN.out HR.out⟩
end Go.Proofs.Ytdaibmafnamfgaa.Mg
