/-
  Package manifest: the shelf of a version; Apply.
-/
import Derived.Test.YtjfanbemihheiaaDoorQManVersion
namespace Go.Proofs.YtjfanbemihheiaaDoor.Ma
open Go.RowKit Cm
set_option linter.unusedVariables false

/-! ### How great a version grows -/
def addsum (es : List Ed) : Nat := (es.map fun e => e.add.length).sum
theorem addsum_cons (e : Ed) (es : List Ed) : addsum (e :: es) = e.add.length + addsum es := by simp [addsum]
theorem addsum_append (a b : List Ed) : addsum (a ++ b) = addsum a + addsum b := by simp [addsum]
theorem addsum_take (es : List Ed) (k : Nat) : addsum (es.take k) ≤ addsum es := by
  conv => rhs; rw [← List.take_append_drop k es, addsum_append]
  omega
/-- An edit of numbers that a machine holds. -/
structure Ed.Ok' (e : Ed) : Prop where
  add : ∀ f ∈ e.add, OkF f
  del : ∀ n ∈ e.del, OkI n
  wal : OkI e.wal
  next : OkI e.next
  seq : OkI e.seq
def edZero : Ed := ⟨[], [], 0, 0, 0⟩
theorem addsum_at {es : List Ed} {k : Nat} (h : k < es.length) : addsum (es.take (k + 1)) = addsum (es.take k) + (es.getD k edZero).add.length := by
  rw [take_at h (d := edZero), addsum_append]; simp [addsum]
theorem one_some {v u : Ve} {e : Ed} (h : one v e = some u) : okE v e = true ∧ u = nxt v e := by
  unfold one at h
  split at h
  · exact ⟨by assumption, by cases h; rfl⟩
  · cases h
theorem one_none {v : Ve} {e : Ed} (h : okE v e = false) : one v e = none := by unfold one; rw [h]; rfl
theorem one_is {v : Ve} {e : Ed} (h : okE v e = true) : one v e = some (nxt v e) := by unfold one; rw [h]; rfl
theorem app_len {v u : Ve} {es : List Ed} (h : app v es = some u) : u.files.length ≤ v.files.length + addsum es := by
  induction es generalizing v with
  | nil => cases h; simp
  | cons e r ih =>
    rw [app_cons] at h
    cases h1 : one v e with
    | none => rw [h1] at h; cases h
    | some x =>
      rw [h1] at h
      have h2 := ih h
      obtain ⟨_, rfl⟩ := one_some h1
      have := stay_len v.files e.del
      rw [addsum_cons]
      simp only [nxt, List.length_append] at h2
      omega
theorem app_ok {v u : Ve} {es : List Ed} (h : app v es = some u) (hv : ∀ f ∈ v.files, OkF f) (he : ∀ e ∈ es, ∀ f ∈ e.add, OkF f) : ∀ f ∈ u.files, OkF f := by
  induction es generalizing v with
  | nil => cases h; exact hv
  | cons e r ih =>
    rw [app_cons] at h
    cases h1 : one v e with
    | none => rw [h1] at h; cases h
    | some x =>
      rw [h1] at h
      obtain ⟨_, rfl⟩ := one_some h1
      refine ih h (fun f hf => ?_) (fun d hd => he d (List.mem_cons_of_mem _ hd))
      rcases List.mem_append.1 hf with hf | hf
      · exact hv f (mem_stay.1 hf).1
      · exact he e (by simp) f hf

/-! ### The shelf of a version -/
theorem far_of {w X : World} {S : Nat → Prop} {ao : Option Addr} {fs : List Fi} (h : ElemsAt fiShape w ao fs) (hb : Below w.heap.size w X) (hS : ∀ k, S k → w.heap.size ≤ k) : FarFiles X S ao fs := by
  rcases h with h | ⟨b, off, rfl, hlt, hc⟩
  · exact .inl h
  · refine .inr ⟨b, off, rfl, Nat.lt_of_lt_of_le hlt hb.size, fun e => by have := hS b e; omega, fun i hi => ?_⟩
    have hq : ∀ o, X.cell? ⟨b, o, none⟩ = w.cell? ⟨b, o, none⟩ := fun o => World.cell?_of_block (hb.block b hlt)
    rw [hq, hq]
    exact ⟨hc i hi 0 _ rfl, hc i hi 1 _ rfl⟩
theorem farN_of {w X : World} {S : Nat → Prop} {ao : Option Addr} {ns : List Int} (h : CellsAt w ao (ns.map (Value.int .i64))) (hb : Below w.heap.size w X) (hS : ∀ k, S k → w.heap.size ≤ k) : FarNums X S ao ns := by
  rcases h with h | ⟨b, off, rfl, hlt, hc⟩
  · exact .inl (by simpa using h)
  · refine .inr ⟨b, off, rfl, Nat.lt_of_lt_of_le hlt hb.size, fun e => by have := hS b e; omega, fun i hi => ?_⟩
    rw [World.cell?_of_block (hb.block b hlt), hc i (by simpa using hi)]
    simp [hi]
theorem shelf_new (w : World) (a n s : Int) : ShelfAt ((w.alloc (.map #[] 0)).alloc (shObj w.heap.size ⟨[], a, n, s⟩)) (fun k => w.heap.size ≤ k) (w.heap.size + 1) ⟨[], a, n, s⟩ 0 := by
  have h1 := heap_alloc_new (w.alloc (.map #[] 0)) (shObj w.heap.size ⟨[], a, n, s⟩)
  rw [World.size_alloc] at h1
  exact ⟨w.heap.size, fun _ => none, h1, by omega, Nat.le_refl _, ⟨0, Nat.le_refl _, (MapAt.made w Tryd.prog 3).keep (Below.heap_alloc _ _ _ (by simp))⟩, fun k => rfl, fun k u h => (by cases h), fun j k u v _ h => (by cases h)⟩
set_option maxRecDepth 100000 in
set_option maxHeartbeats 1000000 in
theorem shelve_any (ao : Option Addr) (ca : Nat) (v : Ve) (w : World) (h : ElemsAt fiShape w ao v.files) (hok : ∀ f ∈ v.files, OkF f) (hl : v.files.length ≤ 100000000000) :
    Calls Tryd.prog 12 #[veV (.slice ao v.files.length ca) v] w fun e w' => ∃ q, e = .returned (.pointer (some ⟨q, 0, none⟩)) ∧ ShelfAt w' (fun k => w.heap.size ≤ k) q v v.files.length ∧ Below w.heap.size w w' := by
  have hmm := @run_makeMap Tryd.prog
  obtain ⟨m, hm⟩ : ∃ m, m = v.files.length := ⟨_, rfl⟩
  have HM : Hid (m = v.files.length) := hm
  have HE : Hid (ElemsAt fiShape w ao v.files) := h
  have HOk : Hid (∀ f ∈ v.files, OkF f) := hok
  rw [← hm] at hl ⊢
  unfold veV
  clear h hok hm
  go_enter Tryd.func12, Tryd.ntmps12
  go_wp2_with fail
  obtain ⟨w1, hw1⟩ : ∃ w1, w1 = w.alloc (.cells #[.slice ao m ca, .int .i64 v.wal, .int .i64 v.next, .int .i64 v.seq] 24) := ⟨_, rfl⟩
  have hs1 : w1.heap.size = w.heap.size + 1 := by rw [hw1]; simp
  have hb1 : Below w.heap.size w w1 := by rw [hw1]; exact (Below.refl _ _).alloc (Nat.le_refl _) _
  have hb3 : Below w.heap.size w ((w1.alloc (.map #[] 0)).alloc (shObj w1.heap.size ⟨[], v.wal, v.next, v.seq⟩)) := (hb1.alloc (by omega) _).alloc (by simp; omega) _
  have hput := put_any (fun k => w1.heap.size ≤ k) (w1.heap.size + 1) ⟨[], v.wal, v.next, v.seq⟩ 0 ao ca v.files ((w1.alloc (.map #[] 0)).alloc (shObj w1.heap.size ⟨[], v.wal, v.next, v.seq⟩)) (shelf_new w1 v.wal v.next v.seq)
    (far_of HE.out hb3 (fun k hk => by omega)) HOk.out (by have := HM.out; omega) (by show 0 + _ ≤ _; have := HM.out; omega)
  rw [← hw1]
  have HPut : Hid _ := hput
  unfold shObj at HPut
  rw [← HM.out] at HPut
  rw [show w.heap.size + 1 + 1 = w1.heap.size + 1 by omega, show w.heap.size + 1 = w1.heap.size by omega]
  have HB3 : Hid _ := hb3
  have HS1 : Hid (w1.heap.size = w.heap.size + 1) := hs1
  clear hput hb3 hb1 hs1 hw1
  refine (show Calls _ _ _ _ _ from HPut.out).mono ?_
  rintro e w4 ⟨rfl, hq⟩
  have HQ : Hid _ := hq
  clear hq HPut
  go_wp2
  go_ret
  have h1 := HQ.out.1
  rw [Nat.zero_add] at h1
  refine ⟨_, rfl, ShelfAt.mono (show ShelfAt w4 _ _ v m from h1) ?_, ?_⟩
  · rintro k (hk | hk)
    · have := HS1.out; omega
    · have := HS1.out; simp at hk; omega
  · exact HB3.out.trans (HQ.out.2.below (fun k hk => by have := HS1.out; omega) HB3.out.size)

/-! ### Apply -/
/-- An edit as it came in: where its slices lie. -/
structure Ei where
  aa : Option Addr
  ca : Nat
  ad : Option Addr
  cd : Nat
  e : Ed
def Ei.zero : Ei := ⟨none, 0, none, 0, edZero⟩
def Ei.a (x : Ei) : Value := .slice x.aa x.e.add.length x.ca
def Ei.d (x : Ei) : Value := .slice x.ad x.e.del.length x.cd
def eiShape : Shape Ei := ⟨5, fun x => [x.a, x.d, .int .i64 x.e.wal, .int .i64 x.e.next, .int .i64 x.e.seq], by decide, fun _ => rfl, fun x u hu => by simp [Ei.a, Ei.d] at hu; rcases hu with rfl | rfl | rfl | rfl | rfl <;> rfl⟩
/-- What an edit's slices hold. -/
structure EiAt (w : World) (x : Ei) : Prop where
  add : ElemsAt fiShape w x.aa x.e.add
  del : CellsAt w x.ad (x.e.del.map (Value.int .i64))
  na : x.aa = none → x.ca = 0
  nd : x.ad = none → x.cd = 0
  ok : x.e.Ok'
  few : x.e.add.length + x.e.del.length ≤ 100000000000
end Go.Proofs.YtjfanbemihheiaaDoor.Ma
