/-
  Layer 11, plainly: edits, versions, what an edit makes of a version.
-/
import Derived.KernelRfl
namespace Go.Proofs.YtbnmjmapmbdioaaDoor.Ma
set_option linter.unusedVariables false

/-- A file: its level and its number. -/
abbrev Fi := Int × Int
structure Ed where
  add : List Fi
  del : List Int
  wal : Int
  next : Int
  seq : Int
structure Ve where
  files : List Fi
  wal : Int
  next : Int
  seq : Int
def Ve.zero : Ve := ⟨[], 0, 0, 0⟩
def OkI (i : Int) : Prop := -9223372036854775808 ≤ i ∧ i ≤ 9223372036854775807
def OkF (f : Fi) : Prop := OkI f.1 ∧ OkI f.2
theorem OkI.zero : OkI 0 := by unfold OkI; omega

/-! ### The order of files -/
def leF (a b : Fi) : Bool := decide (a.1 < b.1) || (decide (a.1 = b.1) && decide (a.2 ≤ b.2))
theorem leF_iff {a b : Fi} : leF a b = true ↔ a.1 < b.1 ∨ (a.1 = b.1 ∧ a.2 ≤ b.2) := by unfold leF; simp
theorem leF_trans (a b c : Fi) (h1 : leF a b = true) (h2 : leF b c = true) : leF a c = true := by rw [leF_iff] at *; omega
theorem leF_total (a b : Fi) : (leF a b || leF b a) = true := by rw [Bool.or_eq_true, leF_iff, leF_iff]; omega
theorem leF_anti {a b : Fi} (h1 : leF a b = true) (h2 : leF b a = true) : a = b := by
  rw [leF_iff] at *
  exact Prod.ext (by omega) (by omega)
def srt (l : List Fi) : List Fi := l.mergeSort leF
theorem srt_perm (l : List Fi) : (srt l).Perm l := List.mergeSort_perm l leF
theorem srt_sorted (l : List Fi) : (srt l).Pairwise fun a b => leF a b = true := List.pairwise_mergeSort leF_trans leF_total l
theorem srt_unique {l m : List Fi} (h : m.Pairwise fun a b => leF a b = true) (hp : m.Perm l) : m = srt l :=
  List.Perm.eq_of_pairwise (le := fun a b => leF a b = true) (fun a b _ _ h1 h2 => leF_anti h1 h2) h (srt_sorted l) (hp.trans (srt_perm l).symm)
theorem srt_of_perm {l m : List Fi} (h : l.Perm m) : srt l = srt m := srt_unique (srt_sorted l) ((srt_perm l).trans h)
theorem srt_srt (l : List Fi) : srt (srt l) = srt l := srt_of_perm (srt_perm l)
theorem srt_len (l : List Fi) : (srt l).length = l.length := (srt_perm l).length_eq
theorem srt_nil : srt [] = [] := List.eq_nil_of_length_eq_zero (srt_len [])

/-! ### What an edit makes of a version -/
def rightF (f : Fi) : Bool := decide (0 ≤ f.1) && decide (f.1 ≤ 1) && decide (1 ≤ f.2)
def right (e : Ed) : Bool := e.add.all rightF && e.del.all (fun n => decide (1 ≤ n)) && (decide (0 ≤ e.wal) && decide (0 ≤ e.next) && decide (0 ≤ e.seq))
def hasN (l : List Fi) (n : Int) : Bool := l.any fun f => f.2 == n
def goes (v : Ve) (e : Ed) : Bool := e.del.all (hasN v.files) && decide e.del.Nodup
def comes (v : Ve) (e : Ed) : Bool := e.add.all (fun f => decide (f.2 < e.next) && !(hasN v.files f.2 && !e.del.contains f.2)) && decide ((e.add.map (·.2)).Nodup)
def okE (v : Ve) (e : Ed) : Bool := right e && (decide (v.next ≤ e.next) && (decide (v.seq ≤ e.seq) && (goes v e && comes v e)))
def stay (l : List Fi) (d : List Int) : List Fi := l.filter fun f => !d.contains f.2
def nxt (v : Ve) (e : Ed) : Ve := ⟨stay v.files e.del ++ e.add, e.wal, e.next, e.seq⟩
def one (v : Ve) (e : Ed) : Option Ve := if okE v e then some (nxt v e) else none
def app : Ve → List Ed → Option Ve
  | v, [] => some v
  | v, e :: r => (one v e).bind fun u => app u r
def Ve.sort (v : Ve) : Ve := ⟨srt v.files, v.wal, v.next, v.seq⟩
/-- The same but for the files' order. -/
structure Like (v u : Ve) : Prop where
  files : v.files.Perm u.files
  wal : v.wal = u.wal
  next : v.next = u.next
  seq : v.seq = u.seq
theorem Like.refl (v : Ve) : Like v v := ⟨.refl _, rfl, rfl, rfl⟩
theorem Like.symm {v u : Ve} (h : Like v u) : Like u v := ⟨h.files.symm, h.wal.symm, h.next.symm, h.seq.symm⟩
theorem Like.trans {v u x : Ve} (h : Like v u) (k : Like u x) : Like v x := ⟨h.files.trans k.files, h.wal.trans k.wal, h.next.trans k.next, h.seq.trans k.seq⟩
theorem Like.sort (v : Ve) : Like v.sort v := ⟨srt_perm _, rfl, rfl, rfl⟩
theorem Like.eq {v u : Ve} (h : Like v u) : v.sort = u.sort := by
  obtain ⟨f, a, b, c⟩ := v
  obtain ⟨g, a', b', c'⟩ := u
  obtain ⟨h1, h2, h3, h4⟩ := h
  simp only at h1 h2 h3 h4
  subst h2 h3 h4
  unfold Ve.sort
  rw [srt_of_perm h1]
theorem sort_sort (v : Ve) : v.sort.sort = v.sort := (Like.sort v).eq
theorem hasN_perm {l m : List Fi} (h : l.Perm m) (n : Int) : hasN l n = hasN m n := by
  unfold hasN
  rw [Bool.eq_iff_iff, List.any_eq_true, List.any_eq_true]
  exact ⟨fun ⟨x, h1, h2⟩ => ⟨x, h.mem_iff.1 h1, h2⟩, fun ⟨x, h1, h2⟩ => ⟨x, h.mem_iff.2 h1, h2⟩⟩
theorem Like.ok {v u : Ve} (h : Like v u) (e : Ed) : okE v e = okE u e := by
  have hf : hasN v.files = hasN u.files := funext fun n => hasN_perm h.files n
  unfold okE goes comes
  rw [hf, h.next, h.seq]
theorem Like.nxt {v u : Ve} (h : Like v u) (e : Ed) : Like (nxt v e) (nxt u e) :=
  ⟨(h.files.filter _).append_right _, rfl, rfl, rfl⟩
def LikeO : Option Ve → Option Ve → Prop
  | some v, some u => Like v u
  | none, none => True
  | _, _ => False
theorem Like.one {v u : Ve} (h : Like v u) (e : Ed) : LikeO (one v e) (one u e) := by
  unfold Ma.one
  rw [h.ok e]
  split
  · exact h.nxt e
  · trivial
theorem app_cons (v : Ve) (e : Ed) (r : List Ed) : app v (e :: r) = (one v e).bind fun u => app u r := rfl
theorem Like.app {v u : Ve} (h : Like v u) : ∀ es : List Ed, LikeO (app v es) (app u es)
  | [] => h
  | e :: r => by
    have := h.one e
    rw [app_cons, app_cons]
    cases h1 : Ma.one v e with
    | none =>
      cases h2 : Ma.one u e with
      | none => trivial
      | some x => rw [h1, h2] at this; exact this.elim
    | some y =>
      cases h2 : Ma.one u e with
      | none => rw [h1, h2] at this; exact this.elim
      | some x => rw [h1, h2] at this; exact Like.app this r
theorem app_append (v : Ve) (es fs : List Ed) : app v (es ++ fs) = (app v es).bind fun u => app u fs := by
  induction es generalizing v with
  | nil => rfl
  | cons e r ih =>
    rw [List.cons_append, app_cons, app_cons]
    cases one v e with
    | none => rfl
    | some u => exact ih u
theorem app_snoc {v u : Ve} {es : List Ed} (h : app v es = some u) (e : Ed) : app v (es ++ [e]) = one u e := by
  rw [app_append, h]
  show app u [e] = one u e
  rw [app_cons]
  cases one u e <;> rfl
theorem app_cut {v : Ve} {es : List Ed} {k : Nat} (h : app v (es.take k) = none) : app v es = none := by
  rw [← List.take_append_drop k es, app_append, h]; rfl
theorem sort_of {v u : Ve} (h : Like v u) (hs : u.files.Pairwise fun a b => leF a b = true) : v.sort = u := by
  rw [h.eq]
  unfold Ve.sort
  rw [← srt_unique hs (.refl _)]

/-! ### What holds of every version that edits led to -/
structure Good (v : Ve) : Prop where
  files : ∀ f ∈ v.files, rightF f = true ∧ f.2 < v.next
  apart : (v.files.map (·.2)).Nodup
  wal : 0 ≤ v.wal
  next : 0 ≤ v.next
  seq : 0 ≤ v.seq
theorem Good.zero : Good Ve.zero := ⟨fun f h => (by cases h), List.nodup_nil, Int.le_refl _, Int.le_refl _, Int.le_refl _⟩
theorem Like.good {v u : Ve} (h : Like v u) (g : Good v) : Good u :=
  ⟨fun f hf => by rw [← h.next]; exact g.files f (h.files.mem_iff.2 hf), (h.files.map _).nodup_iff.1 g.apart, by rw [← h.wal]; exact g.wal, by rw [← h.next]; exact g.next, by rw [← h.seq]; exact g.seq⟩
theorem right_parts {e : Ed} (h : right e = true) : (∀ f ∈ e.add, rightF f = true) ∧ (∀ n ∈ e.del, 1 ≤ n) ∧ 0 ≤ e.wal ∧ 0 ≤ e.next ∧ 0 ≤ e.seq := by
  unfold right at h
  simp only [Bool.and_eq_true, List.all_eq_true, decide_eq_true_eq] at h
  exact ⟨h.1.1, h.1.2, h.2.1.1, h.2.1.2, h.2.2⟩
theorem hasN_true {l : List Fi} {n : Int} : hasN l n = true ↔ ∃ f ∈ l, f.2 = n := by unfold hasN; simp
theorem mem_stay {l : List Fi} {d : List Int} {f : Fi} : f ∈ stay l d ↔ f ∈ l ∧ f.2 ∉ d := by unfold stay; simp
theorem hasN_stay (l : List Fi) (d : List Int) (n : Int) : hasN (stay l d) n = (hasN l n && !d.contains n) := by
  rw [Bool.eq_iff_iff, hasN_true, Bool.and_eq_true, hasN_true]
  constructor
  · rintro ⟨f, h1, rfl⟩
    obtain ⟨h1, h2⟩ := mem_stay.1 h1
    exact ⟨⟨f, h1, rfl⟩, by simpa using h2⟩
  · rintro ⟨⟨f, h1, rfl⟩, h2⟩
    exact ⟨f, mem_stay.2 ⟨h1, by simpa using h2⟩, rfl⟩
theorem Good.step {v u : Ve} {e : Ed} (g : Good v) (h : one v e = some u) : Good u := by
  unfold one at h
  split at h
  · rename_i hk
    cases h
    unfold okE goes comes at hk
    simp only [Bool.and_eq_true, decide_eq_true_eq, List.all_eq_true, Bool.not_eq_true'] at hk
    obtain ⟨hr, h1, h2, h3, h4, h5⟩ := hk
    obtain ⟨r1, r2, r3, r4, r5⟩ := right_parts hr
    refine ⟨fun f hf => ?_, ?_, r3, r4, r5⟩
    · rcases List.mem_append.1 hf with hf | hf
      · have := g.files f (mem_stay.1 hf).1
        exact ⟨this.1, Int.lt_of_lt_of_le this.2 h1⟩
      · exact ⟨r1 f hf, (h4 f hf).1⟩
    · show ((stay v.files e.del ++ e.add).map _).Nodup
      rw [List.map_append, List.nodup_append]
      refine ⟨?_, h5, ?_⟩
      · exact (List.Sublist.map _ List.filter_sublist).nodup g.apart
      · intro a ha b hb hab
        subst hab
        obtain ⟨f, hf, rfl⟩ := List.mem_map.1 ha
        obtain ⟨k, hk, hkf⟩ := List.mem_map.1 hb
        have h6 := (h4 k hk).2
        rw [hkf, ← hasN_stay] at h6
        have := hasN_true.2 ⟨f, hf, rfl⟩
        rw [h6] at this; cases this
  · cases h
theorem Good.app {v u : Ve} {es : List Ed} (g : Good v) (h : app v es = some u) : Good u := by
  induction es generalizing v with
  | nil => cases h; exact g
  | cons e r ih =>
    rw [app_cons] at h
    cases h1 : one v e with
    | none => rw [h1] at h; cases h
    | some x => rw [h1] at h; exact ih (g.step h1) h
def whole (v : Ve) : Ed := ⟨v.files, [], v.wal, v.next, v.seq⟩
/-- One edit makes it of nothing. -/
theorem Good.whole {v : Ve} (g : Good v) : one Ve.zero (whole v) = some v := by
  unfold one
  rw [if_pos]
  · obtain ⟨f, a, b, c⟩ := v; rfl
  · unfold okE right goes comes Ma.whole
    simp only [Bool.and_eq_true, decide_eq_true_eq, List.all_eq_true, Bool.not_eq_true', List.not_mem_nil, false_implies, implies_true, and_true, true_and]
    refine ⟨⟨fun f hf => (g.files f hf).1, ⟨g.wal, g.next⟩, g.seq⟩, g.next, g.seq, List.nodup_nil, fun f hf => ⟨(g.files f hf).2, ?_⟩, g.apart⟩
    show (hasN [] f.2 && _) = false
    rfl

end Go.Proofs.YtbnmjmapmbdioaaDoor.Ma
