/-
  The log of layer 5 as plain data: an append that is synced, what a crash leaves of it, a file that is written anew.
-/
import Derived.Test.YtpiaegkeclmpgaaVfsMath
namespace Go.Proofs.Ytpiaegkeclmpgaa.Vf
set_option linter.unusedVariables false

/-- One Append of all frames, and a Sync. -/
def St.log (s : St) (x : Name) (t : List UInt8) : St := if s.appendE x = 0 then (s.append x t).sync x else s.append x t
def St.logE (s : St) (x : Name) (t : List UInt8) : Int := if s.appendE x = 0 then (s.append x t).syncE x else s.appendE x
def St.rewrite (s : St) (x : Name) (t : List UInt8) : St := if s.syncE x = 0 ∨ s.syncE x = 5 then (s.delete x).log x t else s.delete x
def St.rewriteE (s : St) (x : Name) (t : List UInt8) : Int := if s.syncE x = 0 ∨ s.syncE x = 5 then (s.delete x).logE x t else s.syncE x

/-- What each act leaves of the counts. -/
structure Near (s t : St) : Prop where
  armed : t.armed = s.armed
  lo : s.acts ≤ t.acts
  hi : t.acts ≤ s.acts + 1
  cnt : t.cnt ≤ s.cnt + 1
theorem Near.refl (s : St) : Near s s := ⟨rfl, Nat.le_refl _, Nat.le_succ _, Nat.le_succ _⟩
theorem Near.tick (s : St) : Near s s.tick := ⟨rfl, Nat.le_succ _, Nat.le_refl _, Nat.le_succ _⟩
theorem put_near (s : St) (x : Name) (f : File) : (s.put x f).armed = s.armed ∧ (s.put x f).acts = s.acts ∧ (s.put x f).cnt ≤ s.cnt + 1 :=
  ⟨rfl, rfl, by unfold St.put; dsimp only; split <;> omega⟩
theorem act_near (s : St) (eff : St → St) (h : (eff s.tick).armed = s.armed ∧ (eff s.tick).acts = s.acts + 1 ∧ (eff s.tick).cnt ≤ s.cnt + 1) : Near s (s.act eff) := by
  unfold St.act
  by_cases e : s.fate = 1
  · rw [if_pos e]; exact ⟨rfl, Nat.le_succ _, Nat.le_refl _, Nat.le_succ _⟩
  · rw [if_neg e]; exact ⟨h.1, by show s.acts ≤ (eff s.tick).acts; omega, by show (eff s.tick).acts ≤ _; omega, h.2.2⟩
theorem append_near (s : St) (x : Name) (t : List UInt8) : Near s (s.append x t) := by
  unfold St.append
  split
  · exact Near.refl s
  · split
    · exact Near.refl s
    · split
      · exact Near.tick s
      · exact act_near s _ (put_near s.tick x _)
theorem sync_near (s : St) (x : Name) : Near s (s.sync x) := by
  unfold St.sync
  split
  · exact act_near s _ (put_near s.tick x _)
  · exact Near.refl s
theorem delete_near (s : St) (x : Name) : Near s (s.delete x) := by
  unfold St.delete
  split
  · exact act_near s _ ⟨rfl, rfl, Nat.le_succ _⟩
  · exact Near.refl s

/-- All files: x, if it is there. -/
def only (x : Name) (f : Option File) (y : Name) : Option File := if y = x then f else none
def bytesOf (f : Option File) : List UInt8 := (f.getD ⟨[], 0⟩).bytes
section
variable {x : Name} {f g : Option File}
theorem only_self : only x f x = f := by simp [only]
theorem only_set : setF (only x f) x g = only x g := by funext y; unfold setF only; by_cases e : y = x <;> simp [e]
theorem only_none : only x none = fun _ => none := by funext y; simp [only]
theorem only_names (f : File) : Names (only x (some f)) [x] := names_one (f := f) fun y => rfl
theorem only_names0 : Names (only x none) [] := by rw [only_none]; exact names_none
/-- A crash of one file. -/
theorem only_crash (keep : List Int) (ks : List Name) (hks : Names (only x f) ks) : (fun y => crashed (only x f) keep y ks) = only x (f.map fun f => f.left (keep.getD 0 0)) ∧ ks.length ≤ 1 := by
  cases f with
  | none =>
    obtain rfl := hks.unique only_names0
    exact ⟨by funext y; simp [crashed, only], Nat.zero_le _⟩
  | some f =>
    obtain rfl := hks.unique (only_names f)
    refine ⟨?_, Nat.le_refl _⟩
    funext y
    unfold crashed
    by_cases e : y = x
    · subst e; rw [if_pos (by simp), only_self, only_self]; simp
    · rw [if_neg (by simpa using e)]; simp [only, e]
end

/-- The power is there; the file x is all there is. -/
structure Up (s : St) (x : Name) (f : Option File) (a : Nat) : Prop where
  down : s.down = false
  files : s.files = only x f
  acts : s.acts = a
  armed : s.armed ≤ s.acts
  cnt : s.cnt ≤ s.acts + 1
def Still (s : St) : Prop := ∀ i, s.fates i = none
/-- All of the file is synced. -/
def Whole (f : Option File) : Prop := ∀ g, f = some g → g.synced = g.bytes.length
def whole (l : List UInt8) : Option File := some ⟨l, l.length⟩
theorem whole_whole (l : List UInt8) : Whole (whole l) := fun g h => by cases h; rfl
theorem whole_none : Whole none := fun g h => by cases h
theorem up_init (x : Name) : Up St.init x none 0 := ⟨rfl, only_none.symm, rfl, Nat.le_refl _, Nat.zero_le _⟩
theorem still_init : Still St.init := fun _ => rfl
section
variable {s : St} {x : Name} {f : Option File} {a : Nat} {t : List UInt8}
theorem Up.old (h : Up s x f a) : s.old x = f.getD ⟨[], 0⟩ := by unfold St.old; rw [h.files, only_self]
theorem Up.found (h : Up s x f a) : s.found x = f.getD ⟨[], 0⟩ := by unfold St.found; rw [h.down]; exact h.old
theorem still_fate (h : Still s) : s.fate = 0 := by unfold St.fate; rw [h]; rfl
theorem still_tick (h : Still s) : Still s.tick := fun i => by show (if _ then _ else _) = _; rw [h]; split <;> rfl
theorem Up.tick (h : Up s x f a) : Up s.tick x f (a + 1) :=
  ⟨h.down, h.files, by show s.acts + 1 = _; rw [h.acts], by have := h.armed; show s.armed ≤ s.acts + 1; omega, by have := h.cnt; show s.cnt ≤ s.acts + 1 + 1; omega⟩
/-- The file is another. -/
theorem Up.putTo (h : Up s x f a) (g : File) (k : Int) (hk : gone k = false) : Up { s.tick.put x g with down := gone k } x (some g) (a + 1) := by
  refine ⟨hk, ?_, by show s.acts + 1 = _; rw [h.acts], by have := h.armed; show s.armed ≤ s.acts + 1; omega, ?_⟩
  · show setF s.files x (some g) = _; rw [h.files, only_set]
  · have := (put_near s.tick x g).2.2
    have h2 := h.cnt
    show (s.tick.put x g).cnt ≤ s.acts + 1 + 1
    have e : s.tick.cnt = s.cnt := rfl
    omega
theorem up_append (h : Up s x f a) (hx : isName x = true) (h3 : s.fate ≠ 3) : s.append x t = s.act (St.addTo x t) ∧ s.appendE x = errOf s.fate := by
  unfold St.append St.appendE; rw [h.down, hx]; simp [h3]
theorem addTo_tick (h : Up s x f a) : St.addTo x t s.tick = s.tick.put x ⟨bytesOf f ++ t, (f.getD ⟨[], 0⟩).synced⟩ := by
  show s.tick.put x ⟨(s.old x).bytes ++ t, (s.old x).synced⟩ = _
  rw [h.old]; rfl
/-- What a Sync does of a file that is there. -/
theorem up_sync {g : File} (h : Up s x (some g) a) : s.sync x = s.act (fun u => u.put x g.sync) ∧ s.syncE x = errOf s.fate := by
  have e0 : s.findE x = 0 := by unfold St.findE; rw [h.down, h.files, only_self]; rfl
  have ho : s.old x = g := h.old
  unfold St.sync St.syncE
  rw [if_pos e0, if_pos e0, ho]
  exact ⟨rfl, rfl⟩
theorem act_done (h : s.fate ≠ 1) (eff : St → St) : s.act eff = { eff s.tick with down := gone s.fate } := by unfold St.act; rw [if_neg h]
theorem act_lost (h : s.fate = 1) (eff : St → St) : s.act eff = { s.tick with down := true } := by unfold St.act; rw [if_pos h, h]; rfl
theorem gone_errOf {k : Int} : errOf k = 0 ↔ gone k = false := by unfold errOf; cases gone k <;> simp
theorem errOf_seven {k : Int} (h : errOf k ≠ 0) : errOf k = 7 := by unfold errOf at *; split at h <;> simp_all

/-- What stands in the file when the power goes with an append. -/
def CutTo (f : Option File) (t : List UInt8) (g : Option File) : Prop := g = f ∨ ∃ n, g = some ⟨bytesOf f ++ t, n⟩ ∧ (bytesOf f).length ≤ n ∧ n ≤ (bytesOf f ++ t).length
/-- The log's append, whatever the fates. -/
def Logged (s : St) (x : Name) (f : Option File) (a : Nat) (t : List UInt8) : Prop :=
  (s.logE x t = 0 ∧ Up (s.log x t) x (whole (bytesOf f ++ t)) (a + 2))
  ∨ (s.logE x t = 6 ∧ Up (s.log x t) x f (a + 1))
  ∨ (s.logE x t = 7 ∧ ∃ g : Option File, (s.log x t).files = only x g ∧ CutTo f t g ∧ (s.log x t).cnt ≤ a + 3)
theorem Logged.done {s : St} {x : Name} {f : Option File} {a : Nat} {t : List UInt8} (h : s.logE x t = 0) (up : Up (s.log x t) x (whole (bytesOf f ++ t)) (a + 2)) : Logged s x f a t := .inl ⟨h, up⟩
theorem Logged.full {s : St} {x : Name} {f : Option File} {a : Nat} {t : List UInt8} (h : s.logE x t = 6) (up : Up (s.log x t) x f (a + 1)) : Logged s x f a t := .inr (.inl ⟨h, up⟩)
theorem Logged.gone {s : St} {x : Name} {f : Option File} {a : Nat} {t : List UInt8} (h : s.logE x t = 7) (g : Option File) (files : (s.log x t).files = only x g) (cut : CutTo f t g) (cnt : (s.log x t).cnt ≤ a + 3) : Logged s x f a t := .inr (.inr ⟨h, g, files, cut, cnt⟩)
theorem synced_le (hw : Whole f) : (f.getD ⟨[], 0⟩).synced = (bytesOf f).length := by
  cases f with
  | none => rfl
  | some g => exact hw g rfl
theorem logged (h : Up s x f a) (hx : isName x = true) (hw : Whole f) : Logged s x f a t := by
  have hsy := synced_le hw
  by_cases h3 : s.fate = 3
  · have e1 : s.append x t = s.tick := by unfold St.append; rw [h.down, hx, h3]; rfl
    have e2 : s.appendE x = 6 := by unfold St.appendE; rw [h.down, hx, h3]; rfl
    refine .full (by unfold St.logE; rw [if_neg (by rw [e2]; decide), e2]) ?_
    unfold St.log; rw [if_neg (by rw [e2]; decide), e1]
    exact h.tick
  · obtain ⟨e1, e2⟩ := up_append (t := t) h hx h3
    have hc := h.cnt
    have ha := h.acts
    by_cases h0 : errOf s.fate = 0
    · -- appended
      have hg := gone_errOf.1 h0
      have h1 : s.fate ≠ 1 := by intro e; rw [e] at hg; cases hg
      rw [act_done h1, addTo_tick h] at e1
      have u1 := h.putTo ⟨bytesOf f ++ t, (f.getD ⟨[], 0⟩).synced⟩ s.fate hg
      rw [← e1] at u1
      obtain ⟨e3, e4⟩ := up_sync u1
      have hl : s.log x t = (s.append x t).sync x := by unfold St.log; rw [if_pos (by rw [e2]; exact h0)]
      have hE : s.logE x t = (s.append x t).syncE x := by unfold St.logE; rw [if_pos (by rw [e2]; exact h0)]
      generalize s.append x t = s1 at *
      have hc1 := u1.cnt
      have ha1 := u1.acts
      by_cases h5 : errOf s1.fate = 0
      · have hg1 := gone_errOf.1 h5
        have h6 : s1.fate ≠ 1 := by intro e; rw [e] at hg1; cases hg1
        rw [act_done h6] at e3
        refine .done (by rw [hE, e4, h5]) ?_
        rw [hl, e3]
        exact u1.putTo _ s1.fate hg1
      · have e7 := errOf_seven h5
        by_cases h6 : s1.fate = 1
        · rw [act_lost h6] at e3
          refine .gone (by rw [hE, e4, e7]) (some ⟨bytesOf f ++ t, (f.getD ⟨[], 0⟩).synced⟩) (by rw [hl, e3]; exact u1.files) (.inr ⟨_, rfl, by rw [hsy]; omega, by rw [hsy, List.length_append]; omega⟩) ?_
          rw [hl, e3]; show s1.cnt ≤ _; omega
        · rw [act_done h6] at e3
          refine .gone (by rw [hE, e4, e7]) (some ⟨bytesOf f ++ t, (bytesOf f ++ t).length⟩) ?_ (.inr ⟨_, rfl, by rw [List.length_append]; omega, Nat.le_refl _⟩) ?_
          · rw [hl, e3]; show setF s1.files x _ = _; rw [u1.files, only_set]; rfl
          · rw [hl, e3]
            have := (put_near s1.tick x (File.sync ⟨bytesOf f ++ t, (f.getD ⟨[], 0⟩).synced⟩)).2.2
            have e : s1.tick.cnt = s1.cnt := rfl
            exact Nat.le_trans this (by omega)
    · have e7 := errOf_seven h0
      have hl : s.log x t = s.append x t := by unfold St.log; rw [if_neg (by rw [e2]; exact h0)]
      have hE : s.logE x t = 7 := by unfold St.logE; rw [if_neg (by rw [e2]; exact h0), e2, e7]
      by_cases h1 : s.fate = 1
      · rw [act_lost h1] at e1
        refine .gone hE f (by rw [hl, e1]; exact h.files) (.inl rfl) ?_
        rw [hl, e1]; show s.cnt ≤ _; omega
      · rw [act_done h1, addTo_tick h] at e1
        refine .gone hE (some ⟨bytesOf f ++ t, (f.getD ⟨[], 0⟩).synced⟩) ?_ (.inr ⟨_, rfl, by rw [hsy]; omega, by rw [hsy, List.length_append]; omega⟩) ?_
        · rw [hl, e1]; show setF s.files x _ = _; rw [h.files, only_set]
        · rw [hl, e1]
          have := (put_near s.tick x ⟨bytesOf f ++ t, (f.getD ⟨[], 0⟩).synced⟩).2.2
          have e : s.tick.cnt = s.cnt := rfl
          exact Nat.le_trans this (by omega)
/-- The log's append where nothing is armed. -/
theorem still_put (h : Still s) (x : Name) (g : File) : Still { s.tick.put x g with down := gone s.fate } := still_tick h
theorem calm_log (h : Up s x f a) (hs : Still s) (hx : isName x = true) : s.logE x t = 0 ∧ Up (s.log x t) x (whole (bytesOf f ++ t)) (a + 2) ∧ Still (s.log x t) := by
  have hf := still_fate hs
  obtain ⟨e1, e2⟩ := up_append (t := t) h hx (by rw [hf]; decide)
  rw [act_done (by rw [hf]; decide), addTo_tick h] at e1
  have e0 : s.appendE x = 0 := by rw [e2, hf]; rfl
  have u1 := h.putTo ⟨bytesOf f ++ t, (f.getD ⟨[], 0⟩).synced⟩ s.fate (by rw [hf]; rfl)
  have s1 := still_put hs x ⟨bytesOf f ++ t, (f.getD ⟨[], 0⟩).synced⟩
  rw [← e1] at u1 s1
  obtain ⟨e3, e4⟩ := up_sync u1
  have hl : s.log x t = (s.append x t).sync x := by unfold St.log; rw [if_pos e0]
  have hE : s.logE x t = (s.append x t).syncE x := by unfold St.logE; rw [if_pos e0]
  have hf1 := still_fate s1
  rw [act_done (by rw [hf1]; decide)] at e3
  rw [hl, hE, e4, hf1, e3]
  exact ⟨rfl, u1.putTo _ _ (by rw [hf1]; rfl), still_put s1 x _⟩
/-- An append after which the power goes. -/
theorem after_log (h : Up s x f a) (hx : isName x = true) (hf : s.fate = 2) (hw : Whole f) : s.logE x t = 7 ∧ (s.log x t).files = only x (some ⟨bytesOf f ++ t, (bytesOf f).length⟩) ∧ (s.log x t).cnt ≤ a + 2 := by
  obtain ⟨e1, e2⟩ := up_append (t := t) h hx (by rw [hf]; decide)
  rw [act_done (by rw [hf]; decide), addTo_tick h, synced_le hw] at e1
  have e7 : s.appendE x = 7 := by rw [e2, hf]; rfl
  have hl : s.log x t = s.append x t := by unfold St.log; rw [if_neg (by rw [e7]; decide)]
  refine ⟨by unfold St.logE; rw [if_neg (by rw [e7]; decide), e7], ?_, ?_⟩
  · rw [hl, e1]; show setF s.files x _ = _; rw [h.files, only_set]
  · have hc := h.cnt
    have ha := h.acts
    rw [hl, e1]
    have := (put_near s.tick x ⟨bytesOf f ++ t, (bytesOf f).length⟩).2.2
    have e : s.tick.cnt = s.cnt := rfl
    exact Nat.le_trans this (by omega)
/-- A file that is written anew. -/
theorem calm_delete (h : Up s x f a) (hs : Still s) : (s.syncE x = 0 ∨ s.syncE x = 5) ∧ Still (s.delete x) ∧ ∃ a', a' ≤ a + 1 ∧ Up (s.delete x) x none a' := by
  have hf := still_fate hs
  cases f with
  | none =>
    have e0 : s.findE x = 5 := by unfold St.findE; rw [h.down, h.files, only_self]; rfl
    have e1 : s.delete x = s := by unfold St.delete; rw [if_neg (by rw [e0]; decide)]
    rw [e1]
    exact ⟨.inr (by unfold St.syncE; rw [if_neg (by rw [e0]; decide), e0]), hs, a, Nat.le_succ _, h⟩
  | some g =>
    have e0 : s.findE x = 0 := by unfold St.findE; rw [h.down, h.files, only_self]; rfl
    have e1 : s.delete x = { s.tick.del x with down := gone s.fate } := by unfold St.delete; rw [if_pos e0]; exact act_done (by rw [hf]; decide) _
    rw [e1]
    refine ⟨.inl (by unfold St.syncE; rw [if_pos e0, hf]; rfl), still_tick hs, a + 1, Nat.le_refl _, ⟨by show gone s.fate = false; rw [hf]; rfl, ?_, by show s.acts + 1 = _; rw [h.acts], by have := h.armed; show s.armed ≤ s.acts + 1; omega, by have := h.cnt; show s.cnt ≤ s.acts + 1 + 1; omega⟩⟩
    show setF s.files x none = _; rw [h.files, only_set]
theorem calm_rewrite (h : Up s x f a) (hs : Still s) (hx : isName x = true) : s.rewriteE x t = 0 ∧ Still (s.rewrite x t) ∧ ∃ a', a' ≤ a + 3 ∧ Up (s.rewrite x t) x (whole t) a' := by
  obtain ⟨e, s1, a', ha', u1⟩ := calm_delete h hs
  obtain ⟨e2, u2, s2⟩ := calm_log (t := t) u1 s1 hx
  unfold St.rewriteE St.rewrite
  rw [if_pos e, if_pos e]
  exact ⟨e2, s2, a' + 2, by omega, u2⟩
/-- What a crash leaves. -/
theorem left_bytes (g : File) (k : Int) (h : g.synced ≤ g.bytes.length) : ∃ m, g.synced ≤ m ∧ m ≤ g.bytes.length ∧ g.left k = ⟨g.bytes.take m, m⟩ := by
  refine ⟨g.synced + (min (max k 0) ((g.bytes.length : Int) - g.synced)).toNat, by omega, by omega, rfl⟩
theorem cut_left (hw : Whole f) {g : Option File} (h : CutTo f t g) (k : Int) : ∃ j, bytesOf (g.map fun f => f.left k) = bytesOf f ++ t.take j ∧ Whole (g.map fun f => f.left k) := by
  have hW : ∀ p : File, p.synced ≤ p.bytes.length → Whole (some (p.left k)) := fun p hp q hq => by
    obtain ⟨m, h1, h2, h3⟩ := left_bytes p k hp
    cases hq
    rw [h3]; show m = (p.bytes.take m).length; rw [List.length_take]; omega
  rcases h with rfl | ⟨n, rfl, h1, h2⟩
  · cases g with
    | none => exact ⟨0, by simp [bytesOf], whole_none⟩
    | some p =>
      have hp := hw p rfl
      obtain ⟨m, h1, h2, h3⟩ := left_bytes p k (by omega)
      refine ⟨0, ?_, hW p (by omega)⟩
      show (p.left k).bytes = p.bytes ++ _
      rw [h3]
      show p.bytes.take m = _
      rw [List.take_of_length_le (by omega)]; simp
  · obtain ⟨m, h3, h4, h5⟩ := left_bytes ⟨bytesOf f ++ t, n⟩ k h2
    refine ⟨m - (bytesOf f).length, ?_, hW ⟨bytesOf f ++ t, n⟩ h2⟩
    show (File.left ⟨bytesOf f ++ t, n⟩ k).bytes = _
    rw [h5]
    show (bytesOf f ++ t).take m = _
    have h6 : n ≤ m := h3
    rw [List.take_append, List.take_of_length_le (by omega)]
theorem up_crash {ks : List Name} (hks : Names s.files ks) (hf : s.files = only x f) (k : Int) : Up (s.crash [k] ks) x (f.map fun f => f.left k) 0 ∧ Still (s.crash [k] ks) := by
  rw [hf] at hks
  obtain ⟨h1, h2⟩ := only_crash [k] ks hks
  refine ⟨⟨rfl, ?_, rfl, Nat.le_refl _, by show ks.length ≤ 0 + 1; omega⟩, fun _ => rfl⟩
  show (fun y => crashed s.files [k] y ks) = _
  rw [hf]; exact h1
end
end Go.Proofs.Ytpiaegkeclmpgaa.Vf
