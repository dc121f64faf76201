/-
  Package manifest: a name read (its letter so far).
-/
import Derived.Test.YtjfanbemihheiaaGreatDoorQManItoa
import Derived.Test.YtjfanbemihheiaaGreatDoorQManDigits
namespace Go.Proofs.YtjfanbemihheiaaGreatDoor.Ma
open Go.RowKit
set_option linter.unusedVariables false

/-- What a variable holds stays. -/
theorem var_below {P : Program} {w w' : World} {n : String} {cs : Array Value} (h : w.var? P n = some cs) (hb : Below w.heap.size w w') : w'.var? P n = some cs := by
  unfold World.var? at *
  cases hg : P.globalNamed n with
  | none => rw [hg] at h; cases h
  | some g =>
    rw [hg] at h
    simp only [Option.bind_some] at h ⊢
    cases ho : w.heap[g]? with
    | none => rw [ho] at h; cases h
    | some o =>
      rw [(hb.block g (lt_of_block ho)).trans ho]
      rw [ho] at h
      exact h
theorem Pow.below {w w' : World} (h : Pow w) (hb : Below w.heap.size w w') : Pow w' := var_below h hb
def isL (c : Int) : Bool := c == 116 || c == 119 || c == 109
theorem isLetter_any (c : Int) (w : World) : Calls Tryz.prog 51 #[.int .u8 c] w fun e w' => e = .returned (.bool (isL c)) ∧ w' = w := by
  by_cases h1 : c = 116
  · subst h1
    go_enter Tryz.func51, Tryz.ntmps51
    go_wp2
    go_ret
    exact ⟨rfl, rfl⟩
  · have k1 : (c == 116) = false := by simpa using h1
    by_cases h2 : c = 119
    · subst h2
      go_enter Tryz.func51, Tryz.ntmps51
      go_wp2
      go_ret
      exact ⟨rfl, rfl⟩
    · have k2 : (c == 119) = false := by simpa using h2
      by_cases h3 : c = 109
      · subst h3
        go_enter Tryz.func51, Tryz.ntmps51
        go_wp2
        go_ret
        exact ⟨rfl, rfl⟩
      · have k3 : (c == 109) = false := by simpa using h3
        go_enter Tryz.func51, Tryz.ntmps51
        go_wp2
        go_ret
        exact ⟨by unfold isL; rw [k1, k2, k3]; rfl, rfl⟩
end Go.Proofs.YtjfanbemihheiaaGreatDoor.Ma
