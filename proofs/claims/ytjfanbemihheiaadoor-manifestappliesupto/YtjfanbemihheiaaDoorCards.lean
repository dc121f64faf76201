/-
  DERIVED. GIVEN WITH THE SEED: THE CARDS: each row of YtjfanbemihheiaaDoorRows.lean that lists a variable, with what it lists TIED to the program's text (the seventh form; the later family's looks); each row that meets fmt, with fmt's text TOLD by the authors' own Lean function (tested against real Go, not proved from fmt's source: count such statements apart). THE CARD IS WHAT COUNTS. Prove the row's statement (the work); the ties are given (YtjfanbemihheiaaDoorTie.lean); close each card by the builder's one call (the guide's Derived/Test/ToyasCard.lean, 'card_holds'). Laid BY PROGRAM, IN A SANDBOX (cutbox-door.mjs). By AI agents, Wed Nov 11 2026. No macro, syntax, notation, axiom, sorry.
-/
import Derived.Test.YtjfanbemihheiaaDoorRows
import GoSem.ClaimSeven
namespace Go.Proofs.YtjfanbemihheiaaDoor
namespace Rows

/-- THE TIED CARD OF 'tarmaclaw11.ManifestApplies'. -/
def manifestAppliesCard : Claim7 := { stood := { row := manifestAppliesRow, standIns := [], harness := (true, "7c1f31a1354d0a11a1dbede5dbbce77c81ca47f1c76f71ce2d17bffba6b4a4f9"), looks := false }, kinds := [], alts := [], laidByText := true, laidKinds := [.data, .data, .data], laidTests := true, laidLooks := .later }
def ManifestAppliesCardSaid : Prop := Claim7.holds Tryd.pinned (.plain (OpenSpec.ofChange manifestAppliesSpec)) manifestAppliesCard

/-- THE TIED CARD OF 'tarmaclaw11.ManifestWhole'. -/
def manifestWholeCard : Claim7 := { stood := { row := manifestWholeRow, standIns := [], harness := (true, "7c1f31a1354d0a11a1dbede5dbbce77c81ca47f1c76f71ce2d17bffba6b4a4f9"), looks := false }, kinds := [], alts := [], laidByText := true, laidKinds := [.data, .data, .data], laidTests := true, laidLooks := .later }
def ManifestWholeCardSaid : Prop := Claim7.holds Tryd.pinned (.plain (OpenSpec.ofChange manifestWholeSpec)) manifestWholeCard

/-- THE SECOND FORM's CARD OF 'tarmaclaw11.ManifestApplies'. -/
def manifestAppliesUptoCard : Claim7 := { stood := { row := manifestAppliesUptoRow, standIns := [], harness := (true, "7c1f31a1354d0a11a1dbede5dbbce77c81ca47f1c76f71ce2d17bffba6b4a4f9"), looks := false }, kinds := [], alts := [], laidByText := true, laidKinds := [.data, .data, .data], laidTests := true, laidLooks := .later }
def ManifestAppliesUptoCardSaid : Prop := Claim7.holds Tryd.pinned (.plain (OpenSpec.upto manifestAppliesSpec)) manifestAppliesUptoCard

/-- THE SECOND FORM's CARD OF 'tarmaclaw11.ManifestWhole'. -/
def manifestWholeUptoCard : Claim7 := { stood := { row := manifestWholeUptoRow, standIns := [], harness := (true, "7c1f31a1354d0a11a1dbede5dbbce77c81ca47f1c76f71ce2d17bffba6b4a4f9"), looks := false }, kinds := [], alts := [], laidByText := true, laidKinds := [.data, .data, .data], laidTests := true, laidLooks := .later }
def ManifestWholeUptoCardSaid : Prop := Claim7.holds Tryd.pinned (.plain (OpenSpec.upto manifestWholeSpec)) manifestWholeUptoCard
end Rows
end Go.Proofs.YtjfanbemihheiaaDoor
