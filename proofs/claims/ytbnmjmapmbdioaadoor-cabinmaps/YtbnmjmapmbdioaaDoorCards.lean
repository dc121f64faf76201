/-
  DERIVED. GIVEN WITH THE SEED: THE CARDS: each row of YtbnmjmapmbdioaaDoorRows.lean that lists a variable, with what it lists TIED to the program's text (the seventh form; the later family's looks); each row that meets fmt, with fmt's text TOLD by the authors' own Lean function (tested against real Go, not proved from fmt's source: count such statements apart). THE CARD IS WHAT COUNTS. Prove the row's statement (the work); the ties are given (YtbnmjmapmbdioaaDoorTie.lean); close each card by the builder's one call (the guide's Derived/Test/ToyasCard.lean, 'card_holds'). Laid BY PROGRAM, IN A SANDBOX (cutbox-door.mjs). By AI agents, Wed Nov 11 2026. No macro, syntax, notation, axiom, sorry.
-/
import Derived.Test.YtbnmjmapmbdioaaDoorRows
import GoSem.ClaimSeven
namespace Go.Proofs.YtbnmjmapmbdioaaDoor
namespace Rows

/-- THE TIED CARD OF 'tarmaclaw13.CabinMaps'. -/
def cabinMapsCard : Claim7 := { stood := { row := cabinMapsRow, standIns := [], harness := (true, "8aa1b08284f7c8e33925361d1d87b33a4f45f0aa1f554a6e254afea0ed6ab9b6"), looks := true }, kinds := [], alts := [], laidByText := true, laidKinds := [.data, .data, .data], laidTests := true, laidLooks := .later }
def CabinMapsCardSaid : Prop := Claim7.holds Tryd.pinned (.plain (OpenSpec.ofChange cabinMapsSpec)) cabinMapsCard

/-- THE TIED CARD OF 'tarmaclaw13.CabinFinds'. -/
def cabinFindsCard : Claim7 := { stood := { row := cabinFindsRow, standIns := [], harness := (true, "8aa1b08284f7c8e33925361d1d87b33a4f45f0aa1f554a6e254afea0ed6ab9b6"), looks := true }, kinds := [], alts := [], laidByText := true, laidKinds := [.data, .data, .data], laidTests := true, laidLooks := .later }
def CabinFindsCardSaid : Prop := Claim7.holds Tryd.pinned (.plain (OpenSpec.ofChange cabinFindsSpec)) cabinFindsCard

/-- THE TIED CARD OF 'tarmaclaw13.CabinParts'. -/
def cabinPartsCard : Claim7 := { stood := { row := cabinPartsRow, standIns := [], harness := (true, "8aa1b08284f7c8e33925361d1d87b33a4f45f0aa1f554a6e254afea0ed6ab9b6"), looks := true }, kinds := [], alts := [], laidByText := true, laidKinds := [.data, .data, .data], laidTests := true, laidLooks := .later }
def CabinPartsCardSaid : Prop := Claim7.holds Tryd.pinned (.plain (OpenSpec.ofChange cabinPartsSpec)) cabinPartsCard

/-- THE TIED CARD OF 'tarmaclaw13.CabinLabels'. -/
def cabinLabelsCard : Claim7 := { stood := { row := cabinLabelsRow, standIns := [], harness := (true, "8aa1b08284f7c8e33925361d1d87b33a4f45f0aa1f554a6e254afea0ed6ab9b6"), looks := true }, kinds := [], alts := [], laidByText := true, laidKinds := [.data, .data, .data, .sentinel, .sentinel], laidTests := true, laidLooks := .later }
def CabinLabelsCardSaid : Prop := Claim7.holds Tryd.pinned (.plain (OpenSpec.ofChange cabinLabelsSpec)) cabinLabelsCard

/-- THE SECOND FORM's CARD OF 'tarmaclaw13.CabinMaps'. -/
def cabinMapsUptoCard : Claim7 := { stood := { row := cabinMapsUptoRow, standIns := [], harness := (true, "8aa1b08284f7c8e33925361d1d87b33a4f45f0aa1f554a6e254afea0ed6ab9b6"), looks := true }, kinds := [], alts := [], laidByText := true, laidKinds := [.data, .data, .data], laidTests := true, laidLooks := .later }
def CabinMapsUptoCardSaid : Prop := Claim7.holds Tryd.pinned (.plain (OpenSpec.upto cabinMapsSpec)) cabinMapsUptoCard

/-- THE SECOND FORM's CARD OF 'tarmaclaw13.CabinFinds'. -/
def cabinFindsUptoCard : Claim7 := { stood := { row := cabinFindsUptoRow, standIns := [], harness := (true, "8aa1b08284f7c8e33925361d1d87b33a4f45f0aa1f554a6e254afea0ed6ab9b6"), looks := true }, kinds := [], alts := [], laidByText := true, laidKinds := [.data, .data, .data], laidTests := true, laidLooks := .later }
def CabinFindsUptoCardSaid : Prop := Claim7.holds Tryd.pinned (.plain (OpenSpec.upto cabinFindsSpec)) cabinFindsUptoCard

/-- THE SECOND FORM's CARD OF 'tarmaclaw13.CabinParts'. -/
def cabinPartsUptoCard : Claim7 := { stood := { row := cabinPartsUptoRow, standIns := [], harness := (true, "8aa1b08284f7c8e33925361d1d87b33a4f45f0aa1f554a6e254afea0ed6ab9b6"), looks := true }, kinds := [], alts := [], laidByText := true, laidKinds := [.data, .data, .data], laidTests := true, laidLooks := .later }
def CabinPartsUptoCardSaid : Prop := Claim7.holds Tryd.pinned (.plain (OpenSpec.upto cabinPartsSpec)) cabinPartsUptoCard

/-- THE SECOND FORM's CARD OF 'tarmaclaw13.CabinLabels'. -/
def cabinLabelsUptoCard : Claim7 := { stood := { row := cabinLabelsUptoRow, standIns := [], harness := (true, "8aa1b08284f7c8e33925361d1d87b33a4f45f0aa1f554a6e254afea0ed6ab9b6"), looks := true }, kinds := [], alts := [], laidByText := true, laidKinds := [.data, .data, .data, .sentinel, .sentinel], laidTests := true, laidLooks := .later }
def CabinLabelsUptoCardSaid : Prop := Claim7.holds Tryd.pinned (.plain (OpenSpec.upto cabinLabelsSpec)) cabinLabelsUptoCard
end Rows
end Go.Proofs.YtbnmjmapmbdioaaDoor
