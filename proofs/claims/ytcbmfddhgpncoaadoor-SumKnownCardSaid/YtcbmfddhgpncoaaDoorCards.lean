/-
  DERIVED. GIVEN WITH THE SEED: THE CARDS: each row of YtcbmfddhgpncoaaDoorRows.lean that lists a variable, with what it lists TIED to the program's text (the seventh form; the later family's looks); each row that meets fmt, with fmt's text TOLD by the authors' own Lean function (tested against real Go, not proved from fmt's source: count such statements apart). THE CARD IS WHAT COUNTS. Prove the row's statement (the work); the ties are given (YtcbmfddhgpncoaaDoorTie.lean); close each card by the builder's one call (the guide's Derived/Test/ToyasCard.lean, 'card_holds'). Laid BY PROGRAM, IN A SANDBOX (cutbox-door.mjs). By AI agents, Wed Nov 11 2026. No macro, syntax, notation, axiom, sorry.
-/
import Derived.Test.YtcbmfddhgpncoaaDoorRows
import GoSem.ClaimSeven
namespace Go.Proofs.YtcbmfddhgpncoaaDoor
namespace Rows

/-- THE TIED CARD OF 'warrenerlaw1.SumKnown'. -/
def sumKnownCard : Claim7 := { stood := { row := sumKnownRow, standIns := [], harness := (true, "4d78c1ca5e6b44029c6b260ebc18df9f809f610f447e11519a3517298ab80ea7"), looks := false }, kinds := [], alts := [], laidByText := true, laidKinds := [.data], laidTests := true, laidLooks := .later }
def SumKnownCardSaid : Prop := Claim7.holds Tryd.pinned (.plain (OpenSpec.ofChange sumKnownSpec)) sumKnownCard

/-- THE TIED CARD OF 'warrenerlaw1.SumSays'. -/
def sumSaysCard : Claim7 := { stood := { row := sumSaysRow, standIns := [], harness := (true, "4d78c1ca5e6b44029c6b260ebc18df9f809f610f447e11519a3517298ab80ea7"), looks := false }, kinds := [], alts := [], laidByText := true, laidKinds := [.data], laidTests := true, laidLooks := .later }
def SumSaysCardSaid : Prop := Claim7.holds Tryd.pinned (.plain (OpenSpec.ofChange sumSaysSpec)) sumSaysCard

/-- THE TIED CARD OF 'warrenerlaw1.SumParts'. -/
def sumPartsCard : Claim7 := { stood := { row := sumPartsRow, standIns := [], harness := (true, "4d78c1ca5e6b44029c6b260ebc18df9f809f610f447e11519a3517298ab80ea7"), looks := false }, kinds := [], alts := [], laidByText := true, laidKinds := [.data], laidTests := true, laidLooks := .later }
def SumPartsCardSaid : Prop := Claim7.holds Tryd.pinned (.plain (OpenSpec.ofChange sumPartsSpec)) sumPartsCard

/-- THE TIED CARD OF 'warrenerlaw1.SumTexts'. -/
def sumTextsCard : Claim7 := { stood := { row := sumTextsRow, standIns := [], harness := (true, "4d78c1ca5e6b44029c6b260ebc18df9f809f610f447e11519a3517298ab80ea7"), looks := false }, kinds := [], alts := [], laidByText := true, laidKinds := [.data], laidTests := true, laidLooks := .later }
def SumTextsCardSaid : Prop := Claim7.holds Tryd.pinned (.plain (OpenSpec.ofChange sumTextsSpec)) sumTextsCard

/-- THE SECOND FORM's CARD OF 'warrenerlaw1.SumKnown'. -/
def sumKnownUptoCard : Claim7 := { stood := { row := sumKnownUptoRow, standIns := [], harness := (true, "4d78c1ca5e6b44029c6b260ebc18df9f809f610f447e11519a3517298ab80ea7"), looks := false }, kinds := [], alts := [], laidByText := true, laidKinds := [.data], laidTests := true, laidLooks := .later }
def SumKnownUptoCardSaid : Prop := Claim7.holds Tryd.pinned (.plain (OpenSpec.upto sumKnownSpec)) sumKnownUptoCard

/-- THE SECOND FORM's CARD OF 'warrenerlaw1.SumSays'. -/
def sumSaysUptoCard : Claim7 := { stood := { row := sumSaysUptoRow, standIns := [], harness := (true, "4d78c1ca5e6b44029c6b260ebc18df9f809f610f447e11519a3517298ab80ea7"), looks := false }, kinds := [], alts := [], laidByText := true, laidKinds := [.data], laidTests := true, laidLooks := .later }
def SumSaysUptoCardSaid : Prop := Claim7.holds Tryd.pinned (.plain (OpenSpec.upto sumSaysSpec)) sumSaysUptoCard

/-- THE SECOND FORM's CARD OF 'warrenerlaw1.SumParts'. -/
def sumPartsUptoCard : Claim7 := { stood := { row := sumPartsUptoRow, standIns := [], harness := (true, "4d78c1ca5e6b44029c6b260ebc18df9f809f610f447e11519a3517298ab80ea7"), looks := false }, kinds := [], alts := [], laidByText := true, laidKinds := [.data], laidTests := true, laidLooks := .later }
def SumPartsUptoCardSaid : Prop := Claim7.holds Tryd.pinned (.plain (OpenSpec.upto sumPartsSpec)) sumPartsUptoCard

/-- THE SECOND FORM's CARD OF 'warrenerlaw1.SumTexts'. -/
def sumTextsUptoCard : Claim7 := { stood := { row := sumTextsUptoRow, standIns := [], harness := (true, "4d78c1ca5e6b44029c6b260ebc18df9f809f610f447e11519a3517298ab80ea7"), looks := false }, kinds := [], alts := [], laidByText := true, laidKinds := [.data], laidTests := true, laidLooks := .later }
def SumTextsUptoCardSaid : Prop := Claim7.holds Tryd.pinned (.plain (OpenSpec.upto sumTextsSpec)) sumTextsUptoCard
end Rows
end Go.Proofs.YtcbmfddhgpncoaaDoor
