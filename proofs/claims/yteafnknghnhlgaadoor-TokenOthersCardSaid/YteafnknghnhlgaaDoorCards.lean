/-
  DERIVED. GIVEN WITH THE SEED: THE CARDS: each row of YteafnknghnhlgaaDoorRows.lean that lists a variable, with what it lists TIED to the program's text (the seventh form; the later family's looks); each row that meets fmt, with fmt's text TOLD by the authors' own Lean function (tested against real Go, not proved from fmt's source: count such statements apart). THE CARD IS WHAT COUNTS. Prove the row's statement (the work); the ties are given (YteafnknghnhlgaaDoorTie.lean); close each card by the builder's one call (the guide's Derived/Test/ToyasCard.lean, 'card_holds'). Laid BY PROGRAM, IN A SANDBOX (cutbox-door.mjs). By AI agents, Wed Nov 11 2026. No macro, syntax, notation, axiom, sorry.
-/
import Derived.Test.YteafnknghnhlgaaDoorRows
import GoSem.ClaimSeven
namespace Go.Proofs.YteafnknghnhlgaaDoor
namespace Rows

/-- THE TIED CARD OF 'warrenerlaw14.TokenKnown'. -/
def tokenKnownCard : Claim7 := { stood := { row := tokenKnownRow, standIns := [], harness := (true, "a3a1e20218c03cea1c0791f757998c29422e9de77d8f04d9f0c1d49c3a0ff2ae"), looks := false }, kinds := [], alts := [], laidByText := true, laidKinds := [.data], laidTests := true, laidLooks := .later }
def TokenKnownCardSaid : Prop := Claim7.holds Tryd.pinned (.plain (OpenSpec.ofChange tokenKnownSpec)) tokenKnownCard

/-- THE TIED CARD OF 'warrenerlaw14.TokenSays'. -/
def tokenSaysCard : Claim7 := { stood := { row := tokenSaysRow, standIns := [], harness := (true, "a3a1e20218c03cea1c0791f757998c29422e9de77d8f04d9f0c1d49c3a0ff2ae"), looks := false }, kinds := [], alts := [], laidByText := true, laidKinds := [.data], laidTests := true, laidLooks := .later }
def TokenSaysCardSaid : Prop := Claim7.holds Tryd.pinned (.plain (OpenSpec.ofChange tokenSaysSpec)) tokenSaysCard

/-- THE TIED CARD OF 'warrenerlaw14.TokenBound'. -/
def tokenBoundCard : Claim7 := { stood := { row := tokenBoundRow, standIns := [], harness := (true, "a3a1e20218c03cea1c0791f757998c29422e9de77d8f04d9f0c1d49c3a0ff2ae"), looks := false }, kinds := [], alts := [], laidByText := true, laidKinds := [.data], laidTests := true, laidLooks := .later }
def TokenBoundCardSaid : Prop := Claim7.holds Tryd.pinned (.plain (OpenSpec.ofChange tokenBoundSpec)) tokenBoundCard

/-- THE TIED CARD OF 'warrenerlaw14.TokenBody'. -/
def tokenBodyCard : Claim7 := { stood := { row := tokenBodyRow, standIns := [], harness := (true, "a3a1e20218c03cea1c0791f757998c29422e9de77d8f04d9f0c1d49c3a0ff2ae"), looks := false }, kinds := [], alts := [], laidByText := true, laidKinds := [.data], laidTests := true, laidLooks := .later }
def TokenBodyCardSaid : Prop := Claim7.holds Tryd.pinned (.plain (OpenSpec.ofChange tokenBodySpec)) tokenBodyCard

/-- THE TIED CARD OF 'warrenerlaw14.TokenOthers'. -/
def tokenOthersCard : Claim7 := { stood := { row := tokenOthersRow, standIns := [], harness := (true, "a3a1e20218c03cea1c0791f757998c29422e9de77d8f04d9f0c1d49c3a0ff2ae"), looks := false }, kinds := [], alts := [], laidByText := true, laidKinds := [.data], laidTests := true, laidLooks := .later }
def TokenOthersCardSaid : Prop := Claim7.holds Tryd.pinned (.plain (OpenSpec.ofChange tokenOthersSpec)) tokenOthersCard

/-- THE SECOND FORM's CARD OF 'warrenerlaw14.TokenKnown'. -/
def tokenKnownUptoCard : Claim7 := { stood := { row := tokenKnownUptoRow, standIns := [], harness := (true, "a3a1e20218c03cea1c0791f757998c29422e9de77d8f04d9f0c1d49c3a0ff2ae"), looks := false }, kinds := [], alts := [], laidByText := true, laidKinds := [.data], laidTests := true, laidLooks := .later }
def TokenKnownUptoCardSaid : Prop := Claim7.holds Tryd.pinned (.plain (OpenSpec.upto tokenKnownSpec)) tokenKnownUptoCard

/-- THE SECOND FORM's CARD OF 'warrenerlaw14.TokenSays'. -/
def tokenSaysUptoCard : Claim7 := { stood := { row := tokenSaysUptoRow, standIns := [], harness := (true, "a3a1e20218c03cea1c0791f757998c29422e9de77d8f04d9f0c1d49c3a0ff2ae"), looks := false }, kinds := [], alts := [], laidByText := true, laidKinds := [.data], laidTests := true, laidLooks := .later }
def TokenSaysUptoCardSaid : Prop := Claim7.holds Tryd.pinned (.plain (OpenSpec.upto tokenSaysSpec)) tokenSaysUptoCard

/-- THE SECOND FORM's CARD OF 'warrenerlaw14.TokenBound'. -/
def tokenBoundUptoCard : Claim7 := { stood := { row := tokenBoundUptoRow, standIns := [], harness := (true, "a3a1e20218c03cea1c0791f757998c29422e9de77d8f04d9f0c1d49c3a0ff2ae"), looks := false }, kinds := [], alts := [], laidByText := true, laidKinds := [.data], laidTests := true, laidLooks := .later }
def TokenBoundUptoCardSaid : Prop := Claim7.holds Tryd.pinned (.plain (OpenSpec.upto tokenBoundSpec)) tokenBoundUptoCard

/-- THE SECOND FORM's CARD OF 'warrenerlaw14.TokenBody'. -/
def tokenBodyUptoCard : Claim7 := { stood := { row := tokenBodyUptoRow, standIns := [], harness := (true, "a3a1e20218c03cea1c0791f757998c29422e9de77d8f04d9f0c1d49c3a0ff2ae"), looks := false }, kinds := [], alts := [], laidByText := true, laidKinds := [.data], laidTests := true, laidLooks := .later }
def TokenBodyUptoCardSaid : Prop := Claim7.holds Tryd.pinned (.plain (OpenSpec.upto tokenBodySpec)) tokenBodyUptoCard

/-- THE SECOND FORM's CARD OF 'warrenerlaw14.TokenOthers'. -/
def tokenOthersUptoCard : Claim7 := { stood := { row := tokenOthersUptoRow, standIns := [], harness := (true, "a3a1e20218c03cea1c0791f757998c29422e9de77d8f04d9f0c1d49c3a0ff2ae"), looks := false }, kinds := [], alts := [], laidByText := true, laidKinds := [.data], laidTests := true, laidLooks := .later }
def TokenOthersUptoCardSaid : Prop := Claim7.holds Tryd.pinned (.plain (OpenSpec.upto tokenOthersSpec)) tokenOthersUptoCard
end Rows
end Go.Proofs.YteafnknghnhlgaaDoor
