/-
  DERIVED. GIVEN WITH THE SEED: THE CARDS: each row of YtbiokogihimboaaDoorRows.lean that lists a variable, with what it lists TIED to the program's text (the seventh form; the later family's looks); each row that meets fmt, with fmt's text TOLD by the authors' own Lean function (tested against real Go, not proved from fmt's source: count such statements apart). THE CARD IS WHAT COUNTS. Prove the row's statement (the work); the ties are given (YtbiokogihimboaaDoorTie.lean); close each card by the builder's one call (the guide's Derived/Test/ToyasCard.lean, 'card_holds'). Laid BY PROGRAM, IN A SANDBOX (cutbox-door.mjs). By AI agents, Wed Nov 11 2026. No macro, syntax, notation, axiom, sorry.
-/
import Derived.Test.YtbiokogihimboaaDoorRows
import GoSem.ClaimSeven
namespace Go.Proofs.YtbiokogihimboaaDoor
namespace Rows

/-- THE TIED CARD OF 'warrenerlaw18.AggKnown'. -/
def aggKnownCard : Claim7 := { stood := { row := aggKnownRow, standIns := [], harness := (true, "e5f2203e91049af9f248797a2881660b65d6ebb82fee37d1ff04c6d90323e182"), looks := false }, kinds := [], alts := [], laidByText := true, laidKinds := [.data, .data, .data], laidTests := true, laidLooks := .later }
def AggKnownCardSaid : Prop := Claim7.holds Tryd.pinned (.plain (OpenSpec.ofChange aggKnownSpec)) aggKnownCard

/-- THE TIED CARD OF 'warrenerlaw18.AggSays'. -/
def aggSaysCard : Claim7 := { stood := { row := aggSaysRow, standIns := [], harness := (true, "e5f2203e91049af9f248797a2881660b65d6ebb82fee37d1ff04c6d90323e182"), looks := false }, kinds := [], alts := [], laidByText := true, laidKinds := [.data, .data, .data], laidTests := true, laidLooks := .later }
def AggSaysCardSaid : Prop := Claim7.holds Tryd.pinned (.plain (OpenSpec.ofChange aggSaysSpec)) aggSaysCard

/-- THE TIED CARD OF 'warrenerlaw18.AggJoins'. -/
def aggJoinsCard : Claim7 := { stood := { row := aggJoinsRow, standIns := [], harness := (true, "e5f2203e91049af9f248797a2881660b65d6ebb82fee37d1ff04c6d90323e182"), looks := false }, kinds := [], alts := [], laidByText := true, laidKinds := [.data, .data, .data], laidTests := true, laidLooks := .later }
def AggJoinsCardSaid : Prop := Claim7.holds Tryd.pinned (.plain (OpenSpec.ofChange aggJoinsSpec)) aggJoinsCard

/-- THE TIED CARD OF 'warrenerlaw18.AggOrder'. -/
def aggOrderCard : Claim7 := { stood := { row := aggOrderRow, standIns := [], harness := (true, "e5f2203e91049af9f248797a2881660b65d6ebb82fee37d1ff04c6d90323e182"), looks := false }, kinds := [], alts := [], laidByText := true, laidKinds := [.data, .data, .data], laidTests := true, laidLooks := .later }
def AggOrderCardSaid : Prop := Claim7.holds Tryd.pinned (.plain (OpenSpec.ofChange aggOrderSpec)) aggOrderCard

/-- THE TIED CARD OF 'warrenerlaw18.AggBounds'. -/
def aggBoundsCard : Claim7 := { stood := { row := aggBoundsRow, standIns := [], harness := (true, "e5f2203e91049af9f248797a2881660b65d6ebb82fee37d1ff04c6d90323e182"), looks := false }, kinds := [], alts := [], laidByText := true, laidKinds := [.data, .data, .data], laidTests := true, laidLooks := .later }
def AggBoundsCardSaid : Prop := Claim7.holds Tryd.pinned (.plain (OpenSpec.ofChange aggBoundsSpec)) aggBoundsCard

/-- THE TIED CARD OF 'warrenerlaw18.AggWants'. -/
def aggWantsCard : Claim7 := { stood := { row := aggWantsRow, standIns := [], harness := (true, "e5f2203e91049af9f248797a2881660b65d6ebb82fee37d1ff04c6d90323e182"), looks := false }, kinds := [], alts := [], laidByText := true, laidKinds := [.data, .data, .data], laidTests := true, laidLooks := .later }
def AggWantsCardSaid : Prop := Claim7.holds Tryd.pinned (.plain (OpenSpec.ofChange aggWantsSpec)) aggWantsCard

/-- THE SECOND FORM's CARD OF 'warrenerlaw18.AggKnown'. -/
def aggKnownUptoCard : Claim7 := { stood := { row := aggKnownUptoRow, standIns := [], harness := (true, "e5f2203e91049af9f248797a2881660b65d6ebb82fee37d1ff04c6d90323e182"), looks := false }, kinds := [], alts := [], laidByText := true, laidKinds := [.data, .data, .data], laidTests := true, laidLooks := .later }
def AggKnownUptoCardSaid : Prop := Claim7.holds Tryd.pinned (.plain (OpenSpec.upto aggKnownSpec)) aggKnownUptoCard

/-- THE SECOND FORM's CARD OF 'warrenerlaw18.AggSays'. -/
def aggSaysUptoCard : Claim7 := { stood := { row := aggSaysUptoRow, standIns := [], harness := (true, "e5f2203e91049af9f248797a2881660b65d6ebb82fee37d1ff04c6d90323e182"), looks := false }, kinds := [], alts := [], laidByText := true, laidKinds := [.data, .data, .data], laidTests := true, laidLooks := .later }
def AggSaysUptoCardSaid : Prop := Claim7.holds Tryd.pinned (.plain (OpenSpec.upto aggSaysSpec)) aggSaysUptoCard

/-- THE SECOND FORM's CARD OF 'warrenerlaw18.AggJoins'. -/
def aggJoinsUptoCard : Claim7 := { stood := { row := aggJoinsUptoRow, standIns := [], harness := (true, "e5f2203e91049af9f248797a2881660b65d6ebb82fee37d1ff04c6d90323e182"), looks := false }, kinds := [], alts := [], laidByText := true, laidKinds := [.data, .data, .data], laidTests := true, laidLooks := .later }
def AggJoinsUptoCardSaid : Prop := Claim7.holds Tryd.pinned (.plain (OpenSpec.upto aggJoinsSpec)) aggJoinsUptoCard

/-- THE SECOND FORM's CARD OF 'warrenerlaw18.AggOrder'. -/
def aggOrderUptoCard : Claim7 := { stood := { row := aggOrderUptoRow, standIns := [], harness := (true, "e5f2203e91049af9f248797a2881660b65d6ebb82fee37d1ff04c6d90323e182"), looks := false }, kinds := [], alts := [], laidByText := true, laidKinds := [.data, .data, .data], laidTests := true, laidLooks := .later }
def AggOrderUptoCardSaid : Prop := Claim7.holds Tryd.pinned (.plain (OpenSpec.upto aggOrderSpec)) aggOrderUptoCard

/-- THE SECOND FORM's CARD OF 'warrenerlaw18.AggBounds'. -/
def aggBoundsUptoCard : Claim7 := { stood := { row := aggBoundsUptoRow, standIns := [], harness := (true, "e5f2203e91049af9f248797a2881660b65d6ebb82fee37d1ff04c6d90323e182"), looks := false }, kinds := [], alts := [], laidByText := true, laidKinds := [.data, .data, .data], laidTests := true, laidLooks := .later }
def AggBoundsUptoCardSaid : Prop := Claim7.holds Tryd.pinned (.plain (OpenSpec.upto aggBoundsSpec)) aggBoundsUptoCard

/-- THE SECOND FORM's CARD OF 'warrenerlaw18.AggWants'. -/
def aggWantsUptoCard : Claim7 := { stood := { row := aggWantsUptoRow, standIns := [], harness := (true, "e5f2203e91049af9f248797a2881660b65d6ebb82fee37d1ff04c6d90323e182"), looks := false }, kinds := [], alts := [], laidByText := true, laidKinds := [.data, .data, .data], laidTests := true, laidLooks := .later }
def AggWantsUptoCardSaid : Prop := Claim7.holds Tryd.pinned (.plain (OpenSpec.upto aggWantsSpec)) aggWantsUptoCard
end Rows
end Go.Proofs.YtbiokogihimboaaDoor
