/-
  No cell of these rows narrows 'for every input' (looked for: loops, veiled, ifaces, maps, wideKeys, modest, calm, conditions, laid).
  DERIVED. THE GIVEN ROWS OF THIS SEAT. 5 by the template 'for every input the law returns true; each argument reads behind the call as it read before'; 0 by the template 'total and deterministic' (their statements: YtemfohccnpopfaaTotals.lean).
  GIVEN WITH THE SEED: the statements are not yours to turn. If you find one false, say at which input.
  Laid BY PROGRAM, IN A SANDBOX (cutbox-rows.mjs): the forced cells as the released guide's own fill.sh prints them over the translation 03f25da898e31818… (all of the seat's roots in one cut). By AI agents, Wed Nov 11 2026. No macro, syntax, notation, axiom, sorry.
-/
import Derived.Test.YtemfohccnpopfaaChecked
import GoSem.Claim
import GoSem.ClaimJoined
import GoSem.ClaimMapViews
import Derived.JoinedTies
import Derived.KernelRfl
namespace Go.Proofs.Ytemfohccnpopfaa
/- THE CELL 'sum', in the pinned program and in every row, IS THE sha256 OF THE DUMP (.gsa) THAT YtemfohccnpopfaaProg.lean LOADS. Nothing in Lean hashes anything: it is a label: what it is worth is what the hold of that sum in a sandbox is worth. -/
noncomputable def Try.pinned : Pinned := { name := "ytemfohccnpopfaa", sum := "03f25da898e318189850c7033b2e1b85c92b4e6c98b9f26fefe0cc9414d848d1", checked := Try.checked }
namespace Rows
def none {H : Type} : Left H := { results := [], args := [] }

/-- 'warrenerlaw11.AskKnown': WHATEVER THE INPUT: true; the input reads as it did. -/
def askKnownSpec : ChangeSpec := { name := "askKnown", fn := fun _ => fun
  | [] => { results := [.lit (.bool true)], args := [] }
  | _ => none }
def askKnownRow : OpenClaim := { program := "ytemfohccnpopfaa", sum := "03f25da898e318189850c7033b2e1b85c92b4e6c98b9f26fefe0cc9414d848d1", func := "warrener/warrenerlaw11.AskKnown", spec := "askKnown", apart := false }
def AskKnownSaid : Prop := askKnownRow.holds Try.pinned (OpenSpec.ofChange askKnownSpec)

/-- ITS FALSE NEIGHBOUR: 'it returns false'. Refute it at one input. -/
def askKnownWrong : ChangeSpec := { name := "askKnown", fn := fun _ => fun
  | [] => { results := [.lit (.bool false)], args := [] }
  | _ => none }
def AskKnownWrongFalsely : Prop := askKnownRow.holds Try.pinned (OpenSpec.ofChange askKnownWrong)

/-- 'warrenerlaw11.AskSays': WHATEVER THE INPUT: true; the input reads as it did. -/
def askSaysSpec : ChangeSpec := { name := "askSays", fn := fun _ => fun
  | [d1, d2, d3] => { results := [.lit (.bool true)], args := [d1, d2, d3] }
  | _ => none }
def askSaysRow : OpenClaim := { program := "ytemfohccnpopfaa", sum := "03f25da898e318189850c7033b2e1b85c92b4e6c98b9f26fefe0cc9414d848d1", func := "warrener/warrenerlaw11.AskSays", spec := "askSays", apart := false }
def AskSaysSaid : Prop := askSaysRow.holds Try.pinned (OpenSpec.ofChange askSaysSpec)

/-- ITS FALSE NEIGHBOUR: 'it returns false'. Refute it at one input. -/
def askSaysWrong : ChangeSpec := { name := "askSays", fn := fun _ => fun
  | [d1, d2, d3] => { results := [.lit (.bool false)], args := [d1, d2, d3] }
  | _ => none }
def AskSaysWrongFalsely : Prop := askSaysRow.holds Try.pinned (OpenSpec.ofChange askSaysWrong)

/-- 'warrenerlaw11.AskBack': WHATEVER THE INPUT: true; the input reads as it did. -/
def askBackSpec : ChangeSpec := { name := "askBack", fn := fun _ => fun
  | [d1, d2] => { results := [.lit (.bool true)], args := [d1, d2] }
  | _ => none }
def askBackRow : OpenClaim := { program := "ytemfohccnpopfaa", sum := "03f25da898e318189850c7033b2e1b85c92b4e6c98b9f26fefe0cc9414d848d1", func := "warrener/warrenerlaw11.AskBack", spec := "askBack", apart := false }
def AskBackSaid : Prop := askBackRow.holds Try.pinned (OpenSpec.ofChange askBackSpec)

/-- ITS FALSE NEIGHBOUR: 'it returns false'. Refute it at one input. -/
def askBackWrong : ChangeSpec := { name := "askBack", fn := fun _ => fun
  | [d1, d2] => { results := [.lit (.bool false)], args := [d1, d2] }
  | _ => none }
def AskBackWrongFalsely : Prop := askBackRow.holds Try.pinned (OpenSpec.ofChange askBackWrong)

/-- 'warrenerlaw11.AskApart': WHATEVER THE INPUT: true; the input reads as it did. -/
def askApartSpec : ChangeSpec := { name := "askApart", fn := fun _ => fun
  | [d1, d2] => { results := [.lit (.bool true)], args := [d1, d2] }
  | _ => none }
def askApartRow : OpenClaim := { program := "ytemfohccnpopfaa", sum := "03f25da898e318189850c7033b2e1b85c92b4e6c98b9f26fefe0cc9414d848d1", func := "warrener/warrenerlaw11.AskApart", spec := "askApart", apart := false }
def AskApartSaid : Prop := askApartRow.holds Try.pinned (OpenSpec.ofChange askApartSpec)

/-- ITS FALSE NEIGHBOUR: 'it returns false'. Refute it at one input. -/
def askApartWrong : ChangeSpec := { name := "askApart", fn := fun _ => fun
  | [d1, d2] => { results := [.lit (.bool false)], args := [d1, d2] }
  | _ => none }
def AskApartWrongFalsely : Prop := askApartRow.holds Try.pinned (OpenSpec.ofChange askApartWrong)

/-- 'warrenerlaw11.AskSizes': WHATEVER THE INPUT: true; the input reads as it did. -/
def askSizesSpec : ChangeSpec := { name := "askSizes", fn := fun _ => fun
  | [d] => { results := [.lit (.bool true)], args := [d] }
  | _ => none }
def askSizesRow : OpenClaim := { program := "ytemfohccnpopfaa", sum := "03f25da898e318189850c7033b2e1b85c92b4e6c98b9f26fefe0cc9414d848d1", func := "warrener/warrenerlaw11.AskSizes", spec := "askSizes", apart := false }
def AskSizesSaid : Prop := askSizesRow.holds Try.pinned (OpenSpec.ofChange askSizesSpec)

/-- ITS FALSE NEIGHBOUR: 'it returns false'. Refute it at one input. -/
def askSizesWrong : ChangeSpec := { name := "askSizes", fn := fun _ => fun
  | [d] => { results := [.lit (.bool false)], args := [d] }
  | _ => none }
def AskSizesWrongFalsely : Prop := askSizesRow.holds Try.pinned (OpenSpec.ofChange askSizesWrong)

/- THE SECOND FORM. 'bulk': how many values and letters a reading holds, each counted each time it is reached (what is shared counts as often as it is met; a slice's spare places count too). A statement '..UptoSaid' is the law's where the arguments, and the package variables that the reading takes, are together of bulk at most 1048576: NARROWER than '..Said'. Prove '..Said' where nothing that the law and all that it calls make is longer than what came in: it says more and counts as full. Else prove '..UptoSaid'. A law counts once. -/
mutual
def uptoBulk {H : Type} : DataW H → Nat
  | .lit (.string bytes) => bytes.length + 1
  | .lit _ => 1
  | .nil => 1
  | .ptr d => uptoBulk d + 1
  | .slice elems spare => uptoBulkAll elems + uptoBulkAll spare + 1
  | .agg parts => uptoBulkAll parts + 1
  | .iface _ d => uptoBulk d + 1
  | .map entries => uptoBulkEntries entries + 1
  | .held _ => 1
def uptoBulkAll {H : Type} : List (DataW H) → Nat
  | [] => 0
  | d :: r => uptoBulk d + uptoBulkAll r
def uptoBulkEntries {H : Type} : List (Lit × DataW H) → Nat
  | [] => 0
  | x :: r => uptoBulkEntry x + uptoBulkEntries r
def uptoBulkEntry {H : Type} : Lit × DataW H → Nat
  | (.string bytes, d) => bytes.length + uptoBulk d + 1
  | (_, d) => uptoBulk d + 1
 end
def uptoSmall : (H : Type) → List (DataW H) → Bool := fun _ ds => decide (uptoBulkAll ds ≤ 1048576)
def OpenSpec.upto (s : _root_.Go.ChangeSpec) : _root_.Go.OpenSpec := { _root_.Go.OpenSpec.ofChange s with cond := some uptoSmall }

/-- 'warrenerlaw11.AskKnown', WHERE WHAT IT READS IS OF BULK AT MOST 1048576: true; the input reads as it did. -/
def askKnownUptoRow : OpenClaim := { program := "ytemfohccnpopfaa", sum := "03f25da898e318189850c7033b2e1b85c92b4e6c98b9f26fefe0cc9414d848d1", func := "warrener/warrenerlaw11.AskKnown", spec := "askKnown", apart := false, narrowed := true }
def AskKnownUptoSaid : Prop := askKnownUptoRow.holds Try.pinned (OpenSpec.upto askKnownSpec)

/-- 'warrenerlaw11.AskSays', WHERE WHAT IT READS IS OF BULK AT MOST 1048576: true; the input reads as it did. -/
def askSaysUptoRow : OpenClaim := { program := "ytemfohccnpopfaa", sum := "03f25da898e318189850c7033b2e1b85c92b4e6c98b9f26fefe0cc9414d848d1", func := "warrener/warrenerlaw11.AskSays", spec := "askSays", apart := false, narrowed := true }
def AskSaysUptoSaid : Prop := askSaysUptoRow.holds Try.pinned (OpenSpec.upto askSaysSpec)

/-- 'warrenerlaw11.AskBack', WHERE WHAT IT READS IS OF BULK AT MOST 1048576: true; the input reads as it did. -/
def askBackUptoRow : OpenClaim := { program := "ytemfohccnpopfaa", sum := "03f25da898e318189850c7033b2e1b85c92b4e6c98b9f26fefe0cc9414d848d1", func := "warrener/warrenerlaw11.AskBack", spec := "askBack", apart := false, narrowed := true }
def AskBackUptoSaid : Prop := askBackUptoRow.holds Try.pinned (OpenSpec.upto askBackSpec)

/-- 'warrenerlaw11.AskApart', WHERE WHAT IT READS IS OF BULK AT MOST 1048576: true; the input reads as it did. -/
def askApartUptoRow : OpenClaim := { program := "ytemfohccnpopfaa", sum := "03f25da898e318189850c7033b2e1b85c92b4e6c98b9f26fefe0cc9414d848d1", func := "warrener/warrenerlaw11.AskApart", spec := "askApart", apart := false, narrowed := true }
def AskApartUptoSaid : Prop := askApartUptoRow.holds Try.pinned (OpenSpec.upto askApartSpec)

/-- 'warrenerlaw11.AskSizes', WHERE WHAT IT READS IS OF BULK AT MOST 1048576: true; the input reads as it did. -/
def askSizesUptoRow : OpenClaim := { program := "ytemfohccnpopfaa", sum := "03f25da898e318189850c7033b2e1b85c92b4e6c98b9f26fefe0cc9414d848d1", func := "warrener/warrenerlaw11.AskSizes", spec := "askSizes", apart := false, narrowed := true }
def AskSizesUptoSaid : Prop := askSizesUptoRow.holds Try.pinned (OpenSpec.upto askSizesSpec)

end Rows
end Go.Proofs.Ytemfohccnpopfaa
