/-
  No cell of these rows narrows 'for every input' (looked for: loops, veiled, ifaces, maps, wideKeys, modest, calm, conditions, laid).
  DERIVED. THE GIVEN ROWS OF THIS SEAT. 5 by the template 'for every input the law returns true; each argument reads behind the call as it read before'; 0 by the template 'total and deterministic' (their statements: YtagniipldmagdaaTotals.lean).
  GIVEN WITH THE SEED: the statements are not yours to turn. If you find one false, say at which input.
  Laid BY PROGRAM, IN A SANDBOX (cutbox-rows.mjs): the forced cells as the released guide's own fill.sh prints them over the translation 196d4a9d68827403… (all of the seat's roots in one cut). By AI agents, Wed Nov 11 2026. No macro, syntax, notation, axiom, sorry.
-/
import Derived.Test.YtagniipldmagdaaChecked
import GoSem.Claim
import GoSem.ClaimJoined
import GoSem.ClaimMapViews
import Derived.JoinedTies
import Derived.KernelRfl
namespace Go.Proofs.Ytagniipldmagdaa
/- THE CELL 'sum', in the pinned program and in every row, IS THE sha256 OF THE DUMP (.gsa) THAT YtagniipldmagdaaProg.lean LOADS. Nothing in Lean hashes anything: it is a label: what it is worth is what the hold of that sum in a sandbox is worth. -/
noncomputable def Try.pinned : Pinned := { name := "ytagniipldmagdaa", sum := "196d4a9d68827403a79e80fc189f43fb8e35982a8f51a09c7d5ca86f5a4dc8e8", checked := Try.checked }
namespace Rows
def none {H : Type} : Left H := { results := [], args := [] }

/-- 'warrenerlaw8.BlocksKnown': WHATEVER THE INPUT: true; the input reads as it did. -/
def blocksKnownSpec : ChangeSpec := { name := "blocksKnown", fn := fun _ => fun
  | [] => { results := [.lit (.bool true)], args := [] }
  | _ => none }
def blocksKnownRow : OpenClaim := { program := "ytagniipldmagdaa", sum := "196d4a9d68827403a79e80fc189f43fb8e35982a8f51a09c7d5ca86f5a4dc8e8", func := "warrener/warrenerlaw8.BlocksKnown", spec := "blocksKnown", apart := false }
def BlocksKnownSaid : Prop := blocksKnownRow.holds Try.pinned (OpenSpec.ofChange blocksKnownSpec)

/-- ITS FALSE NEIGHBOUR: 'it returns false'. Refute it at one input. -/
def blocksKnownWrong : ChangeSpec := { name := "blocksKnown", fn := fun _ => fun
  | [] => { results := [.lit (.bool false)], args := [] }
  | _ => none }
def BlocksKnownWrongFalsely : Prop := blocksKnownRow.holds Try.pinned (OpenSpec.ofChange blocksKnownWrong)

/-- 'warrenerlaw8.BlocksPlays': WHATEVER THE INPUT: true; the input reads as it did. -/
def blocksPlaysSpec : ChangeSpec := { name := "blocksPlays", fn := fun _ => fun
  | [d1, d2] => { results := [.lit (.bool true)], args := [d1, d2] }
  | _ => none }
def blocksPlaysRow : OpenClaim := { program := "ytagniipldmagdaa", sum := "196d4a9d68827403a79e80fc189f43fb8e35982a8f51a09c7d5ca86f5a4dc8e8", func := "warrener/warrenerlaw8.BlocksPlays", spec := "blocksPlays", apart := false }
def BlocksPlaysSaid : Prop := blocksPlaysRow.holds Try.pinned (OpenSpec.ofChange blocksPlaysSpec)

/-- ITS FALSE NEIGHBOUR: 'it returns false'. Refute it at one input. -/
def blocksPlaysWrong : ChangeSpec := { name := "blocksPlays", fn := fun _ => fun
  | [d1, d2] => { results := [.lit (.bool false)], args := [d1, d2] }
  | _ => none }
def BlocksPlaysWrongFalsely : Prop := blocksPlaysRow.holds Try.pinned (OpenSpec.ofChange blocksPlaysWrong)

/-- 'warrenerlaw8.BlocksCount': WHATEVER THE INPUT: true; the input reads as it did. -/
def blocksCountSpec : ChangeSpec := { name := "blocksCount", fn := fun _ => fun
  | [d1, d2] => { results := [.lit (.bool true)], args := [d1, d2] }
  | _ => none }
def blocksCountRow : OpenClaim := { program := "ytagniipldmagdaa", sum := "196d4a9d68827403a79e80fc189f43fb8e35982a8f51a09c7d5ca86f5a4dc8e8", func := "warrener/warrenerlaw8.BlocksCount", spec := "blocksCount", apart := false }
def BlocksCountSaid : Prop := blocksCountRow.holds Try.pinned (OpenSpec.ofChange blocksCountSpec)

/-- ITS FALSE NEIGHBOUR: 'it returns false'. Refute it at one input. -/
def blocksCountWrong : ChangeSpec := { name := "blocksCount", fn := fun _ => fun
  | [d1, d2] => { results := [.lit (.bool false)], args := [d1, d2] }
  | _ => none }
def BlocksCountWrongFalsely : Prop := blocksCountRow.holds Try.pinned (OpenSpec.ofChange blocksCountWrong)

/-- 'warrenerlaw8.BlocksLeast': WHATEVER THE INPUT: true; the input reads as it did. -/
def blocksLeastSpec : ChangeSpec := { name := "blocksLeast", fn := fun _ => fun
  | [d1, d2, d3] => { results := [.lit (.bool true)], args := [d1, d2, d3] }
  | _ => none }
def blocksLeastRow : OpenClaim := { program := "ytagniipldmagdaa", sum := "196d4a9d68827403a79e80fc189f43fb8e35982a8f51a09c7d5ca86f5a4dc8e8", func := "warrener/warrenerlaw8.BlocksLeast", spec := "blocksLeast", apart := false }
def BlocksLeastSaid : Prop := blocksLeastRow.holds Try.pinned (OpenSpec.ofChange blocksLeastSpec)

/-- ITS FALSE NEIGHBOUR: 'it returns false'. Refute it at one input. -/
def blocksLeastWrong : ChangeSpec := { name := "blocksLeast", fn := fun _ => fun
  | [d1, d2, d3] => { results := [.lit (.bool false)], args := [d1, d2, d3] }
  | _ => none }
def BlocksLeastWrongFalsely : Prop := blocksLeastRow.holds Try.pinned (OpenSpec.ofChange blocksLeastWrong)

/-- 'warrenerlaw8.BlocksNeed': WHATEVER THE INPUT: true; the input reads as it did. -/
def blocksNeedSpec : ChangeSpec := { name := "blocksNeed", fn := fun _ => fun
  | [d] => { results := [.lit (.bool true)], args := [d] }
  | _ => none }
def blocksNeedRow : OpenClaim := { program := "ytagniipldmagdaa", sum := "196d4a9d68827403a79e80fc189f43fb8e35982a8f51a09c7d5ca86f5a4dc8e8", func := "warrener/warrenerlaw8.BlocksNeed", spec := "blocksNeed", apart := false }
def BlocksNeedSaid : Prop := blocksNeedRow.holds Try.pinned (OpenSpec.ofChange blocksNeedSpec)

/-- ITS FALSE NEIGHBOUR: 'it returns false'. Refute it at one input. -/
def blocksNeedWrong : ChangeSpec := { name := "blocksNeed", fn := fun _ => fun
  | [d] => { results := [.lit (.bool false)], args := [d] }
  | _ => none }
def BlocksNeedWrongFalsely : Prop := blocksNeedRow.holds Try.pinned (OpenSpec.ofChange blocksNeedWrong)

/- THE SECOND FORM. 'bulk': how many values and letters a reading holds, each counted each time it is reached (what is shared counts as often as it is met; a slice's spare places count too). A statement '..UptoSaid' is the law's where the arguments, and the package variables that the reading takes, are together of bulk at most 1048576: NARROWER than '..Said'. Prove '..Said' where nothing that the law and all that it calls make is longer than what came in: it says more and counts as full. Else prove '..UptoSaid'. A law counts once. -/
mutual
def uptoBulk {H : Type} : DataW H → Nat
  | .lit (.string bytes) => bytes.length + 1
  | .lit _ => 1
  | .nil => 1
  | .ptr d => uptoBulk d + 1
  | .slice elems spare => uptoBulkAll elems + uptoBulkAll spare + 1
  | .agg parts => uptoBulkAll parts + 1
  | .iface _ d => uptoBulk d + 1
  | .map entries => uptoBulkEntries entries + 1
  | .held _ => 1
def uptoBulkAll {H : Type} : List (DataW H) → Nat
  | [] => 0
  | d :: r => uptoBulk d + uptoBulkAll r
def uptoBulkEntries {H : Type} : List (Lit × DataW H) → Nat
  | [] => 0
  | x :: r => uptoBulkEntry x + uptoBulkEntries r
def uptoBulkEntry {H : Type} : Lit × DataW H → Nat
  | (.string bytes, d) => bytes.length + uptoBulk d + 1
  | (_, d) => uptoBulk d + 1
 end
def uptoSmall : (H : Type) → List (DataW H) → Bool := fun _ ds => decide (uptoBulkAll ds ≤ 1048576)
def OpenSpec.upto (s : _root_.Go.ChangeSpec) : _root_.Go.OpenSpec := { _root_.Go.OpenSpec.ofChange s with cond := some uptoSmall }

/-- 'warrenerlaw8.BlocksKnown', WHERE WHAT IT READS IS OF BULK AT MOST 1048576: true; the input reads as it did. -/
def blocksKnownUptoRow : OpenClaim := { program := "ytagniipldmagdaa", sum := "196d4a9d68827403a79e80fc189f43fb8e35982a8f51a09c7d5ca86f5a4dc8e8", func := "warrener/warrenerlaw8.BlocksKnown", spec := "blocksKnown", apart := false, narrowed := true }
def BlocksKnownUptoSaid : Prop := blocksKnownUptoRow.holds Try.pinned (OpenSpec.upto blocksKnownSpec)

/-- 'warrenerlaw8.BlocksPlays', WHERE WHAT IT READS IS OF BULK AT MOST 1048576: true; the input reads as it did. -/
def blocksPlaysUptoRow : OpenClaim := { program := "ytagniipldmagdaa", sum := "196d4a9d68827403a79e80fc189f43fb8e35982a8f51a09c7d5ca86f5a4dc8e8", func := "warrener/warrenerlaw8.BlocksPlays", spec := "blocksPlays", apart := false, narrowed := true }
def BlocksPlaysUptoSaid : Prop := blocksPlaysUptoRow.holds Try.pinned (OpenSpec.upto blocksPlaysSpec)

/-- 'warrenerlaw8.BlocksCount', WHERE WHAT IT READS IS OF BULK AT MOST 1048576: true; the input reads as it did. -/
def blocksCountUptoRow : OpenClaim := { program := "ytagniipldmagdaa", sum := "196d4a9d68827403a79e80fc189f43fb8e35982a8f51a09c7d5ca86f5a4dc8e8", func := "warrener/warrenerlaw8.BlocksCount", spec := "blocksCount", apart := false, narrowed := true }
def BlocksCountUptoSaid : Prop := blocksCountUptoRow.holds Try.pinned (OpenSpec.upto blocksCountSpec)

/-- 'warrenerlaw8.BlocksLeast', WHERE WHAT IT READS IS OF BULK AT MOST 1048576: true; the input reads as it did. -/
def blocksLeastUptoRow : OpenClaim := { program := "ytagniipldmagdaa", sum := "196d4a9d68827403a79e80fc189f43fb8e35982a8f51a09c7d5ca86f5a4dc8e8", func := "warrener/warrenerlaw8.BlocksLeast", spec := "blocksLeast", apart := false, narrowed := true }
def BlocksLeastUptoSaid : Prop := blocksLeastUptoRow.holds Try.pinned (OpenSpec.upto blocksLeastSpec)

/-- 'warrenerlaw8.BlocksNeed', WHERE WHAT IT READS IS OF BULK AT MOST 1048576: true; the input reads as it did. -/
def blocksNeedUptoRow : OpenClaim := { program := "ytagniipldmagdaa", sum := "196d4a9d68827403a79e80fc189f43fb8e35982a8f51a09c7d5ca86f5a4dc8e8", func := "warrener/warrenerlaw8.BlocksNeed", spec := "blocksNeed", apart := false, narrowed := true }
def BlocksNeedUptoSaid : Prop := blocksNeedUptoRow.holds Try.pinned (OpenSpec.upto blocksNeedSpec)

end Rows
end Go.Proofs.Ytagniipldmagdaa
