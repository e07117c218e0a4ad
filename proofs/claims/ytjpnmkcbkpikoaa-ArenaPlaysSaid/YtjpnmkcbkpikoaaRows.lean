/-
  No cell of these rows narrows 'for every input' (looked for: loops, veiled, ifaces, maps, wideKeys, modest, calm, conditions, laid).
  DERIVED. THE GIVEN ROWS OF THIS SEAT. 5 by the template 'for every input the law returns true; each argument reads behind the call as it read before'; 0 by the template 'total and deterministic' (their statements: YtjpnmkcbkpikoaaTotals.lean).
  GIVEN WITH THE SEED: the statements are not yours to turn. If you find one false, say at which input.
  Laid BY PROGRAM, IN A SANDBOX (cutbox-rows.mjs): the forced cells as the released guide's own fill.sh prints them over the translation 3f32638da1ff3df3… (all of the seat's roots in one cut). By AI agents, Wed Nov 11 2026. No macro, syntax, notation, axiom, sorry.
-/
import Derived.Test.YtjpnmkcbkpikoaaChecked
import GoSem.Claim
import GoSem.ClaimJoined
import GoSem.ClaimMapViews
import Derived.JoinedTies
import Derived.KernelRfl
namespace Go.Proofs.Ytjpnmkcbkpikoaa
/- THE CELL 'sum', in the pinned program and in every row, IS THE sha256 OF THE DUMP (.gsa) THAT YtjpnmkcbkpikoaaProg.lean LOADS. Nothing in Lean hashes anything: it is a label: what it is worth is what the hold of that sum in a sandbox is worth. -/
noncomputable def Try.pinned : Pinned := { name := "ytjpnmkcbkpikoaa", sum := "3f32638da1ff3df312eb1c48c8b8d7a3480df36df384ea7e81061483969f3d61", checked := Try.checked }
namespace Rows
def none {H : Type} : Left H := { results := [], args := [] }

/-- 'warrenerlaw7.ArenaKnown': WHATEVER THE INPUT: true; the input reads as it did. -/
def arenaKnownSpec : ChangeSpec := { name := "arenaKnown", fn := fun _ => fun
  | [] => { results := [.lit (.bool true)], args := [] }
  | _ => none }
def arenaKnownRow : OpenClaim := { program := "ytjpnmkcbkpikoaa", sum := "3f32638da1ff3df312eb1c48c8b8d7a3480df36df384ea7e81061483969f3d61", func := "warrener/warrenerlaw7.ArenaKnown", spec := "arenaKnown", apart := false }
def ArenaKnownSaid : Prop := arenaKnownRow.holds Try.pinned (OpenSpec.ofChange arenaKnownSpec)

/-- ITS FALSE NEIGHBOUR: 'it returns false'. Refute it at one input. -/
def arenaKnownWrong : ChangeSpec := { name := "arenaKnown", fn := fun _ => fun
  | [] => { results := [.lit (.bool false)], args := [] }
  | _ => none }
def ArenaKnownWrongFalsely : Prop := arenaKnownRow.holds Try.pinned (OpenSpec.ofChange arenaKnownWrong)

/-- 'warrenerlaw7.ArenaPlays': WHATEVER THE INPUT: true; the input reads as it did. -/
def arenaPlaysSpec : ChangeSpec := { name := "arenaPlays", fn := fun _ => fun
  | [d1, d2, d3] => { results := [.lit (.bool true)], args := [d1, d2, d3] }
  | _ => none }
def arenaPlaysRow : OpenClaim := { program := "ytjpnmkcbkpikoaa", sum := "3f32638da1ff3df312eb1c48c8b8d7a3480df36df384ea7e81061483969f3d61", func := "warrener/warrenerlaw7.ArenaPlays", spec := "arenaPlays", apart := false }
def ArenaPlaysSaid : Prop := arenaPlaysRow.holds Try.pinned (OpenSpec.ofChange arenaPlaysSpec)

/-- ITS FALSE NEIGHBOUR: 'it returns false'. Refute it at one input. -/
def arenaPlaysWrong : ChangeSpec := { name := "arenaPlays", fn := fun _ => fun
  | [d1, d2, d3] => { results := [.lit (.bool false)], args := [d1, d2, d3] }
  | _ => none }
def ArenaPlaysWrongFalsely : Prop := arenaPlaysRow.holds Try.pinned (OpenSpec.ofChange arenaPlaysWrong)

/-- 'warrenerlaw7.ArenaApart': WHATEVER THE INPUT: true; the input reads as it did. -/
def arenaApartSpec : ChangeSpec := { name := "arenaApart", fn := fun _ => fun
  | [d1, d2, d3, d4] => { results := [.lit (.bool true)], args := [d1, d2, d3, d4] }
  | _ => none }
def arenaApartRow : OpenClaim := { program := "ytjpnmkcbkpikoaa", sum := "3f32638da1ff3df312eb1c48c8b8d7a3480df36df384ea7e81061483969f3d61", func := "warrener/warrenerlaw7.ArenaApart", spec := "arenaApart", apart := false }
def ArenaApartSaid : Prop := arenaApartRow.holds Try.pinned (OpenSpec.ofChange arenaApartSpec)

/-- ITS FALSE NEIGHBOUR: 'it returns false'. Refute it at one input. -/
def arenaApartWrong : ChangeSpec := { name := "arenaApart", fn := fun _ => fun
  | [d1, d2, d3, d4] => { results := [.lit (.bool false)], args := [d1, d2, d3, d4] }
  | _ => none }
def ArenaApartWrongFalsely : Prop := arenaApartRow.holds Try.pinned (OpenSpec.ofChange arenaApartWrong)

/-- 'warrenerlaw7.ArenaReads': WHATEVER THE INPUT: true; the input reads as it did. -/
def arenaReadsSpec : ChangeSpec := { name := "arenaReads", fn := fun _ => fun
  | [d1, d2, d3, d4, d5, d6] => { results := [.lit (.bool true)], args := [d1, d2, d3, d4, d5, d6] }
  | _ => none }
def arenaReadsRow : OpenClaim := { program := "ytjpnmkcbkpikoaa", sum := "3f32638da1ff3df312eb1c48c8b8d7a3480df36df384ea7e81061483969f3d61", func := "warrener/warrenerlaw7.ArenaReads", spec := "arenaReads", apart := false }
def ArenaReadsSaid : Prop := arenaReadsRow.holds Try.pinned (OpenSpec.ofChange arenaReadsSpec)

/-- ITS FALSE NEIGHBOUR: 'it returns false'. Refute it at one input. -/
def arenaReadsWrong : ChangeSpec := { name := "arenaReads", fn := fun _ => fun
  | [d1, d2, d3, d4, d5, d6] => { results := [.lit (.bool false)], args := [d1, d2, d3, d4, d5, d6] }
  | _ => none }
def ArenaReadsWrongFalsely : Prop := arenaReadsRow.holds Try.pinned (OpenSpec.ofChange arenaReadsWrong)

/-- 'warrenerlaw7.ArenaRegions': WHATEVER THE INPUT: true; the input reads as it did. -/
def arenaRegionsSpec : ChangeSpec := { name := "arenaRegions", fn := fun _ => fun
  | [d1, d2] => { results := [.lit (.bool true)], args := [d1, d2] }
  | _ => none }
def arenaRegionsRow : OpenClaim := { program := "ytjpnmkcbkpikoaa", sum := "3f32638da1ff3df312eb1c48c8b8d7a3480df36df384ea7e81061483969f3d61", func := "warrener/warrenerlaw7.ArenaRegions", spec := "arenaRegions", apart := false }
def ArenaRegionsSaid : Prop := arenaRegionsRow.holds Try.pinned (OpenSpec.ofChange arenaRegionsSpec)

/-- ITS FALSE NEIGHBOUR: 'it returns false'. Refute it at one input. -/
def arenaRegionsWrong : ChangeSpec := { name := "arenaRegions", fn := fun _ => fun
  | [d1, d2] => { results := [.lit (.bool false)], args := [d1, d2] }
  | _ => none }
def ArenaRegionsWrongFalsely : Prop := arenaRegionsRow.holds Try.pinned (OpenSpec.ofChange arenaRegionsWrong)

/- THE SECOND FORM. 'bulk': how many values and letters a reading holds, each counted each time it is reached (what is shared counts as often as it is met; a slice's spare places count too). A statement '..UptoSaid' is the law's where the arguments, and the package variables that the reading takes, are together of bulk at most 1048576: NARROWER than '..Said'. Prove '..Said' where nothing that the law and all that it calls make is longer than what came in: it says more and counts as full. Else prove '..UptoSaid'. A law counts once. -/
mutual
def uptoBulk {H : Type} : DataW H → Nat
  | .lit (.string bytes) => bytes.length + 1
  | .lit _ => 1
  | .nil => 1
  | .ptr d => uptoBulk d + 1
  | .slice elems spare => uptoBulkAll elems + uptoBulkAll spare + 1
  | .agg parts => uptoBulkAll parts + 1
  | .iface _ d => uptoBulk d + 1
  | .map entries => uptoBulkEntries entries + 1
  | .held _ => 1
def uptoBulkAll {H : Type} : List (DataW H) → Nat
  | [] => 0
  | d :: r => uptoBulk d + uptoBulkAll r
def uptoBulkEntries {H : Type} : List (Lit × DataW H) → Nat
  | [] => 0
  | x :: r => uptoBulkEntry x + uptoBulkEntries r
def uptoBulkEntry {H : Type} : Lit × DataW H → Nat
  | (.string bytes, d) => bytes.length + uptoBulk d + 1
  | (_, d) => uptoBulk d + 1
 end
def uptoSmall : (H : Type) → List (DataW H) → Bool := fun _ ds => decide (uptoBulkAll ds ≤ 1048576)
def OpenSpec.upto (s : _root_.Go.ChangeSpec) : _root_.Go.OpenSpec := { _root_.Go.OpenSpec.ofChange s with cond := some uptoSmall }

/-- 'warrenerlaw7.ArenaKnown', WHERE WHAT IT READS IS OF BULK AT MOST 1048576: true; the input reads as it did. -/
def arenaKnownUptoRow : OpenClaim := { program := "ytjpnmkcbkpikoaa", sum := "3f32638da1ff3df312eb1c48c8b8d7a3480df36df384ea7e81061483969f3d61", func := "warrener/warrenerlaw7.ArenaKnown", spec := "arenaKnown", apart := false, narrowed := true }
def ArenaKnownUptoSaid : Prop := arenaKnownUptoRow.holds Try.pinned (OpenSpec.upto arenaKnownSpec)

/-- 'warrenerlaw7.ArenaPlays', WHERE WHAT IT READS IS OF BULK AT MOST 1048576: true; the input reads as it did. -/
def arenaPlaysUptoRow : OpenClaim := { program := "ytjpnmkcbkpikoaa", sum := "3f32638da1ff3df312eb1c48c8b8d7a3480df36df384ea7e81061483969f3d61", func := "warrener/warrenerlaw7.ArenaPlays", spec := "arenaPlays", apart := false, narrowed := true }
def ArenaPlaysUptoSaid : Prop := arenaPlaysUptoRow.holds Try.pinned (OpenSpec.upto arenaPlaysSpec)

/-- 'warrenerlaw7.ArenaApart', WHERE WHAT IT READS IS OF BULK AT MOST 1048576: true; the input reads as it did. -/
def arenaApartUptoRow : OpenClaim := { program := "ytjpnmkcbkpikoaa", sum := "3f32638da1ff3df312eb1c48c8b8d7a3480df36df384ea7e81061483969f3d61", func := "warrener/warrenerlaw7.ArenaApart", spec := "arenaApart", apart := false, narrowed := true }
def ArenaApartUptoSaid : Prop := arenaApartUptoRow.holds Try.pinned (OpenSpec.upto arenaApartSpec)

/-- 'warrenerlaw7.ArenaReads', WHERE WHAT IT READS IS OF BULK AT MOST 1048576: true; the input reads as it did. -/
def arenaReadsUptoRow : OpenClaim := { program := "ytjpnmkcbkpikoaa", sum := "3f32638da1ff3df312eb1c48c8b8d7a3480df36df384ea7e81061483969f3d61", func := "warrener/warrenerlaw7.ArenaReads", spec := "arenaReads", apart := false, narrowed := true }
def ArenaReadsUptoSaid : Prop := arenaReadsUptoRow.holds Try.pinned (OpenSpec.upto arenaReadsSpec)

/-- 'warrenerlaw7.ArenaRegions', WHERE WHAT IT READS IS OF BULK AT MOST 1048576: true; the input reads as it did. -/
def arenaRegionsUptoRow : OpenClaim := { program := "ytjpnmkcbkpikoaa", sum := "3f32638da1ff3df312eb1c48c8b8d7a3480df36df384ea7e81061483969f3d61", func := "warrener/warrenerlaw7.ArenaRegions", spec := "arenaRegions", apart := false, narrowed := true }
def ArenaRegionsUptoSaid : Prop := arenaRegionsUptoRow.holds Try.pinned (OpenSpec.upto arenaRegionsSpec)

end Rows
end Go.Proofs.Ytjpnmkcbkpikoaa
