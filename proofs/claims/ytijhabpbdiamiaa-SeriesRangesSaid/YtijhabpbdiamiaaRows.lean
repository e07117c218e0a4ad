/-
  No cell of these rows narrows 'for every input' (looked for: loops, veiled, ifaces, maps, wideKeys, modest, calm, conditions, laid).
  DERIVED. THE GIVEN ROWS OF THIS SEAT. 5 by the template 'for every input the law returns true; each argument reads behind the call as it read before'; 0 by the template 'total and deterministic' (their statements: YtijhabpbdiamiaaTotals.lean).
  GIVEN WITH THE SEED: the statements are not yours to turn. If you find one false, say at which input.
  Laid BY PROGRAM, IN A SANDBOX (cutbox-rows.mjs): the forced cells as the released guide's own fill.sh prints them over the translation 2aaca9096df38eb6… (all of the seat's roots in one cut). By AI agents, Wed Nov 11 2026. No macro, syntax, notation, axiom, sorry.
-/
import Derived.Test.YtijhabpbdiamiaaChecked
import GoSem.Claim
import GoSem.ClaimJoined
import GoSem.ClaimMapViews
import Derived.JoinedTies
import Derived.KernelRfl
namespace Go.Proofs.Ytijhabpbdiamiaa
/- THE CELL 'sum', in the pinned program and in every row, IS THE sha256 OF THE DUMP (.gsa) THAT YtijhabpbdiamiaaProg.lean LOADS. Nothing in Lean hashes anything: it is a label: what it is worth is what the hold of that sum in a sandbox is worth. -/
noncomputable def Try.pinned : Pinned := { name := "ytijhabpbdiamiaa", sum := "2aaca9096df38eb6eb1a1b53e99de1dce77eda1a4cb68bc9dcbf24ca5929e7bc", checked := Try.checked }
namespace Rows
def none {H : Type} : Left H := { results := [], args := [] }

/-- 'warrenerlaw17.SeriesKnown': WHATEVER THE INPUT: true; the input reads as it did. -/
def seriesKnownSpec : ChangeSpec := { name := "seriesKnown", fn := fun _ => fun
  | [] => { results := [.lit (.bool true)], args := [] }
  | _ => none }
def seriesKnownRow : OpenClaim := { program := "ytijhabpbdiamiaa", sum := "2aaca9096df38eb6eb1a1b53e99de1dce77eda1a4cb68bc9dcbf24ca5929e7bc", func := "warrener/warrenerlaw17.SeriesKnown", spec := "seriesKnown", apart := false }
def SeriesKnownSaid : Prop := seriesKnownRow.holds Try.pinned (OpenSpec.ofChange seriesKnownSpec)

/-- ITS FALSE NEIGHBOUR: 'it returns false'. Refute it at one input. -/
def seriesKnownWrong : ChangeSpec := { name := "seriesKnown", fn := fun _ => fun
  | [] => { results := [.lit (.bool false)], args := [] }
  | _ => none }
def SeriesKnownWrongFalsely : Prop := seriesKnownRow.holds Try.pinned (OpenSpec.ofChange seriesKnownWrong)

/-- 'warrenerlaw17.SeriesSays': WHATEVER THE INPUT: true; the input reads as it did. -/
def seriesSaysSpec : ChangeSpec := { name := "seriesSays", fn := fun _ => fun
  | [d1, d2, d3, d4, d5] => { results := [.lit (.bool true)], args := [d1, d2, d3, d4, d5] }
  | _ => none }
def seriesSaysRow : OpenClaim := { program := "ytijhabpbdiamiaa", sum := "2aaca9096df38eb6eb1a1b53e99de1dce77eda1a4cb68bc9dcbf24ca5929e7bc", func := "warrener/warrenerlaw17.SeriesSays", spec := "seriesSays", apart := false }
def SeriesSaysSaid : Prop := seriesSaysRow.holds Try.pinned (OpenSpec.ofChange seriesSaysSpec)

/-- ITS FALSE NEIGHBOUR: 'it returns false'. Refute it at one input. -/
def seriesSaysWrong : ChangeSpec := { name := "seriesSays", fn := fun _ => fun
  | [d1, d2, d3, d4, d5] => { results := [.lit (.bool false)], args := [d1, d2, d3, d4, d5] }
  | _ => none }
def SeriesSaysWrongFalsely : Prop := seriesSaysRow.holds Try.pinned (OpenSpec.ofChange seriesSaysWrong)

/-- 'warrenerlaw17.SeriesTwice': WHATEVER THE INPUT: true; the input reads as it did. -/
def seriesTwiceSpec : ChangeSpec := { name := "seriesTwice", fn := fun _ => fun
  | [d1, d2, d3, d4] => { results := [.lit (.bool true)], args := [d1, d2, d3, d4] }
  | _ => none }
def seriesTwiceRow : OpenClaim := { program := "ytijhabpbdiamiaa", sum := "2aaca9096df38eb6eb1a1b53e99de1dce77eda1a4cb68bc9dcbf24ca5929e7bc", func := "warrener/warrenerlaw17.SeriesTwice", spec := "seriesTwice", apart := false }
def SeriesTwiceSaid : Prop := seriesTwiceRow.holds Try.pinned (OpenSpec.ofChange seriesTwiceSpec)

/-- ITS FALSE NEIGHBOUR: 'it returns false'. Refute it at one input. -/
def seriesTwiceWrong : ChangeSpec := { name := "seriesTwice", fn := fun _ => fun
  | [d1, d2, d3, d4] => { results := [.lit (.bool false)], args := [d1, d2, d3, d4] }
  | _ => none }
def SeriesTwiceWrongFalsely : Prop := seriesTwiceRow.holds Try.pinned (OpenSpec.ofChange seriesTwiceWrong)

/-- 'warrenerlaw17.SeriesKeeps': WHATEVER THE INPUT: true; the input reads as it did. -/
def seriesKeepsSpec : ChangeSpec := { name := "seriesKeeps", fn := fun _ => fun
  | [d1, d2] => { results := [.lit (.bool true)], args := [d1, d2] }
  | _ => none }
def seriesKeepsRow : OpenClaim := { program := "ytijhabpbdiamiaa", sum := "2aaca9096df38eb6eb1a1b53e99de1dce77eda1a4cb68bc9dcbf24ca5929e7bc", func := "warrener/warrenerlaw17.SeriesKeeps", spec := "seriesKeeps", apart := false }
def SeriesKeepsSaid : Prop := seriesKeepsRow.holds Try.pinned (OpenSpec.ofChange seriesKeepsSpec)

/-- ITS FALSE NEIGHBOUR: 'it returns false'. Refute it at one input. -/
def seriesKeepsWrong : ChangeSpec := { name := "seriesKeeps", fn := fun _ => fun
  | [d1, d2] => { results := [.lit (.bool false)], args := [d1, d2] }
  | _ => none }
def SeriesKeepsWrongFalsely : Prop := seriesKeepsRow.holds Try.pinned (OpenSpec.ofChange seriesKeepsWrong)

/-- 'warrenerlaw17.SeriesRanges': WHATEVER THE INPUT: true; the input reads as it did. -/
def seriesRangesSpec : ChangeSpec := { name := "seriesRanges", fn := fun _ => fun
  | [d1, d2, d3, d4] => { results := [.lit (.bool true)], args := [d1, d2, d3, d4] }
  | _ => none }
def seriesRangesRow : OpenClaim := { program := "ytijhabpbdiamiaa", sum := "2aaca9096df38eb6eb1a1b53e99de1dce77eda1a4cb68bc9dcbf24ca5929e7bc", func := "warrener/warrenerlaw17.SeriesRanges", spec := "seriesRanges", apart := false }
def SeriesRangesSaid : Prop := seriesRangesRow.holds Try.pinned (OpenSpec.ofChange seriesRangesSpec)

/-- ITS FALSE NEIGHBOUR: 'it returns false'. Refute it at one input. -/
def seriesRangesWrong : ChangeSpec := { name := "seriesRanges", fn := fun _ => fun
  | [d1, d2, d3, d4] => { results := [.lit (.bool false)], args := [d1, d2, d3, d4] }
  | _ => none }
def SeriesRangesWrongFalsely : Prop := seriesRangesRow.holds Try.pinned (OpenSpec.ofChange seriesRangesWrong)

/- THE SECOND FORM. 'bulk': how many values and letters a reading holds, each counted each time it is reached (what is shared counts as often as it is met; a slice's spare places count too). A statement '..UptoSaid' is the law's where the arguments, and the package variables that the reading takes, are together of bulk at most 1048576: NARROWER than '..Said'. Prove '..Said' where nothing that the law and all that it calls make is longer than what came in: it says more and counts as full. Else prove '..UptoSaid'. A law counts once. -/
mutual
def uptoBulk {H : Type} : DataW H → Nat
  | .lit (.string bytes) => bytes.length + 1
  | .lit _ => 1
  | .nil => 1
  | .ptr d => uptoBulk d + 1
  | .slice elems spare => uptoBulkAll elems + uptoBulkAll spare + 1
  | .agg parts => uptoBulkAll parts + 1
  | .iface _ d => uptoBulk d + 1
  | .map entries => uptoBulkEntries entries + 1
  | .held _ => 1
def uptoBulkAll {H : Type} : List (DataW H) → Nat
  | [] => 0
  | d :: r => uptoBulk d + uptoBulkAll r
def uptoBulkEntries {H : Type} : List (Lit × DataW H) → Nat
  | [] => 0
  | x :: r => uptoBulkEntry x + uptoBulkEntries r
def uptoBulkEntry {H : Type} : Lit × DataW H → Nat
  | (.string bytes, d) => bytes.length + uptoBulk d + 1
  | (_, d) => uptoBulk d + 1
 end
def uptoSmall : (H : Type) → List (DataW H) → Bool := fun _ ds => decide (uptoBulkAll ds ≤ 1048576)
def OpenSpec.upto (s : _root_.Go.ChangeSpec) : _root_.Go.OpenSpec := { _root_.Go.OpenSpec.ofChange s with cond := some uptoSmall }

/-- 'warrenerlaw17.SeriesKnown', WHERE WHAT IT READS IS OF BULK AT MOST 1048576: true; the input reads as it did. -/
def seriesKnownUptoRow : OpenClaim := { program := "ytijhabpbdiamiaa", sum := "2aaca9096df38eb6eb1a1b53e99de1dce77eda1a4cb68bc9dcbf24ca5929e7bc", func := "warrener/warrenerlaw17.SeriesKnown", spec := "seriesKnown", apart := false, narrowed := true }
def SeriesKnownUptoSaid : Prop := seriesKnownUptoRow.holds Try.pinned (OpenSpec.upto seriesKnownSpec)

/-- 'warrenerlaw17.SeriesSays', WHERE WHAT IT READS IS OF BULK AT MOST 1048576: true; the input reads as it did. -/
def seriesSaysUptoRow : OpenClaim := { program := "ytijhabpbdiamiaa", sum := "2aaca9096df38eb6eb1a1b53e99de1dce77eda1a4cb68bc9dcbf24ca5929e7bc", func := "warrener/warrenerlaw17.SeriesSays", spec := "seriesSays", apart := false, narrowed := true }
def SeriesSaysUptoSaid : Prop := seriesSaysUptoRow.holds Try.pinned (OpenSpec.upto seriesSaysSpec)

/-- 'warrenerlaw17.SeriesTwice', WHERE WHAT IT READS IS OF BULK AT MOST 1048576: true; the input reads as it did. -/
def seriesTwiceUptoRow : OpenClaim := { program := "ytijhabpbdiamiaa", sum := "2aaca9096df38eb6eb1a1b53e99de1dce77eda1a4cb68bc9dcbf24ca5929e7bc", func := "warrener/warrenerlaw17.SeriesTwice", spec := "seriesTwice", apart := false, narrowed := true }
def SeriesTwiceUptoSaid : Prop := seriesTwiceUptoRow.holds Try.pinned (OpenSpec.upto seriesTwiceSpec)

/-- 'warrenerlaw17.SeriesKeeps', WHERE WHAT IT READS IS OF BULK AT MOST 1048576: true; the input reads as it did. -/
def seriesKeepsUptoRow : OpenClaim := { program := "ytijhabpbdiamiaa", sum := "2aaca9096df38eb6eb1a1b53e99de1dce77eda1a4cb68bc9dcbf24ca5929e7bc", func := "warrener/warrenerlaw17.SeriesKeeps", spec := "seriesKeeps", apart := false, narrowed := true }
def SeriesKeepsUptoSaid : Prop := seriesKeepsUptoRow.holds Try.pinned (OpenSpec.upto seriesKeepsSpec)

/-- 'warrenerlaw17.SeriesRanges', WHERE WHAT IT READS IS OF BULK AT MOST 1048576: true; the input reads as it did. -/
def seriesRangesUptoRow : OpenClaim := { program := "ytijhabpbdiamiaa", sum := "2aaca9096df38eb6eb1a1b53e99de1dce77eda1a4cb68bc9dcbf24ca5929e7bc", func := "warrener/warrenerlaw17.SeriesRanges", spec := "seriesRanges", apart := false, narrowed := true }
def SeriesRangesUptoSaid : Prop := seriesRangesUptoRow.holds Try.pinned (OpenSpec.upto seriesRangesSpec)

end Rows
end Go.Proofs.Ytijhabpbdiamiaa
