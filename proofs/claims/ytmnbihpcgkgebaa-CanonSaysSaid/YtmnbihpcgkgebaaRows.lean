/-
  No cell of these rows narrows 'for every input' (looked for: loops, veiled, ifaces, maps, wideKeys, modest, calm, conditions, laid).
  DERIVED. THE GIVEN ROWS OF THIS SEAT. 3 by the template 'for every input the law returns true; each argument reads behind the call as it read before'; 0 by the template 'total and deterministic' (their statements: YtmnbihpcgkgebaaTotals.lean).
  GIVEN WITH THE SEED: the statements are not yours to turn. If you find one false, say at which input.
  Laid BY PROGRAM, IN A SANDBOX (cutbox-rows.mjs): the forced cells as the released guide's own fill.sh prints them over the translation 0fa5c3895287fecb… (all of the seat's roots in one cut). By AI agents, Wed Nov 11 2026. No macro, syntax, notation, axiom, sorry.
-/
import Derived.Test.YtmnbihpcgkgebaaChecked
import GoSem.Claim
import GoSem.ClaimJoined
import GoSem.ClaimMapViews
import Derived.JoinedTies
import Derived.KernelRfl
namespace Go.Proofs.Ytmnbihpcgkgebaa
/- THE CELL 'sum', in the pinned program and in every row, IS THE sha256 OF THE DUMP (.gsa) THAT YtmnbihpcgkgebaaProg.lean LOADS. Nothing in Lean hashes anything: it is a label: what it is worth is what the hold of that sum in a sandbox is worth. -/
noncomputable def Try.pinned : Pinned := { name := "ytmnbihpcgkgebaa", sum := "0fa5c3895287fecb401f1777e468778e5b27ed1a2cd1e5efc222bb3c91677fb4", checked := Try.checked }
namespace Rows
def none {H : Type} : Left H := { results := [], args := [] }

/-- 'warrenerlaw12.CanonKnown': WHATEVER THE INPUT: true; the input reads as it did. -/
def canonKnownSpec : ChangeSpec := { name := "canonKnown", fn := fun _ => fun
  | [] => { results := [.lit (.bool true)], args := [] }
  | _ => none }
def canonKnownRow : OpenClaim := { program := "ytmnbihpcgkgebaa", sum := "0fa5c3895287fecb401f1777e468778e5b27ed1a2cd1e5efc222bb3c91677fb4", func := "warrener/warrenerlaw12.CanonKnown", spec := "canonKnown", apart := false }
def CanonKnownSaid : Prop := canonKnownRow.holds Try.pinned (OpenSpec.ofChange canonKnownSpec)

/-- ITS FALSE NEIGHBOUR: 'it returns false'. Refute it at one input. -/
def canonKnownWrong : ChangeSpec := { name := "canonKnown", fn := fun _ => fun
  | [] => { results := [.lit (.bool false)], args := [] }
  | _ => none }
def CanonKnownWrongFalsely : Prop := canonKnownRow.holds Try.pinned (OpenSpec.ofChange canonKnownWrong)

/-- 'warrenerlaw12.CanonSays': WHATEVER THE INPUT: true; the input reads as it did. -/
def canonSaysSpec : ChangeSpec := { name := "canonSays", fn := fun _ => fun
  | [d1, d2] => { results := [.lit (.bool true)], args := [d1, d2] }
  | _ => none }
def canonSaysRow : OpenClaim := { program := "ytmnbihpcgkgebaa", sum := "0fa5c3895287fecb401f1777e468778e5b27ed1a2cd1e5efc222bb3c91677fb4", func := "warrener/warrenerlaw12.CanonSays", spec := "canonSays", apart := false }
def CanonSaysSaid : Prop := canonSaysRow.holds Try.pinned (OpenSpec.ofChange canonSaysSpec)

/-- ITS FALSE NEIGHBOUR: 'it returns false'. Refute it at one input. -/
def canonSaysWrong : ChangeSpec := { name := "canonSays", fn := fun _ => fun
  | [d1, d2] => { results := [.lit (.bool false)], args := [d1, d2] }
  | _ => none }
def CanonSaysWrongFalsely : Prop := canonSaysRow.holds Try.pinned (OpenSpec.ofChange canonSaysWrong)

/-- 'warrenerlaw12.CanonAsks': WHATEVER THE INPUT: true; the input reads as it did. -/
def canonAsksSpec : ChangeSpec := { name := "canonAsks", fn := fun _ => fun
  | [d1, d2] => { results := [.lit (.bool true)], args := [d1, d2] }
  | _ => none }
def canonAsksRow : OpenClaim := { program := "ytmnbihpcgkgebaa", sum := "0fa5c3895287fecb401f1777e468778e5b27ed1a2cd1e5efc222bb3c91677fb4", func := "warrener/warrenerlaw12.CanonAsks", spec := "canonAsks", apart := false }
def CanonAsksSaid : Prop := canonAsksRow.holds Try.pinned (OpenSpec.ofChange canonAsksSpec)

/-- ITS FALSE NEIGHBOUR: 'it returns false'. Refute it at one input. -/
def canonAsksWrong : ChangeSpec := { name := "canonAsks", fn := fun _ => fun
  | [d1, d2] => { results := [.lit (.bool false)], args := [d1, d2] }
  | _ => none }
def CanonAsksWrongFalsely : Prop := canonAsksRow.holds Try.pinned (OpenSpec.ofChange canonAsksWrong)

/- THE SECOND FORM. 'bulk': how many values and letters a reading holds, each counted each time it is reached (what is shared counts as often as it is met; a slice's spare places count too). A statement '..UptoSaid' is the law's where the arguments, and the package variables that the reading takes, are together of bulk at most 1048576: NARROWER than '..Said'. Prove '..Said' where nothing that the law and all that it calls make is longer than what came in: it says more and counts as full. Else prove '..UptoSaid'. A law counts once. -/
mutual
def uptoBulk {H : Type} : DataW H → Nat
  | .lit (.string bytes) => bytes.length + 1
  | .lit _ => 1
  | .nil => 1
  | .ptr d => uptoBulk d + 1
  | .slice elems spare => uptoBulkAll elems + uptoBulkAll spare + 1
  | .agg parts => uptoBulkAll parts + 1
  | .iface _ d => uptoBulk d + 1
  | .map entries => uptoBulkEntries entries + 1
  | .held _ => 1
def uptoBulkAll {H : Type} : List (DataW H) → Nat
  | [] => 0
  | d :: r => uptoBulk d + uptoBulkAll r
def uptoBulkEntries {H : Type} : List (Lit × DataW H) → Nat
  | [] => 0
  | x :: r => uptoBulkEntry x + uptoBulkEntries r
def uptoBulkEntry {H : Type} : Lit × DataW H → Nat
  | (.string bytes, d) => bytes.length + uptoBulk d + 1
  | (_, d) => uptoBulk d + 1
 end
def uptoSmall : (H : Type) → List (DataW H) → Bool := fun _ ds => decide (uptoBulkAll ds ≤ 1048576)
def OpenSpec.upto (s : _root_.Go.ChangeSpec) : _root_.Go.OpenSpec := { _root_.Go.OpenSpec.ofChange s with cond := some uptoSmall }

/-- 'warrenerlaw12.CanonKnown', WHERE WHAT IT READS IS OF BULK AT MOST 1048576: true; the input reads as it did. -/
def canonKnownUptoRow : OpenClaim := { program := "ytmnbihpcgkgebaa", sum := "0fa5c3895287fecb401f1777e468778e5b27ed1a2cd1e5efc222bb3c91677fb4", func := "warrener/warrenerlaw12.CanonKnown", spec := "canonKnown", apart := false, narrowed := true }
def CanonKnownUptoSaid : Prop := canonKnownUptoRow.holds Try.pinned (OpenSpec.upto canonKnownSpec)

/-- 'warrenerlaw12.CanonSays', WHERE WHAT IT READS IS OF BULK AT MOST 1048576: true; the input reads as it did. -/
def canonSaysUptoRow : OpenClaim := { program := "ytmnbihpcgkgebaa", sum := "0fa5c3895287fecb401f1777e468778e5b27ed1a2cd1e5efc222bb3c91677fb4", func := "warrener/warrenerlaw12.CanonSays", spec := "canonSays", apart := false, narrowed := true }
def CanonSaysUptoSaid : Prop := canonSaysUptoRow.holds Try.pinned (OpenSpec.upto canonSaysSpec)

/-- 'warrenerlaw12.CanonAsks', WHERE WHAT IT READS IS OF BULK AT MOST 1048576: true; the input reads as it did. -/
def canonAsksUptoRow : OpenClaim := { program := "ytmnbihpcgkgebaa", sum := "0fa5c3895287fecb401f1777e468778e5b27ed1a2cd1e5efc222bb3c91677fb4", func := "warrener/warrenerlaw12.CanonAsks", spec := "canonAsks", apart := false, narrowed := true }
def CanonAsksUptoSaid : Prop := canonAsksUptoRow.holds Try.pinned (OpenSpec.upto canonAsksSpec)

end Rows
end Go.Proofs.Ytmnbihpcgkgebaa
