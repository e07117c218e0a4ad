/-
  No cell of these rows narrows 'for every input' (looked for: loops, veiled, ifaces, maps, wideKeys, modest, calm, conditions, laid).
  DERIVED. THE GIVEN ROWS OF THIS SEAT. 3 by the template 'for every input the law returns true; each argument reads behind the call as it read before'; 0 by the template 'total and deterministic' (their statements: YtnglmkombogheaaTotals.lean).
  GIVEN WITH THE SEED: the statements are not yours to turn. If you find one false, say at which input.
  Laid BY PROGRAM, IN A SANDBOX (cutbox-rows.mjs): the forced cells as the released guide's own fill.sh prints them over the translation 4b280db5774f9d3a… (all of the seat's roots in one cut). By AI agents, Wed Nov 11 2026. No macro, syntax, notation, axiom, sorry.
-/
import Derived.Test.YtnglmkombogheaaChecked
import GoSem.Claim
import GoSem.ClaimJoined
import GoSem.ClaimMapViews
import Derived.JoinedTies
import Derived.KernelRfl
namespace Go.Proofs.Ytnglmkombogheaa
/- THE CELL 'sum', in the pinned program and in every row, IS THE sha256 OF THE DUMP (.gsa) THAT YtnglmkombogheaaProg.lean LOADS. Nothing in Lean hashes anything: it is a label: what it is worth is what the hold of that sum in a sandbox is worth. -/
noncomputable def Try.pinned : Pinned := { name := "ytnglmkombogheaa", sum := "4b280db5774f9d3ad7185ac7731c0798e98fc5bcc6c61f044ca4177656ba64b0", checked := Try.checked }
namespace Rows
def none {H : Type} : Left H := { results := [], args := [] }

/-- 'warrenerlaw20.IndexKnown': WHATEVER THE INPUT: true; the input reads as it did. -/
def indexKnownSpec : ChangeSpec := { name := "indexKnown", fn := fun _ => fun
  | [] => { results := [.lit (.bool true)], args := [] }
  | _ => none }
def indexKnownRow : OpenClaim := { program := "ytnglmkombogheaa", sum := "4b280db5774f9d3ad7185ac7731c0798e98fc5bcc6c61f044ca4177656ba64b0", func := "warrener/warrenerlaw20.IndexKnown", spec := "indexKnown", inPlace := ["internal/bytealg.abigen_runtime_cmpstring", "slices.overlaps[*warrener/ord.named[int]]"], unfollowed := true, recurses := true, apart := false }
def IndexKnownSaid : Prop := indexKnownRow.holds Try.pinned (OpenSpec.ofChange indexKnownSpec)

/-- ITS FALSE NEIGHBOUR: 'it returns false'. Refute it at one input. -/
def indexKnownWrong : ChangeSpec := { name := "indexKnown", fn := fun _ => fun
  | [] => { results := [.lit (.bool false)], args := [] }
  | _ => none }
def IndexKnownWrongFalsely : Prop := indexKnownRow.holds Try.pinned (OpenSpec.ofChange indexKnownWrong)

/-- 'warrenerlaw20.IndexOnce': WHATEVER THE INPUT: true; the input reads as it did. -/
def indexOnceSpec : ChangeSpec := { name := "indexOnce", fn := fun _ => fun
  | [d] => { results := [.lit (.bool true)], args := [d] }
  | _ => none }
def indexOnceRow : OpenClaim := { program := "ytnglmkombogheaa", sum := "4b280db5774f9d3ad7185ac7731c0798e98fc5bcc6c61f044ca4177656ba64b0", func := "warrener/warrenerlaw20.IndexOnce", spec := "indexOnce", inPlace := ["internal/bytealg.abigen_runtime_cmpstring", "slices.overlaps[*warrener/ord.named[int]]"], unfollowed := true, recurses := true, apart := false }
def IndexOnceSaid : Prop := indexOnceRow.holds Try.pinned (OpenSpec.ofChange indexOnceSpec)

/-- ITS FALSE NEIGHBOUR: 'it returns false'. Refute it at one input. -/
def indexOnceWrong : ChangeSpec := { name := "indexOnce", fn := fun _ => fun
  | [d] => { results := [.lit (.bool false)], args := [d] }
  | _ => none }
def IndexOnceWrongFalsely : Prop := indexOnceRow.holds Try.pinned (OpenSpec.ofChange indexOnceWrong)

/-- 'warrenerlaw20.IndexRows': WHATEVER THE INPUT: true; the input reads as it did. -/
def indexRowsSpec : ChangeSpec := { name := "indexRows", fn := fun _ => fun
  | [d1, d2] => { results := [.lit (.bool true)], args := [d1, d2] }
  | _ => none }
def indexRowsRow : OpenClaim := { program := "ytnglmkombogheaa", sum := "4b280db5774f9d3ad7185ac7731c0798e98fc5bcc6c61f044ca4177656ba64b0", func := "warrener/warrenerlaw20.IndexRows", spec := "indexRows", inPlace := ["internal/bytealg.abigen_runtime_cmpstring", "slices.overlaps[*warrener/ord.named[int]]"], unfollowed := true, recurses := true, apart := false }
def IndexRowsSaid : Prop := indexRowsRow.holds Try.pinned (OpenSpec.ofChange indexRowsSpec)

/-- ITS FALSE NEIGHBOUR: 'it returns false'. Refute it at one input. -/
def indexRowsWrong : ChangeSpec := { name := "indexRows", fn := fun _ => fun
  | [d1, d2] => { results := [.lit (.bool false)], args := [d1, d2] }
  | _ => none }
def IndexRowsWrongFalsely : Prop := indexRowsRow.holds Try.pinned (OpenSpec.ofChange indexRowsWrong)

/- THE SECOND FORM. 'bulk': how many values and letters a reading holds, each counted each time it is reached (what is shared counts as often as it is met; a slice's spare places count too). A statement '..UptoSaid' is the law's where the arguments, and the package variables that the reading takes, are together of bulk at most 1048576: NARROWER than '..Said'. Prove '..Said' where nothing that the law and all that it calls make is longer than what came in: it says more and counts as full. Else prove '..UptoSaid'. A law counts once. -/
mutual
def uptoBulk {H : Type} : DataW H → Nat
  | .lit (.string bytes) => bytes.length + 1
  | .lit _ => 1
  | .nil => 1
  | .ptr d => uptoBulk d + 1
  | .slice elems spare => uptoBulkAll elems + uptoBulkAll spare + 1
  | .agg parts => uptoBulkAll parts + 1
  | .iface _ d => uptoBulk d + 1
  | .map entries => uptoBulkEntries entries + 1
  | .held _ => 1
def uptoBulkAll {H : Type} : List (DataW H) → Nat
  | [] => 0
  | d :: r => uptoBulk d + uptoBulkAll r
def uptoBulkEntries {H : Type} : List (Lit × DataW H) → Nat
  | [] => 0
  | x :: r => uptoBulkEntry x + uptoBulkEntries r
def uptoBulkEntry {H : Type} : Lit × DataW H → Nat
  | (.string bytes, d) => bytes.length + uptoBulk d + 1
  | (_, d) => uptoBulk d + 1
 end
def uptoSmall : (H : Type) → List (DataW H) → Bool := fun _ ds => decide (uptoBulkAll ds ≤ 1048576)
def OpenSpec.upto (s : _root_.Go.ChangeSpec) : _root_.Go.OpenSpec := { _root_.Go.OpenSpec.ofChange s with cond := some uptoSmall }

/-- 'warrenerlaw20.IndexKnown', WHERE WHAT IT READS IS OF BULK AT MOST 1048576: true; the input reads as it did. -/
def indexKnownUptoRow : OpenClaim := { program := "ytnglmkombogheaa", sum := "4b280db5774f9d3ad7185ac7731c0798e98fc5bcc6c61f044ca4177656ba64b0", func := "warrener/warrenerlaw20.IndexKnown", spec := "indexKnown", inPlace := ["internal/bytealg.abigen_runtime_cmpstring", "slices.overlaps[*warrener/ord.named[int]]"], unfollowed := true, recurses := true, apart := false, narrowed := true }
def IndexKnownUptoSaid : Prop := indexKnownUptoRow.holds Try.pinned (OpenSpec.upto indexKnownSpec)

/-- 'warrenerlaw20.IndexOnce', WHERE WHAT IT READS IS OF BULK AT MOST 1048576: true; the input reads as it did. -/
def indexOnceUptoRow : OpenClaim := { program := "ytnglmkombogheaa", sum := "4b280db5774f9d3ad7185ac7731c0798e98fc5bcc6c61f044ca4177656ba64b0", func := "warrener/warrenerlaw20.IndexOnce", spec := "indexOnce", inPlace := ["internal/bytealg.abigen_runtime_cmpstring", "slices.overlaps[*warrener/ord.named[int]]"], unfollowed := true, recurses := true, apart := false, narrowed := true }
def IndexOnceUptoSaid : Prop := indexOnceUptoRow.holds Try.pinned (OpenSpec.upto indexOnceSpec)

/-- 'warrenerlaw20.IndexRows', WHERE WHAT IT READS IS OF BULK AT MOST 1048576: true; the input reads as it did. -/
def indexRowsUptoRow : OpenClaim := { program := "ytnglmkombogheaa", sum := "4b280db5774f9d3ad7185ac7731c0798e98fc5bcc6c61f044ca4177656ba64b0", func := "warrener/warrenerlaw20.IndexRows", spec := "indexRows", inPlace := ["internal/bytealg.abigen_runtime_cmpstring", "slices.overlaps[*warrener/ord.named[int]]"], unfollowed := true, recurses := true, apart := false, narrowed := true }
def IndexRowsUptoSaid : Prop := indexRowsUptoRow.holds Try.pinned (OpenSpec.upto indexRowsSpec)

end Rows
end Go.Proofs.Ytnglmkombogheaa
