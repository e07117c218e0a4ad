/-
  No cell of these rows narrows 'for every input' (looked for: loops, veiled, ifaces, maps, wideKeys, modest, calm, conditions, laid).
  DERIVED. THE GIVEN ROWS OF THIS SEAT. 4 by the template 'for every input the law returns true; each argument reads behind the call as it read before'; 0 by the template 'total and deterministic' (their statements: YtdldhcajcihimaaTotals.lean).
  GIVEN WITH THE SEED: the statements are not yours to turn. If you find one false, say at which input.
  Laid BY PROGRAM, IN A SANDBOX (cutbox-rows.mjs): the forced cells as the released guide's own fill.sh prints them over the translation 3d216de35e0ef7b4… (all of the seat's roots in one cut). By AI agents, Wed Nov 11 2026. No macro, syntax, notation, axiom, sorry.
-/
import Derived.Test.YtdldhcajcihimaaChecked
import GoSem.Claim
import GoSem.ClaimJoined
import GoSem.ClaimMapViews
import Derived.JoinedTies
import Derived.KernelRfl
namespace Go.Proofs.Ytdldhcajcihimaa
/- THE CELL 'sum', in the pinned program and in every row, IS THE sha256 OF THE DUMP (.gsa) THAT YtdldhcajcihimaaProg.lean LOADS. Nothing in Lean hashes anything: it is a label: what it is worth is what the hold of that sum in a sandbox is worth. -/
noncomputable def Try.pinned : Pinned := { name := "ytdldhcajcihimaa", sum := "3d216de35e0ef7b44f5ed3b43882b8db82d903aa7ce30edacda148181bd6d5c8", checked := Try.checked }
namespace Rows
def none {H : Type} : Left H := { results := [], args := [] }

/-- 'warrenerlaw6.OrdKnown': WHATEVER THE INPUT: true; the input reads as it did. -/
def ordKnownSpec : ChangeSpec := { name := "ordKnown", fn := fun _ => fun
  | [] => { results := [.lit (.bool true)], args := [] }
  | _ => none }
def ordKnownRow : OpenClaim := { program := "ytdldhcajcihimaa", sum := "3d216de35e0ef7b44f5ed3b43882b8db82d903aa7ce30edacda148181bd6d5c8", func := "warrener/warrenerlaw6.OrdKnown", spec := "ordKnown", inPlace := ["internal/bytealg.abigen_runtime_cmpstring", "slices.overlaps[*warrener/ord.named[int]]", "slices.overlaps[*warrener/ord.named[string]]"], unfollowed := true, recurses := true, apart := false }
def OrdKnownSaid : Prop := ordKnownRow.holds Try.pinned (OpenSpec.ofChange ordKnownSpec)

/-- ITS FALSE NEIGHBOUR: 'it returns false'. Refute it at one input. -/
def ordKnownWrong : ChangeSpec := { name := "ordKnown", fn := fun _ => fun
  | [] => { results := [.lit (.bool false)], args := [] }
  | _ => none }
def OrdKnownWrongFalsely : Prop := ordKnownRow.holds Try.pinned (OpenSpec.ofChange ordKnownWrong)

/-- 'warrenerlaw6.OrdPlays': WHATEVER THE INPUT: true; the input reads as it did. -/
def ordPlaysSpec : ChangeSpec := { name := "ordPlays", fn := fun _ => fun
  | [d1, d2] => { results := [.lit (.bool true)], args := [d1, d2] }
  | _ => none }
def ordPlaysRow : OpenClaim := { program := "ytdldhcajcihimaa", sum := "3d216de35e0ef7b44f5ed3b43882b8db82d903aa7ce30edacda148181bd6d5c8", func := "warrener/warrenerlaw6.OrdPlays", spec := "ordPlays", inPlace := ["internal/bytealg.abigen_runtime_cmpstring", "slices.overlaps[*warrener/ord.named[int]]"], unfollowed := true, recurses := true, apart := false }
def OrdPlaysSaid : Prop := ordPlaysRow.holds Try.pinned (OpenSpec.ofChange ordPlaysSpec)

/-- ITS FALSE NEIGHBOUR: 'it returns false'. Refute it at one input. -/
def ordPlaysWrong : ChangeSpec := { name := "ordPlays", fn := fun _ => fun
  | [d1, d2] => { results := [.lit (.bool false)], args := [d1, d2] }
  | _ => none }
def OrdPlaysWrongFalsely : Prop := ordPlaysRow.holds Try.pinned (OpenSpec.ofChange ordPlaysWrong)

/-- 'warrenerlaw6.OrdNames': WHATEVER THE INPUT: true; the input reads as it did. -/
def ordNamesSpec : ChangeSpec := { name := "ordNames", fn := fun _ => fun
  | [d] => { results := [.lit (.bool true)], args := [d] }
  | _ => none }
def ordNamesRow : OpenClaim := { program := "ytdldhcajcihimaa", sum := "3d216de35e0ef7b44f5ed3b43882b8db82d903aa7ce30edacda148181bd6d5c8", func := "warrener/warrenerlaw6.OrdNames", spec := "ordNames", inPlace := ["internal/bytealg.abigen_runtime_cmpstring", "slices.overlaps[*warrener/ord.named[int]]"], unfollowed := true, recurses := true, apart := false }
def OrdNamesSaid : Prop := ordNamesRow.holds Try.pinned (OpenSpec.ofChange ordNamesSpec)

/-- ITS FALSE NEIGHBOUR: 'it returns false'. Refute it at one input. -/
def ordNamesWrong : ChangeSpec := { name := "ordNames", fn := fun _ => fun
  | [d] => { results := [.lit (.bool false)], args := [d] }
  | _ => none }
def OrdNamesWrongFalsely : Prop := ordNamesRow.holds Try.pinned (OpenSpec.ofChange ordNamesWrong)

/-- 'warrenerlaw6.OrdDrops': WHATEVER THE INPUT: true; the input reads as it did. -/
def ordDropsSpec : ChangeSpec := { name := "ordDrops", fn := fun _ => fun
  | [d1, d2] => { results := [.lit (.bool true)], args := [d1, d2] }
  | _ => none }
def ordDropsRow : OpenClaim := { program := "ytdldhcajcihimaa", sum := "3d216de35e0ef7b44f5ed3b43882b8db82d903aa7ce30edacda148181bd6d5c8", func := "warrener/warrenerlaw6.OrdDrops", spec := "ordDrops", inPlace := ["internal/bytealg.abigen_runtime_cmpstring", "slices.overlaps[*warrener/ord.named[int]]", "slices.overlaps[*warrener/ord.named[string]]"], unfollowed := true, recurses := true, apart := false }
def OrdDropsSaid : Prop := ordDropsRow.holds Try.pinned (OpenSpec.ofChange ordDropsSpec)

/-- ITS FALSE NEIGHBOUR: 'it returns false'. Refute it at one input. -/
def ordDropsWrong : ChangeSpec := { name := "ordDrops", fn := fun _ => fun
  | [d1, d2] => { results := [.lit (.bool false)], args := [d1, d2] }
  | _ => none }
def OrdDropsWrongFalsely : Prop := ordDropsRow.holds Try.pinned (OpenSpec.ofChange ordDropsWrong)

/- THE SECOND FORM. 'bulk': how many values and letters a reading holds, each counted each time it is reached (what is shared counts as often as it is met; a slice's spare places count too). A statement '..UptoSaid' is the law's where the arguments, and the package variables that the reading takes, are together of bulk at most 1048576: NARROWER than '..Said'. Prove '..Said' where nothing that the law and all that it calls make is longer than what came in: it says more and counts as full. Else prove '..UptoSaid'. A law counts once. -/
mutual
def uptoBulk {H : Type} : DataW H → Nat
  | .lit (.string bytes) => bytes.length + 1
  | .lit _ => 1
  | .nil => 1
  | .ptr d => uptoBulk d + 1
  | .slice elems spare => uptoBulkAll elems + uptoBulkAll spare + 1
  | .agg parts => uptoBulkAll parts + 1
  | .iface _ d => uptoBulk d + 1
  | .map entries => uptoBulkEntries entries + 1
  | .held _ => 1
def uptoBulkAll {H : Type} : List (DataW H) → Nat
  | [] => 0
  | d :: r => uptoBulk d + uptoBulkAll r
def uptoBulkEntries {H : Type} : List (Lit × DataW H) → Nat
  | [] => 0
  | x :: r => uptoBulkEntry x + uptoBulkEntries r
def uptoBulkEntry {H : Type} : Lit × DataW H → Nat
  | (.string bytes, d) => bytes.length + uptoBulk d + 1
  | (_, d) => uptoBulk d + 1
 end
def uptoSmall : (H : Type) → List (DataW H) → Bool := fun _ ds => decide (uptoBulkAll ds ≤ 1048576)
def OpenSpec.upto (s : _root_.Go.ChangeSpec) : _root_.Go.OpenSpec := { _root_.Go.OpenSpec.ofChange s with cond := some uptoSmall }

/-- 'warrenerlaw6.OrdKnown', WHERE WHAT IT READS IS OF BULK AT MOST 1048576: true; the input reads as it did. -/
def ordKnownUptoRow : OpenClaim := { program := "ytdldhcajcihimaa", sum := "3d216de35e0ef7b44f5ed3b43882b8db82d903aa7ce30edacda148181bd6d5c8", func := "warrener/warrenerlaw6.OrdKnown", spec := "ordKnown", inPlace := ["internal/bytealg.abigen_runtime_cmpstring", "slices.overlaps[*warrener/ord.named[int]]", "slices.overlaps[*warrener/ord.named[string]]"], unfollowed := true, recurses := true, apart := false, narrowed := true }
def OrdKnownUptoSaid : Prop := ordKnownUptoRow.holds Try.pinned (OpenSpec.upto ordKnownSpec)

/-- 'warrenerlaw6.OrdPlays', WHERE WHAT IT READS IS OF BULK AT MOST 1048576: true; the input reads as it did. -/
def ordPlaysUptoRow : OpenClaim := { program := "ytdldhcajcihimaa", sum := "3d216de35e0ef7b44f5ed3b43882b8db82d903aa7ce30edacda148181bd6d5c8", func := "warrener/warrenerlaw6.OrdPlays", spec := "ordPlays", inPlace := ["internal/bytealg.abigen_runtime_cmpstring", "slices.overlaps[*warrener/ord.named[int]]"], unfollowed := true, recurses := true, apart := false, narrowed := true }
def OrdPlaysUptoSaid : Prop := ordPlaysUptoRow.holds Try.pinned (OpenSpec.upto ordPlaysSpec)

/-- 'warrenerlaw6.OrdNames', WHERE WHAT IT READS IS OF BULK AT MOST 1048576: true; the input reads as it did. -/
def ordNamesUptoRow : OpenClaim := { program := "ytdldhcajcihimaa", sum := "3d216de35e0ef7b44f5ed3b43882b8db82d903aa7ce30edacda148181bd6d5c8", func := "warrener/warrenerlaw6.OrdNames", spec := "ordNames", inPlace := ["internal/bytealg.abigen_runtime_cmpstring", "slices.overlaps[*warrener/ord.named[int]]"], unfollowed := true, recurses := true, apart := false, narrowed := true }
def OrdNamesUptoSaid : Prop := ordNamesUptoRow.holds Try.pinned (OpenSpec.upto ordNamesSpec)

/-- 'warrenerlaw6.OrdDrops', WHERE WHAT IT READS IS OF BULK AT MOST 1048576: true; the input reads as it did. -/
def ordDropsUptoRow : OpenClaim := { program := "ytdldhcajcihimaa", sum := "3d216de35e0ef7b44f5ed3b43882b8db82d903aa7ce30edacda148181bd6d5c8", func := "warrener/warrenerlaw6.OrdDrops", spec := "ordDrops", inPlace := ["internal/bytealg.abigen_runtime_cmpstring", "slices.overlaps[*warrener/ord.named[int]]", "slices.overlaps[*warrener/ord.named[string]]"], unfollowed := true, recurses := true, apart := false, narrowed := true }
def OrdDropsUptoSaid : Prop := ordDropsUptoRow.holds Try.pinned (OpenSpec.upto ordDropsSpec)

end Rows
end Go.Proofs.Ytdldhcajcihimaa
