/-
  No cell of these rows narrows 'for every input' (looked for: loops, veiled, ifaces, maps, wideKeys, modest, calm, conditions, laid).
  DERIVED. THE GIVEN ROWS OF THIS SEAT. 4 by the template 'for every input the law returns true; each argument reads behind the call as it read before'; 0 by the template 'total and deterministic' (their statements: YtkdpdbjefehmpaaTotals.lean).
  GIVEN WITH THE SEED: the statements are not yours to turn. If you find one false, say at which input.
  Laid BY PROGRAM, IN A SANDBOX (cutbox-rows.mjs): the forced cells as the released guide's own fill.sh prints them over the translation 16b02f3c75b6f565… (all of the seat's roots in one cut). By AI agents, Wed Nov 11 2026. No macro, syntax, notation, axiom, sorry.
-/
import Derived.Test.YtkdpdbjefehmpaaChecked
import GoSem.Claim
import GoSem.ClaimJoined
import GoSem.ClaimMapViews
import Derived.JoinedTies
import Derived.KernelRfl
namespace Go.Proofs.Ytkdpdbjefehmpaa
/- THE CELL 'sum', in the pinned program and in every row, IS THE sha256 OF THE DUMP (.gsa) THAT YtkdpdbjefehmpaaProg.lean LOADS. Nothing in Lean hashes anything: it is a label: what it is worth is what the hold of that sum in a sandbox is worth. -/
noncomputable def Try.pinned : Pinned := { name := "ytkdpdbjefehmpaa", sum := "16b02f3c75b6f565a86269ae8235e16acc3964996c6426e5dab7ba6057137a5e", checked := Try.checked }
namespace Rows
def none {H : Type} : Left H := { results := [], args := [] }

/-- 'warrenerlaw9.HoldKnown': WHATEVER THE INPUT: true; the input reads as it did. -/
def holdKnownSpec : ChangeSpec := { name := "holdKnown", fn := fun _ => fun
  | [] => { results := [.lit (.bool true)], args := [] }
  | _ => none }
def holdKnownRow : OpenClaim := { program := "ytkdpdbjefehmpaa", sum := "16b02f3c75b6f565a86269ae8235e16acc3964996c6426e5dab7ba6057137a5e", func := "warrener/warrenerlaw9.HoldKnown", spec := "holdKnown", unfollowed := true, recurses := true, apart := false }
def HoldKnownSaid : Prop := holdKnownRow.holds Try.pinned (OpenSpec.ofChange holdKnownSpec)

/-- ITS FALSE NEIGHBOUR: 'it returns false'. Refute it at one input. -/
def holdKnownWrong : ChangeSpec := { name := "holdKnown", fn := fun _ => fun
  | [] => { results := [.lit (.bool false)], args := [] }
  | _ => none }
def HoldKnownWrongFalsely : Prop := holdKnownRow.holds Try.pinned (OpenSpec.ofChange holdKnownWrong)

/-- 'warrenerlaw9.HoldPlays': WHATEVER THE INPUT: true; the input reads as it did. -/
def holdPlaysSpec : ChangeSpec := { name := "holdPlays", fn := fun _ => fun
  | [d1, d2, d3] => { results := [.lit (.bool true)], args := [d1, d2, d3] }
  | _ => none }
def holdPlaysRow : OpenClaim := { program := "ytkdpdbjefehmpaa", sum := "16b02f3c75b6f565a86269ae8235e16acc3964996c6426e5dab7ba6057137a5e", func := "warrener/warrenerlaw9.HoldPlays", spec := "holdPlays", unfollowed := true, recurses := true, apart := false }
def HoldPlaysSaid : Prop := holdPlaysRow.holds Try.pinned (OpenSpec.ofChange holdPlaysSpec)

/-- ITS FALSE NEIGHBOUR: 'it returns false'. Refute it at one input. -/
def holdPlaysWrong : ChangeSpec := { name := "holdPlays", fn := fun _ => fun
  | [d1, d2, d3] => { results := [.lit (.bool false)], args := [d1, d2, d3] }
  | _ => none }
def HoldPlaysWrongFalsely : Prop := holdPlaysRow.holds Try.pinned (OpenSpec.ofChange holdPlaysWrong)

/-- 'warrenerlaw9.HoldKeeps': WHATEVER THE INPUT: true; the input reads as it did. -/
def holdKeepsSpec : ChangeSpec := { name := "holdKeeps", fn := fun _ => fun
  | [d1, d2] => { results := [.lit (.bool true)], args := [d1, d2] }
  | _ => none }
def holdKeepsRow : OpenClaim := { program := "ytkdpdbjefehmpaa", sum := "16b02f3c75b6f565a86269ae8235e16acc3964996c6426e5dab7ba6057137a5e", func := "warrener/warrenerlaw9.HoldKeeps", spec := "holdKeeps", unfollowed := true, recurses := true, apart := false }
def HoldKeepsSaid : Prop := holdKeepsRow.holds Try.pinned (OpenSpec.ofChange holdKeepsSpec)

/-- ITS FALSE NEIGHBOUR: 'it returns false'. Refute it at one input. -/
def holdKeepsWrong : ChangeSpec := { name := "holdKeeps", fn := fun _ => fun
  | [d1, d2] => { results := [.lit (.bool false)], args := [d1, d2] }
  | _ => none }
def HoldKeepsWrongFalsely : Prop := holdKeepsRow.holds Try.pinned (OpenSpec.ofChange holdKeepsWrong)

/-- 'warrenerlaw9.HoldRoom': WHATEVER THE INPUT: true; the input reads as it did. -/
def holdRoomSpec : ChangeSpec := { name := "holdRoom", fn := fun _ => fun
  | [d1, d2] => { results := [.lit (.bool true)], args := [d1, d2] }
  | _ => none }
def holdRoomRow : OpenClaim := { program := "ytkdpdbjefehmpaa", sum := "16b02f3c75b6f565a86269ae8235e16acc3964996c6426e5dab7ba6057137a5e", func := "warrener/warrenerlaw9.HoldRoom", spec := "holdRoom", apart := false }
def HoldRoomSaid : Prop := holdRoomRow.holds Try.pinned (OpenSpec.ofChange holdRoomSpec)

/-- ITS FALSE NEIGHBOUR: 'it returns false'. Refute it at one input. -/
def holdRoomWrong : ChangeSpec := { name := "holdRoom", fn := fun _ => fun
  | [d1, d2] => { results := [.lit (.bool false)], args := [d1, d2] }
  | _ => none }
def HoldRoomWrongFalsely : Prop := holdRoomRow.holds Try.pinned (OpenSpec.ofChange holdRoomWrong)

/- THE SECOND FORM. 'bulk': how many values and letters a reading holds, each counted each time it is reached (what is shared counts as often as it is met; a slice's spare places count too). A statement '..UptoSaid' is the law's where the arguments, and the package variables that the reading takes, are together of bulk at most 1048576: NARROWER than '..Said'. Prove '..Said' where nothing that the law and all that it calls make is longer than what came in: it says more and counts as full. Else prove '..UptoSaid'. A law counts once. -/
mutual
def uptoBulk {H : Type} : DataW H → Nat
  | .lit (.string bytes) => bytes.length + 1
  | .lit _ => 1
  | .nil => 1
  | .ptr d => uptoBulk d + 1
  | .slice elems spare => uptoBulkAll elems + uptoBulkAll spare + 1
  | .agg parts => uptoBulkAll parts + 1
  | .iface _ d => uptoBulk d + 1
  | .map entries => uptoBulkEntries entries + 1
  | .held _ => 1
def uptoBulkAll {H : Type} : List (DataW H) → Nat
  | [] => 0
  | d :: r => uptoBulk d + uptoBulkAll r
def uptoBulkEntries {H : Type} : List (Lit × DataW H) → Nat
  | [] => 0
  | x :: r => uptoBulkEntry x + uptoBulkEntries r
def uptoBulkEntry {H : Type} : Lit × DataW H → Nat
  | (.string bytes, d) => bytes.length + uptoBulk d + 1
  | (_, d) => uptoBulk d + 1
 end
def uptoSmall : (H : Type) → List (DataW H) → Bool := fun _ ds => decide (uptoBulkAll ds ≤ 1048576)
def OpenSpec.upto (s : _root_.Go.ChangeSpec) : _root_.Go.OpenSpec := { _root_.Go.OpenSpec.ofChange s with cond := some uptoSmall }

/-- 'warrenerlaw9.HoldKnown', WHERE WHAT IT READS IS OF BULK AT MOST 1048576: true; the input reads as it did. -/
def holdKnownUptoRow : OpenClaim := { program := "ytkdpdbjefehmpaa", sum := "16b02f3c75b6f565a86269ae8235e16acc3964996c6426e5dab7ba6057137a5e", func := "warrener/warrenerlaw9.HoldKnown", spec := "holdKnown", unfollowed := true, recurses := true, apart := false, narrowed := true }
def HoldKnownUptoSaid : Prop := holdKnownUptoRow.holds Try.pinned (OpenSpec.upto holdKnownSpec)

/-- 'warrenerlaw9.HoldPlays', WHERE WHAT IT READS IS OF BULK AT MOST 1048576: true; the input reads as it did. -/
def holdPlaysUptoRow : OpenClaim := { program := "ytkdpdbjefehmpaa", sum := "16b02f3c75b6f565a86269ae8235e16acc3964996c6426e5dab7ba6057137a5e", func := "warrener/warrenerlaw9.HoldPlays", spec := "holdPlays", unfollowed := true, recurses := true, apart := false, narrowed := true }
def HoldPlaysUptoSaid : Prop := holdPlaysUptoRow.holds Try.pinned (OpenSpec.upto holdPlaysSpec)

/-- 'warrenerlaw9.HoldKeeps', WHERE WHAT IT READS IS OF BULK AT MOST 1048576: true; the input reads as it did. -/
def holdKeepsUptoRow : OpenClaim := { program := "ytkdpdbjefehmpaa", sum := "16b02f3c75b6f565a86269ae8235e16acc3964996c6426e5dab7ba6057137a5e", func := "warrener/warrenerlaw9.HoldKeeps", spec := "holdKeeps", unfollowed := true, recurses := true, apart := false, narrowed := true }
def HoldKeepsUptoSaid : Prop := holdKeepsUptoRow.holds Try.pinned (OpenSpec.upto holdKeepsSpec)

/-- 'warrenerlaw9.HoldRoom', WHERE WHAT IT READS IS OF BULK AT MOST 1048576: true; the input reads as it did. -/
def holdRoomUptoRow : OpenClaim := { program := "ytkdpdbjefehmpaa", sum := "16b02f3c75b6f565a86269ae8235e16acc3964996c6426e5dab7ba6057137a5e", func := "warrener/warrenerlaw9.HoldRoom", spec := "holdRoom", apart := false, narrowed := true }
def HoldRoomUptoSaid : Prop := holdRoomUptoRow.holds Try.pinned (OpenSpec.upto holdRoomSpec)

end Rows
end Go.Proofs.Ytkdpdbjefehmpaa
