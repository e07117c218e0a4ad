/-
  No cell of these rows narrows 'for every input' (looked for: loops, veiled, ifaces, maps, wideKeys, modest, calm, conditions, laid).
  DERIVED. THE GIVEN ROWS OF THIS SEAT. 6 by the template 'for every input the law returns true; each argument reads behind the call as it read before'; 0 by the template 'total and deterministic' (their statements: YtjefddliebokaaaTotals.lean).
  GIVEN WITH THE SEED: the statements are not yours to turn. If you find one false, say at which input.
  Laid BY PROGRAM, IN A SANDBOX (cutbox-rows.mjs): the forced cells as the released guide's own fill.sh prints them over the translation c875d746e80d9900… (all of the seat's roots in one cut). By AI agents, Wed Nov 11 2026. No macro, syntax, notation, axiom, sorry.
-/
import Derived.Test.YtjefddliebokaaaChecked
import GoSem.Claim
import GoSem.ClaimJoined
import GoSem.ClaimMapViews
import Derived.JoinedTies
import Derived.KernelRfl
namespace Go.Proofs.Ytjefddliebokaaa
/- THE CELL 'sum', in the pinned program and in every row, IS THE sha256 OF THE DUMP (.gsa) THAT YtjefddliebokaaaProg.lean LOADS. Nothing in Lean hashes anything: it is a label: what it is worth is what the hold of that sum in a sandbox is worth. -/
noncomputable def Try.pinned : Pinned := { name := "ytjefddliebokaaa", sum := "c875d746e80d9900566514cef3a934096c946189ae33697e252c6ef585ad7c26", checked := Try.checked }
namespace Rows
def none {H : Type} : Left H := { results := [], args := [] }

/-- 'warrenerlaw13.ReplyKnown': WHATEVER THE INPUT: true; the input reads as it did. -/
def replyKnownSpec : ChangeSpec := { name := "replyKnown", fn := fun _ => fun
  | [] => { results := [.lit (.bool true)], args := [] }
  | _ => none }
def replyKnownRow : OpenClaim := { program := "ytjefddliebokaaa", sum := "c875d746e80d9900566514cef3a934096c946189ae33697e252c6ef585ad7c26", func := "warrener/warrenerlaw13.ReplyKnown", spec := "replyKnown", apart := false }
def ReplyKnownSaid : Prop := replyKnownRow.holds Try.pinned (OpenSpec.ofChange replyKnownSpec)

/-- ITS FALSE NEIGHBOUR: 'it returns false'. Refute it at one input. -/
def replyKnownWrong : ChangeSpec := { name := "replyKnown", fn := fun _ => fun
  | [] => { results := [.lit (.bool false)], args := [] }
  | _ => none }
def ReplyKnownWrongFalsely : Prop := replyKnownRow.holds Try.pinned (OpenSpec.ofChange replyKnownWrong)

/-- 'warrenerlaw13.ReplySays': WHATEVER THE INPUT: true; the input reads as it did. -/
def replySaysSpec : ChangeSpec := { name := "replySays", fn := fun _ => fun
  | [d1, d2] => { results := [.lit (.bool true)], args := [d1, d2] }
  | _ => none }
def replySaysRow : OpenClaim := { program := "ytjefddliebokaaa", sum := "c875d746e80d9900566514cef3a934096c946189ae33697e252c6ef585ad7c26", func := "warrener/warrenerlaw13.ReplySays", spec := "replySays", apart := false }
def ReplySaysSaid : Prop := replySaysRow.holds Try.pinned (OpenSpec.ofChange replySaysSpec)

/-- ITS FALSE NEIGHBOUR: 'it returns false'. Refute it at one input. -/
def replySaysWrong : ChangeSpec := { name := "replySays", fn := fun _ => fun
  | [d1, d2] => { results := [.lit (.bool false)], args := [d1, d2] }
  | _ => none }
def ReplySaysWrongFalsely : Prop := replySaysRow.holds Try.pinned (OpenSpec.ofChange replySaysWrong)

/-- 'warrenerlaw13.ReplyBack': WHATEVER THE INPUT: true; the input reads as it did. -/
def replyBackSpec : ChangeSpec := { name := "replyBack", fn := fun _ => fun
  | [d1, d2] => { results := [.lit (.bool true)], args := [d1, d2] }
  | _ => none }
def replyBackRow : OpenClaim := { program := "ytjefddliebokaaa", sum := "c875d746e80d9900566514cef3a934096c946189ae33697e252c6ef585ad7c26", func := "warrener/warrenerlaw13.ReplyBack", spec := "replyBack", apart := false }
def ReplyBackSaid : Prop := replyBackRow.holds Try.pinned (OpenSpec.ofChange replyBackSpec)

/-- ITS FALSE NEIGHBOUR: 'it returns false'. Refute it at one input. -/
def replyBackWrong : ChangeSpec := { name := "replyBack", fn := fun _ => fun
  | [d1, d2] => { results := [.lit (.bool false)], args := [d1, d2] }
  | _ => none }
def ReplyBackWrongFalsely : Prop := replyBackRow.holds Try.pinned (OpenSpec.ofChange replyBackWrong)

/-- 'warrenerlaw13.ReplyCut': WHATEVER THE INPUT: true; the input reads as it did. -/
def replyCutSpec : ChangeSpec := { name := "replyCut", fn := fun _ => fun
  | [d1, d2] => { results := [.lit (.bool true)], args := [d1, d2] }
  | _ => none }
def replyCutRow : OpenClaim := { program := "ytjefddliebokaaa", sum := "c875d746e80d9900566514cef3a934096c946189ae33697e252c6ef585ad7c26", func := "warrener/warrenerlaw13.ReplyCut", spec := "replyCut", apart := false }
def ReplyCutSaid : Prop := replyCutRow.holds Try.pinned (OpenSpec.ofChange replyCutSpec)

/-- ITS FALSE NEIGHBOUR: 'it returns false'. Refute it at one input. -/
def replyCutWrong : ChangeSpec := { name := "replyCut", fn := fun _ => fun
  | [d1, d2] => { results := [.lit (.bool false)], args := [d1, d2] }
  | _ => none }
def ReplyCutWrongFalsely : Prop := replyCutRow.holds Try.pinned (OpenSpec.ofChange replyCutWrong)

/-- 'warrenerlaw13.ReplyApart': WHATEVER THE INPUT: true; the input reads as it did. -/
def replyApartSpec : ChangeSpec := { name := "replyApart", fn := fun _ => fun
  | [d1, d2] => { results := [.lit (.bool true)], args := [d1, d2] }
  | _ => none }
def replyApartRow : OpenClaim := { program := "ytjefddliebokaaa", sum := "c875d746e80d9900566514cef3a934096c946189ae33697e252c6ef585ad7c26", func := "warrener/warrenerlaw13.ReplyApart", spec := "replyApart", apart := false }
def ReplyApartSaid : Prop := replyApartRow.holds Try.pinned (OpenSpec.ofChange replyApartSpec)

/-- ITS FALSE NEIGHBOUR: 'it returns false'. Refute it at one input. -/
def replyApartWrong : ChangeSpec := { name := "replyApart", fn := fun _ => fun
  | [d1, d2] => { results := [.lit (.bool false)], args := [d1, d2] }
  | _ => none }
def ReplyApartWrongFalsely : Prop := replyApartRow.holds Try.pinned (OpenSpec.ofChange replyApartWrong)

/-- 'warrenerlaw13.ReplySizes': WHATEVER THE INPUT: true; the input reads as it did. -/
def replySizesSpec : ChangeSpec := { name := "replySizes", fn := fun _ => fun
  | [d] => { results := [.lit (.bool true)], args := [d] }
  | _ => none }
def replySizesRow : OpenClaim := { program := "ytjefddliebokaaa", sum := "c875d746e80d9900566514cef3a934096c946189ae33697e252c6ef585ad7c26", func := "warrener/warrenerlaw13.ReplySizes", spec := "replySizes", apart := false }
def ReplySizesSaid : Prop := replySizesRow.holds Try.pinned (OpenSpec.ofChange replySizesSpec)

/-- ITS FALSE NEIGHBOUR: 'it returns false'. Refute it at one input. -/
def replySizesWrong : ChangeSpec := { name := "replySizes", fn := fun _ => fun
  | [d] => { results := [.lit (.bool false)], args := [d] }
  | _ => none }
def ReplySizesWrongFalsely : Prop := replySizesRow.holds Try.pinned (OpenSpec.ofChange replySizesWrong)

/- THE SECOND FORM. 'bulk': how many values and letters a reading holds, each counted each time it is reached (what is shared counts as often as it is met; a slice's spare places count too). A statement '..UptoSaid' is the law's where the arguments, and the package variables that the reading takes, are together of bulk at most 1048576: NARROWER than '..Said'. Prove '..Said' where nothing that the law and all that it calls make is longer than what came in: it says more and counts as full. Else prove '..UptoSaid'. A law counts once. -/
mutual
def uptoBulk {H : Type} : DataW H → Nat
  | .lit (.string bytes) => bytes.length + 1
  | .lit _ => 1
  | .nil => 1
  | .ptr d => uptoBulk d + 1
  | .slice elems spare => uptoBulkAll elems + uptoBulkAll spare + 1
  | .agg parts => uptoBulkAll parts + 1
  | .iface _ d => uptoBulk d + 1
  | .map entries => uptoBulkEntries entries + 1
  | .held _ => 1
def uptoBulkAll {H : Type} : List (DataW H) → Nat
  | [] => 0
  | d :: r => uptoBulk d + uptoBulkAll r
def uptoBulkEntries {H : Type} : List (Lit × DataW H) → Nat
  | [] => 0
  | x :: r => uptoBulkEntry x + uptoBulkEntries r
def uptoBulkEntry {H : Type} : Lit × DataW H → Nat
  | (.string bytes, d) => bytes.length + uptoBulk d + 1
  | (_, d) => uptoBulk d + 1
 end
def uptoSmall : (H : Type) → List (DataW H) → Bool := fun _ ds => decide (uptoBulkAll ds ≤ 1048576)
def OpenSpec.upto (s : _root_.Go.ChangeSpec) : _root_.Go.OpenSpec := { _root_.Go.OpenSpec.ofChange s with cond := some uptoSmall }

/-- 'warrenerlaw13.ReplyKnown', WHERE WHAT IT READS IS OF BULK AT MOST 1048576: true; the input reads as it did. -/
def replyKnownUptoRow : OpenClaim := { program := "ytjefddliebokaaa", sum := "c875d746e80d9900566514cef3a934096c946189ae33697e252c6ef585ad7c26", func := "warrener/warrenerlaw13.ReplyKnown", spec := "replyKnown", apart := false, narrowed := true }
def ReplyKnownUptoSaid : Prop := replyKnownUptoRow.holds Try.pinned (OpenSpec.upto replyKnownSpec)

/-- 'warrenerlaw13.ReplySays', WHERE WHAT IT READS IS OF BULK AT MOST 1048576: true; the input reads as it did. -/
def replySaysUptoRow : OpenClaim := { program := "ytjefddliebokaaa", sum := "c875d746e80d9900566514cef3a934096c946189ae33697e252c6ef585ad7c26", func := "warrener/warrenerlaw13.ReplySays", spec := "replySays", apart := false, narrowed := true }
def ReplySaysUptoSaid : Prop := replySaysUptoRow.holds Try.pinned (OpenSpec.upto replySaysSpec)

/-- 'warrenerlaw13.ReplyBack', WHERE WHAT IT READS IS OF BULK AT MOST 1048576: true; the input reads as it did. -/
def replyBackUptoRow : OpenClaim := { program := "ytjefddliebokaaa", sum := "c875d746e80d9900566514cef3a934096c946189ae33697e252c6ef585ad7c26", func := "warrener/warrenerlaw13.ReplyBack", spec := "replyBack", apart := false, narrowed := true }
def ReplyBackUptoSaid : Prop := replyBackUptoRow.holds Try.pinned (OpenSpec.upto replyBackSpec)

/-- 'warrenerlaw13.ReplyCut', WHERE WHAT IT READS IS OF BULK AT MOST 1048576: true; the input reads as it did. -/
def replyCutUptoRow : OpenClaim := { program := "ytjefddliebokaaa", sum := "c875d746e80d9900566514cef3a934096c946189ae33697e252c6ef585ad7c26", func := "warrener/warrenerlaw13.ReplyCut", spec := "replyCut", apart := false, narrowed := true }
def ReplyCutUptoSaid : Prop := replyCutUptoRow.holds Try.pinned (OpenSpec.upto replyCutSpec)

/-- 'warrenerlaw13.ReplyApart', WHERE WHAT IT READS IS OF BULK AT MOST 1048576: true; the input reads as it did. -/
def replyApartUptoRow : OpenClaim := { program := "ytjefddliebokaaa", sum := "c875d746e80d9900566514cef3a934096c946189ae33697e252c6ef585ad7c26", func := "warrener/warrenerlaw13.ReplyApart", spec := "replyApart", apart := false, narrowed := true }
def ReplyApartUptoSaid : Prop := replyApartUptoRow.holds Try.pinned (OpenSpec.upto replyApartSpec)

/-- 'warrenerlaw13.ReplySizes', WHERE WHAT IT READS IS OF BULK AT MOST 1048576: true; the input reads as it did. -/
def replySizesUptoRow : OpenClaim := { program := "ytjefddliebokaaa", sum := "c875d746e80d9900566514cef3a934096c946189ae33697e252c6ef585ad7c26", func := "warrener/warrenerlaw13.ReplySizes", spec := "replySizes", apart := false, narrowed := true }
def ReplySizesUptoSaid : Prop := replySizesUptoRow.holds Try.pinned (OpenSpec.upto replySizesSpec)

end Rows
end Go.Proofs.Ytjefddliebokaaa
