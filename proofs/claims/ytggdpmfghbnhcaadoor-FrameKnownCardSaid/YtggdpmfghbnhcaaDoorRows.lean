/-
  NARROWER THAN 'FOR EVERY INPUT', by the rows' own cells (each row's printed sentence says how): FrameKnown: laid · FramePlays: laid · FrameParts: laid · FrameBack: laid · FrameTells: laid · FrameDead: laid.
  DERIVED. THE GIVEN ROWS OF THIS SEAT. 6 by the template 'for every input the law returns true; each argument reads behind the call as it read before'; 0 by the template 'total and deterministic' (their statements: YtggdpmfghbnhcaaDoorTotals.lean).
  GIVEN WITH THE SEED: the statements are not yours to turn. If you find one false, say at which input.
  Laid BY PROGRAM, IN A SANDBOX (cutbox-rows.mjs): the forced cells as the released guide's own fill.sh prints them over the translation 4f178977f5158cbe… (all of the seat's roots in one cut). By AI agents, Wed Nov 11 2026. No macro, syntax, notation, axiom, sorry.
-/
import Derived.Test.YtggdpmfghbnhcaaDoorChecked
import GoSem.Claim
import GoSem.ClaimJoined
import GoSem.ClaimMapViews
import Derived.JoinedTies
import Derived.KernelRfl
namespace Go.Proofs.YtggdpmfghbnhcaaDoor
/- THE CELL 'sum', in the pinned program and in every row, IS THE sha256 OF THE DUMP (.gsa) THAT YtggdpmfghbnhcaaDoorProg.lean LOADS. Nothing in Lean hashes anything: it is a label: what it is worth is what the hold of that sum in a sandbox is worth. -/
noncomputable def Tryd.pinned : Pinned := { name := "ytggdpmfghbnhcaadoor", sum := "4f178977f5158cbe4c2720a5ad22671f6ac61ded5ab3d4115cd29d36167fea83", checked := Tryd.checked }
namespace Rows
def none {H : Type} : Left H := { results := [], args := [] }

/- WHAT THE LISTED PACKAGE-LEVEL VARIABLES READ AS WHEN THE CALL BEGINS. Each datum BY PROGRAM (the guide's laid-datum.mjs) off the statement by which the dump's own 'gosem.cut.vars' lays the variable. In a bare row this is a premise. The card (YtggdpmfghbnhcaaDoorCards.lean) ties it to the program's text. -/
def laid_warrener_crc_rests {H : Type} : DataW H := .agg [.lit (.int .u32 0), .lit (.int .u32 498536548), .lit (.int .u32 997073096), .lit (.int .u32 651767980), .lit (.int .u32 1994146192), .lit (.int .u32 1802195444), .lit (.int .u32 1303535960), .lit (.int .u32 1342533948), .lit (.int .u32 3988292384), .lit (.int .u32 4027552580), .lit (.int .u32 3604390888), .lit (.int .u32 3412177804), .lit (.int .u32 2607071920), .lit (.int .u32 2262029012), .lit (.int .u32 2685067896), .lit (.int .u32 3183342108)]

/-- 'warrenerlaw10.FrameKnown': WHATEVER THE INPUT: true; the input reads as it did. -/
def frameKnownSpec : ChangeSpec := { name := "frameKnown", fn := fun _ => fun
  | [] => { results := [.lit (.bool true)], args := [] }
  | _ => none }
def frameKnownRow : OpenClaim := { program := "ytggdpmfghbnhcaadoor", sum := "4f178977f5158cbe4c2720a5ad22671f6ac61ded5ab3d4115cd29d36167fea83", func := "warrener/warrenerlaw10.FrameKnown", spec := "frameKnown", named := ["warrener/crc.rests"], apart := false, laid := [("warrener/crc.rests", laid_warrener_crc_rests)] }
def FrameKnownSaid : Prop := frameKnownRow.holds Tryd.pinned (OpenSpec.ofChange frameKnownSpec)

/-- ITS FALSE NEIGHBOUR: 'it returns false'. Refute it at one input. -/
def frameKnownWrong : ChangeSpec := { name := "frameKnown", fn := fun _ => fun
  | [] => { results := [.lit (.bool false)], args := [] }
  | _ => none }
def FrameKnownWrongFalsely : Prop := frameKnownRow.holds Tryd.pinned (OpenSpec.ofChange frameKnownWrong)

/-- 'warrenerlaw10.FramePlays': WHATEVER THE INPUT: true; the input reads as it did. -/
def framePlaysSpec : ChangeSpec := { name := "framePlays", fn := fun _ => fun
  | [d] => { results := [.lit (.bool true)], args := [d] }
  | _ => none }
def framePlaysRow : OpenClaim := { program := "ytggdpmfghbnhcaadoor", sum := "4f178977f5158cbe4c2720a5ad22671f6ac61ded5ab3d4115cd29d36167fea83", func := "warrener/warrenerlaw10.FramePlays", spec := "framePlays", named := ["warrener/crc.rests"], apart := false, laid := [("warrener/crc.rests", laid_warrener_crc_rests)] }
def FramePlaysSaid : Prop := framePlaysRow.holds Tryd.pinned (OpenSpec.ofChange framePlaysSpec)

/-- ITS FALSE NEIGHBOUR: 'it returns false'. Refute it at one input. -/
def framePlaysWrong : ChangeSpec := { name := "framePlays", fn := fun _ => fun
  | [d] => { results := [.lit (.bool false)], args := [d] }
  | _ => none }
def FramePlaysWrongFalsely : Prop := framePlaysRow.holds Tryd.pinned (OpenSpec.ofChange framePlaysWrong)

/-- 'warrenerlaw10.FrameParts': WHATEVER THE INPUT: true; the input reads as it did. -/
def framePartsSpec : ChangeSpec := { name := "frameParts", fn := fun _ => fun
  | [d1, d2] => { results := [.lit (.bool true)], args := [d1, d2] }
  | _ => none }
def framePartsRow : OpenClaim := { program := "ytggdpmfghbnhcaadoor", sum := "4f178977f5158cbe4c2720a5ad22671f6ac61ded5ab3d4115cd29d36167fea83", func := "warrener/warrenerlaw10.FrameParts", spec := "frameParts", named := ["warrener/crc.rests"], apart := false, laid := [("warrener/crc.rests", laid_warrener_crc_rests)] }
def FramePartsSaid : Prop := framePartsRow.holds Tryd.pinned (OpenSpec.ofChange framePartsSpec)

/-- ITS FALSE NEIGHBOUR: 'it returns false'. Refute it at one input. -/
def framePartsWrong : ChangeSpec := { name := "frameParts", fn := fun _ => fun
  | [d1, d2] => { results := [.lit (.bool false)], args := [d1, d2] }
  | _ => none }
def FramePartsWrongFalsely : Prop := framePartsRow.holds Tryd.pinned (OpenSpec.ofChange framePartsWrong)

/-- 'warrenerlaw10.FrameBack': WHATEVER THE INPUT: true; the input reads as it did. -/
def frameBackSpec : ChangeSpec := { name := "frameBack", fn := fun _ => fun
  | [d] => { results := [.lit (.bool true)], args := [d] }
  | _ => none }
def frameBackRow : OpenClaim := { program := "ytggdpmfghbnhcaadoor", sum := "4f178977f5158cbe4c2720a5ad22671f6ac61ded5ab3d4115cd29d36167fea83", func := "warrener/warrenerlaw10.FrameBack", spec := "frameBack", named := ["warrener/crc.rests"], apart := false, laid := [("warrener/crc.rests", laid_warrener_crc_rests)] }
def FrameBackSaid : Prop := frameBackRow.holds Tryd.pinned (OpenSpec.ofChange frameBackSpec)

/-- ITS FALSE NEIGHBOUR: 'it returns false'. Refute it at one input. -/
def frameBackWrong : ChangeSpec := { name := "frameBack", fn := fun _ => fun
  | [d] => { results := [.lit (.bool false)], args := [d] }
  | _ => none }
def FrameBackWrongFalsely : Prop := frameBackRow.holds Tryd.pinned (OpenSpec.ofChange frameBackWrong)

/-- 'warrenerlaw10.FrameTells': WHATEVER THE INPUT: true; the input reads as it did. -/
def frameTellsSpec : ChangeSpec := { name := "frameTells", fn := fun _ => fun
  | [d1, d2, d3, d4] => { results := [.lit (.bool true)], args := [d1, d2, d3, d4] }
  | _ => none }
def frameTellsRow : OpenClaim := { program := "ytggdpmfghbnhcaadoor", sum := "4f178977f5158cbe4c2720a5ad22671f6ac61ded5ab3d4115cd29d36167fea83", func := "warrener/warrenerlaw10.FrameTells", spec := "frameTells", named := ["warrener/crc.rests"], apart := false, laid := [("warrener/crc.rests", laid_warrener_crc_rests)] }
def FrameTellsSaid : Prop := frameTellsRow.holds Tryd.pinned (OpenSpec.ofChange frameTellsSpec)

/-- ITS FALSE NEIGHBOUR: 'it returns false'. Refute it at one input. -/
def frameTellsWrong : ChangeSpec := { name := "frameTells", fn := fun _ => fun
  | [d1, d2, d3, d4] => { results := [.lit (.bool false)], args := [d1, d2, d3, d4] }
  | _ => none }
def FrameTellsWrongFalsely : Prop := frameTellsRow.holds Tryd.pinned (OpenSpec.ofChange frameTellsWrong)

/-- 'warrenerlaw10.FrameDead': WHATEVER THE INPUT: true; the input reads as it did. -/
def frameDeadSpec : ChangeSpec := { name := "frameDead", fn := fun _ => fun
  | [d1, d2] => { results := [.lit (.bool true)], args := [d1, d2] }
  | _ => none }
def frameDeadRow : OpenClaim := { program := "ytggdpmfghbnhcaadoor", sum := "4f178977f5158cbe4c2720a5ad22671f6ac61ded5ab3d4115cd29d36167fea83", func := "warrener/warrenerlaw10.FrameDead", spec := "frameDead", named := ["warrener/crc.rests"], apart := false, laid := [("warrener/crc.rests", laid_warrener_crc_rests)] }
def FrameDeadSaid : Prop := frameDeadRow.holds Tryd.pinned (OpenSpec.ofChange frameDeadSpec)

/-- ITS FALSE NEIGHBOUR: 'it returns false'. Refute it at one input. -/
def frameDeadWrong : ChangeSpec := { name := "frameDead", fn := fun _ => fun
  | [d1, d2] => { results := [.lit (.bool false)], args := [d1, d2] }
  | _ => none }
def FrameDeadWrongFalsely : Prop := frameDeadRow.holds Tryd.pinned (OpenSpec.ofChange frameDeadWrong)

/- THE SECOND FORM. 'bulk': how many values and letters a reading holds, each counted each time it is reached (what is shared counts as often as it is met; a slice's spare places count too). A statement '..UptoSaid' is the law's where the arguments, and the package variables that the reading takes, are together of bulk at most 1048576: NARROWER than '..Said'. Prove '..Said' where nothing that the law and all that it calls make is longer than what came in: it says more and counts as full. Else prove '..UptoSaid'. A law counts once. -/
mutual
def uptoBulk {H : Type} : DataW H → Nat
  | .lit (.string bytes) => bytes.length + 1
  | .lit _ => 1
  | .nil => 1
  | .ptr d => uptoBulk d + 1
  | .slice elems spare => uptoBulkAll elems + uptoBulkAll spare + 1
  | .agg parts => uptoBulkAll parts + 1
  | .iface _ d => uptoBulk d + 1
  | .map entries => uptoBulkEntries entries + 1
  | .held _ => 1
def uptoBulkAll {H : Type} : List (DataW H) → Nat
  | [] => 0
  | d :: r => uptoBulk d + uptoBulkAll r
def uptoBulkEntries {H : Type} : List (Lit × DataW H) → Nat
  | [] => 0
  | x :: r => uptoBulkEntry x + uptoBulkEntries r
def uptoBulkEntry {H : Type} : Lit × DataW H → Nat
  | (.string bytes, d) => bytes.length + uptoBulk d + 1
  | (_, d) => uptoBulk d + 1
 end
def uptoSmall : (H : Type) → List (DataW H) → Bool := fun _ ds => decide (uptoBulkAll ds ≤ 1048576)
def OpenSpec.upto (s : _root_.Go.ChangeSpec) : _root_.Go.OpenSpec := { _root_.Go.OpenSpec.ofChange s with cond := some uptoSmall }

/-- 'warrenerlaw10.FrameKnown', WHERE WHAT IT READS IS OF BULK AT MOST 1048576: true; the input reads as it did. -/
def frameKnownUptoRow : OpenClaim := { program := "ytggdpmfghbnhcaadoor", sum := "4f178977f5158cbe4c2720a5ad22671f6ac61ded5ab3d4115cd29d36167fea83", func := "warrener/warrenerlaw10.FrameKnown", spec := "frameKnown", named := ["warrener/crc.rests"], apart := false, laid := [("warrener/crc.rests", laid_warrener_crc_rests)], narrowed := true }
def FrameKnownUptoSaid : Prop := frameKnownUptoRow.holds Tryd.pinned (OpenSpec.upto frameKnownSpec)

/-- 'warrenerlaw10.FramePlays', WHERE WHAT IT READS IS OF BULK AT MOST 1048576: true; the input reads as it did. -/
def framePlaysUptoRow : OpenClaim := { program := "ytggdpmfghbnhcaadoor", sum := "4f178977f5158cbe4c2720a5ad22671f6ac61ded5ab3d4115cd29d36167fea83", func := "warrener/warrenerlaw10.FramePlays", spec := "framePlays", named := ["warrener/crc.rests"], apart := false, laid := [("warrener/crc.rests", laid_warrener_crc_rests)], narrowed := true }
def FramePlaysUptoSaid : Prop := framePlaysUptoRow.holds Tryd.pinned (OpenSpec.upto framePlaysSpec)

/-- 'warrenerlaw10.FrameParts', WHERE WHAT IT READS IS OF BULK AT MOST 1048576: true; the input reads as it did. -/
def framePartsUptoRow : OpenClaim := { program := "ytggdpmfghbnhcaadoor", sum := "4f178977f5158cbe4c2720a5ad22671f6ac61ded5ab3d4115cd29d36167fea83", func := "warrener/warrenerlaw10.FrameParts", spec := "frameParts", named := ["warrener/crc.rests"], apart := false, laid := [("warrener/crc.rests", laid_warrener_crc_rests)], narrowed := true }
def FramePartsUptoSaid : Prop := framePartsUptoRow.holds Tryd.pinned (OpenSpec.upto framePartsSpec)

/-- 'warrenerlaw10.FrameBack', WHERE WHAT IT READS IS OF BULK AT MOST 1048576: true; the input reads as it did. -/
def frameBackUptoRow : OpenClaim := { program := "ytggdpmfghbnhcaadoor", sum := "4f178977f5158cbe4c2720a5ad22671f6ac61ded5ab3d4115cd29d36167fea83", func := "warrener/warrenerlaw10.FrameBack", spec := "frameBack", named := ["warrener/crc.rests"], apart := false, laid := [("warrener/crc.rests", laid_warrener_crc_rests)], narrowed := true }
def FrameBackUptoSaid : Prop := frameBackUptoRow.holds Tryd.pinned (OpenSpec.upto frameBackSpec)

/-- 'warrenerlaw10.FrameTells', WHERE WHAT IT READS IS OF BULK AT MOST 1048576: true; the input reads as it did. -/
def frameTellsUptoRow : OpenClaim := { program := "ytggdpmfghbnhcaadoor", sum := "4f178977f5158cbe4c2720a5ad22671f6ac61ded5ab3d4115cd29d36167fea83", func := "warrener/warrenerlaw10.FrameTells", spec := "frameTells", named := ["warrener/crc.rests"], apart := false, laid := [("warrener/crc.rests", laid_warrener_crc_rests)], narrowed := true }
def FrameTellsUptoSaid : Prop := frameTellsUptoRow.holds Tryd.pinned (OpenSpec.upto frameTellsSpec)

/-- 'warrenerlaw10.FrameDead', WHERE WHAT IT READS IS OF BULK AT MOST 1048576: true; the input reads as it did. -/
def frameDeadUptoRow : OpenClaim := { program := "ytggdpmfghbnhcaadoor", sum := "4f178977f5158cbe4c2720a5ad22671f6ac61ded5ab3d4115cd29d36167fea83", func := "warrener/warrenerlaw10.FrameDead", spec := "frameDead", named := ["warrener/crc.rests"], apart := false, laid := [("warrener/crc.rests", laid_warrener_crc_rests)], narrowed := true }
def FrameDeadUptoSaid : Prop := frameDeadUptoRow.holds Tryd.pinned (OpenSpec.upto frameDeadSpec)

end Rows
end Go.Proofs.YtggdpmfghbnhcaaDoor
