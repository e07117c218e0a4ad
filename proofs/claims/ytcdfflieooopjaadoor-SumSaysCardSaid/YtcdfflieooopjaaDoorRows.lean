/-
  NARROWER THAN 'FOR EVERY INPUT', by the rows' own cells (each row's printed sentence says how): SumKnown: laid · SumSays: laid · SumParts: laid · SumTexts: laid · MacKnown: laid · MacSays: laid · MacTurned: laid · MacParts: laid · MacSame: laid · CrcKnown: laid · CrcSays: laid · CrcTells: laid · CrcOn: laid · CrcLinear: laid.
  DERIVED. THE GIVEN ROWS OF THIS SEAT. 14 by the template 'for every input the law returns true; each argument reads behind the call as it read before'; 0 by the template 'total and deterministic' (their statements: YtcdfflieooopjaaDoorTotals.lean).
  GIVEN WITH THE SEED: the statements are not yours to turn. If you find one false, say at which input.
  Laid BY PROGRAM, IN A SANDBOX (cutbox-rows.mjs): the forced cells as the released guide's own fill.sh prints them over the translation 6e3aaf73fba04a58… (all of the seat's roots in one cut). By AI agents, Wed Nov 11 2026. No macro, syntax, notation, axiom, sorry.
-/
import Derived.Test.YtcdfflieooopjaaDoorChecked
import GoSem.Claim
import GoSem.ClaimJoined
import GoSem.ClaimMapViews
import Derived.JoinedTies
import Derived.KernelRfl
namespace Go.Proofs.YtcdfflieooopjaaDoor
/- THE CELL 'sum', in the pinned program and in every row, IS THE sha256 OF THE DUMP (.gsa) THAT YtcdfflieooopjaaDoorProg.lean LOADS. Nothing in Lean hashes anything: it is a label: what it is worth is what the hold of that sum in a sandbox is worth. -/
noncomputable def Tryd.pinned : Pinned := { name := "ytcdfflieooopjaadoor", sum := "6e3aaf73fba04a587ec47881f05fbbe34133f0237a99d133e0301e0181311cfa", checked := Tryd.checked }
namespace Rows
def none {H : Type} : Left H := { results := [], args := [] }

/- WHAT THE LISTED PACKAGE-LEVEL VARIABLES READ AS WHEN THE CALL BEGINS. Each datum BY PROGRAM (the guide's laid-datum.mjs) off the statement by which the dump's own 'gosem.cut.vars' lays the variable. In a bare row this is a premise. The card (YtcdfflieooopjaaDoorCards.lean) ties it to the program's text. -/
def laid_warrener_sum_rounds {H : Type} : DataW H := .agg [.lit (.int .u32 1116352408), .lit (.int .u32 1899447441), .lit (.int .u32 3049323471), .lit (.int .u32 3921009573), .lit (.int .u32 961987163), .lit (.int .u32 1508970993), .lit (.int .u32 2453635748), .lit (.int .u32 2870763221), .lit (.int .u32 3624381080), .lit (.int .u32 310598401), .lit (.int .u32 607225278), .lit (.int .u32 1426881987), .lit (.int .u32 1925078388), .lit (.int .u32 2162078206), .lit (.int .u32 2614888103), .lit (.int .u32 3248222580), .lit (.int .u32 3835390401), .lit (.int .u32 4022224774), .lit (.int .u32 264347078), .lit (.int .u32 604807628), .lit (.int .u32 770255983), .lit (.int .u32 1249150122), .lit (.int .u32 1555081692), .lit (.int .u32 1996064986), .lit (.int .u32 2554220882), .lit (.int .u32 2821834349), .lit (.int .u32 2952996808), .lit (.int .u32 3210313671), .lit (.int .u32 3336571891), .lit (.int .u32 3584528711), .lit (.int .u32 113926993), .lit (.int .u32 338241895), .lit (.int .u32 666307205), .lit (.int .u32 773529912), .lit (.int .u32 1294757372), .lit (.int .u32 1396182291), .lit (.int .u32 1695183700), .lit (.int .u32 1986661051), .lit (.int .u32 2177026350), .lit (.int .u32 2456956037), .lit (.int .u32 2730485921), .lit (.int .u32 2820302411), .lit (.int .u32 3259730800), .lit (.int .u32 3345764771), .lit (.int .u32 3516065817), .lit (.int .u32 3600352804), .lit (.int .u32 4094571909), .lit (.int .u32 275423344), .lit (.int .u32 430227734), .lit (.int .u32 506948616), .lit (.int .u32 659060556), .lit (.int .u32 883997877), .lit (.int .u32 958139571), .lit (.int .u32 1322822218), .lit (.int .u32 1537002063), .lit (.int .u32 1747873779), .lit (.int .u32 1955562222), .lit (.int .u32 2024104815), .lit (.int .u32 2227730452), .lit (.int .u32 2361852424), .lit (.int .u32 2428436474), .lit (.int .u32 2756734187), .lit (.int .u32 3204031479), .lit (.int .u32 3329325298)]
def laid_warrener_crc_rests {H : Type} : DataW H := .agg [.lit (.int .u32 0), .lit (.int .u32 498536548), .lit (.int .u32 997073096), .lit (.int .u32 651767980), .lit (.int .u32 1994146192), .lit (.int .u32 1802195444), .lit (.int .u32 1303535960), .lit (.int .u32 1342533948), .lit (.int .u32 3988292384), .lit (.int .u32 4027552580), .lit (.int .u32 3604390888), .lit (.int .u32 3412177804), .lit (.int .u32 2607071920), .lit (.int .u32 2262029012), .lit (.int .u32 2685067896), .lit (.int .u32 3183342108)]

/-- 'warrenerlaw1.SumKnown': WHATEVER THE INPUT: true; the input reads as it did. -/
def sumKnownSpec : ChangeSpec := { name := "sumKnown", fn := fun _ => fun
  | [] => { results := [.lit (.bool true)], args := [] }
  | _ => none }
def sumKnownRow : OpenClaim := { program := "ytcdfflieooopjaadoor", sum := "6e3aaf73fba04a587ec47881f05fbbe34133f0237a99d133e0301e0181311cfa", func := "warrener/warrenerlaw1.SumKnown", spec := "sumKnown", named := ["warrener/sum.rounds"], apart := false, laid := [("warrener/sum.rounds", laid_warrener_sum_rounds)] }
def SumKnownSaid : Prop := sumKnownRow.holds Tryd.pinned (OpenSpec.ofChange sumKnownSpec)

/-- ITS FALSE NEIGHBOUR: 'it returns false'. Refute it at one input. -/
def sumKnownWrong : ChangeSpec := { name := "sumKnown", fn := fun _ => fun
  | [] => { results := [.lit (.bool false)], args := [] }
  | _ => none }
def SumKnownWrongFalsely : Prop := sumKnownRow.holds Tryd.pinned (OpenSpec.ofChange sumKnownWrong)

/-- 'warrenerlaw1.SumSays': WHATEVER THE INPUT: true; the input reads as it did. -/
def sumSaysSpec : ChangeSpec := { name := "sumSays", fn := fun _ => fun
  | [d1, d2, d3, d4] => { results := [.lit (.bool true)], args := [d1, d2, d3, d4] }
  | _ => none }
def sumSaysRow : OpenClaim := { program := "ytcdfflieooopjaadoor", sum := "6e3aaf73fba04a587ec47881f05fbbe34133f0237a99d133e0301e0181311cfa", func := "warrener/warrenerlaw1.SumSays", spec := "sumSays", named := ["warrener/sum.rounds"], apart := false, laid := [("warrener/sum.rounds", laid_warrener_sum_rounds)] }
def SumSaysSaid : Prop := sumSaysRow.holds Tryd.pinned (OpenSpec.ofChange sumSaysSpec)

/-- ITS FALSE NEIGHBOUR: 'it returns false'. Refute it at one input. -/
def sumSaysWrong : ChangeSpec := { name := "sumSays", fn := fun _ => fun
  | [d1, d2, d3, d4] => { results := [.lit (.bool false)], args := [d1, d2, d3, d4] }
  | _ => none }
def SumSaysWrongFalsely : Prop := sumSaysRow.holds Tryd.pinned (OpenSpec.ofChange sumSaysWrong)

/-- 'warrenerlaw1.SumParts': WHATEVER THE INPUT: true; the input reads as it did. -/
def sumPartsSpec : ChangeSpec := { name := "sumParts", fn := fun _ => fun
  | [d1, d2] => { results := [.lit (.bool true)], args := [d1, d2] }
  | _ => none }
def sumPartsRow : OpenClaim := { program := "ytcdfflieooopjaadoor", sum := "6e3aaf73fba04a587ec47881f05fbbe34133f0237a99d133e0301e0181311cfa", func := "warrener/warrenerlaw1.SumParts", spec := "sumParts", named := ["warrener/sum.rounds"], apart := false, laid := [("warrener/sum.rounds", laid_warrener_sum_rounds)] }
def SumPartsSaid : Prop := sumPartsRow.holds Tryd.pinned (OpenSpec.ofChange sumPartsSpec)

/-- ITS FALSE NEIGHBOUR: 'it returns false'. Refute it at one input. -/
def sumPartsWrong : ChangeSpec := { name := "sumParts", fn := fun _ => fun
  | [d1, d2] => { results := [.lit (.bool false)], args := [d1, d2] }
  | _ => none }
def SumPartsWrongFalsely : Prop := sumPartsRow.holds Tryd.pinned (OpenSpec.ofChange sumPartsWrong)

/-- 'warrenerlaw1.SumTexts': WHATEVER THE INPUT: true; the input reads as it did. -/
def sumTextsSpec : ChangeSpec := { name := "sumTexts", fn := fun _ => fun
  | [d1, d2, d3] => { results := [.lit (.bool true)], args := [d1, d2, d3] }
  | _ => none }
def sumTextsRow : OpenClaim := { program := "ytcdfflieooopjaadoor", sum := "6e3aaf73fba04a587ec47881f05fbbe34133f0237a99d133e0301e0181311cfa", func := "warrener/warrenerlaw1.SumTexts", spec := "sumTexts", named := ["warrener/sum.rounds"], apart := false, laid := [("warrener/sum.rounds", laid_warrener_sum_rounds)] }
def SumTextsSaid : Prop := sumTextsRow.holds Tryd.pinned (OpenSpec.ofChange sumTextsSpec)

/-- ITS FALSE NEIGHBOUR: 'it returns false'. Refute it at one input. -/
def sumTextsWrong : ChangeSpec := { name := "sumTexts", fn := fun _ => fun
  | [d1, d2, d3] => { results := [.lit (.bool false)], args := [d1, d2, d3] }
  | _ => none }
def SumTextsWrongFalsely : Prop := sumTextsRow.holds Tryd.pinned (OpenSpec.ofChange sumTextsWrong)

/-- 'warrenerlaw2.MacKnown': WHATEVER THE INPUT: true; the input reads as it did. -/
def macKnownSpec : ChangeSpec := { name := "macKnown", fn := fun _ => fun
  | [] => { results := [.lit (.bool true)], args := [] }
  | _ => none }
def macKnownRow : OpenClaim := { program := "ytcdfflieooopjaadoor", sum := "6e3aaf73fba04a587ec47881f05fbbe34133f0237a99d133e0301e0181311cfa", func := "warrener/warrenerlaw2.MacKnown", spec := "macKnown", named := ["warrener/sum.rounds"], apart := false, laid := [("warrener/sum.rounds", laid_warrener_sum_rounds)] }
def MacKnownSaid : Prop := macKnownRow.holds Tryd.pinned (OpenSpec.ofChange macKnownSpec)

/-- ITS FALSE NEIGHBOUR: 'it returns false'. Refute it at one input. -/
def macKnownWrong : ChangeSpec := { name := "macKnown", fn := fun _ => fun
  | [] => { results := [.lit (.bool false)], args := [] }
  | _ => none }
def MacKnownWrongFalsely : Prop := macKnownRow.holds Tryd.pinned (OpenSpec.ofChange macKnownWrong)

/-- 'warrenerlaw2.MacSays': WHATEVER THE INPUT: true; the input reads as it did. -/
def macSaysSpec : ChangeSpec := { name := "macSays", fn := fun _ => fun
  | [d1, d2, d3, d4] => { results := [.lit (.bool true)], args := [d1, d2, d3, d4] }
  | _ => none }
def macSaysRow : OpenClaim := { program := "ytcdfflieooopjaadoor", sum := "6e3aaf73fba04a587ec47881f05fbbe34133f0237a99d133e0301e0181311cfa", func := "warrener/warrenerlaw2.MacSays", spec := "macSays", named := ["warrener/sum.rounds"], apart := false, laid := [("warrener/sum.rounds", laid_warrener_sum_rounds)] }
def MacSaysSaid : Prop := macSaysRow.holds Tryd.pinned (OpenSpec.ofChange macSaysSpec)

/-- ITS FALSE NEIGHBOUR: 'it returns false'. Refute it at one input. -/
def macSaysWrong : ChangeSpec := { name := "macSays", fn := fun _ => fun
  | [d1, d2, d3, d4] => { results := [.lit (.bool false)], args := [d1, d2, d3, d4] }
  | _ => none }
def MacSaysWrongFalsely : Prop := macSaysRow.holds Tryd.pinned (OpenSpec.ofChange macSaysWrong)

/-- 'warrenerlaw2.MacTurned': WHATEVER THE INPUT: true; the input reads as it did. -/
def macTurnedSpec : ChangeSpec := { name := "macTurned", fn := fun _ => fun
  | [d1, d2, d3] => { results := [.lit (.bool true)], args := [d1, d2, d3] }
  | _ => none }
def macTurnedRow : OpenClaim := { program := "ytcdfflieooopjaadoor", sum := "6e3aaf73fba04a587ec47881f05fbbe34133f0237a99d133e0301e0181311cfa", func := "warrener/warrenerlaw2.MacTurned", spec := "macTurned", named := ["warrener/sum.rounds"], apart := false, laid := [("warrener/sum.rounds", laid_warrener_sum_rounds)] }
def MacTurnedSaid : Prop := macTurnedRow.holds Tryd.pinned (OpenSpec.ofChange macTurnedSpec)

/-- ITS FALSE NEIGHBOUR: 'it returns false'. Refute it at one input. -/
def macTurnedWrong : ChangeSpec := { name := "macTurned", fn := fun _ => fun
  | [d1, d2, d3] => { results := [.lit (.bool false)], args := [d1, d2, d3] }
  | _ => none }
def MacTurnedWrongFalsely : Prop := macTurnedRow.holds Tryd.pinned (OpenSpec.ofChange macTurnedWrong)

/-- 'warrenerlaw2.MacParts': WHATEVER THE INPUT: true; the input reads as it did. -/
def macPartsSpec : ChangeSpec := { name := "macParts", fn := fun _ => fun
  | [d1, d2, d3, d4] => { results := [.lit (.bool true)], args := [d1, d2, d3, d4] }
  | _ => none }
def macPartsRow : OpenClaim := { program := "ytcdfflieooopjaadoor", sum := "6e3aaf73fba04a587ec47881f05fbbe34133f0237a99d133e0301e0181311cfa", func := "warrener/warrenerlaw2.MacParts", spec := "macParts", named := ["warrener/sum.rounds"], apart := false, laid := [("warrener/sum.rounds", laid_warrener_sum_rounds)] }
def MacPartsSaid : Prop := macPartsRow.holds Tryd.pinned (OpenSpec.ofChange macPartsSpec)

/-- ITS FALSE NEIGHBOUR: 'it returns false'. Refute it at one input. -/
def macPartsWrong : ChangeSpec := { name := "macParts", fn := fun _ => fun
  | [d1, d2, d3, d4] => { results := [.lit (.bool false)], args := [d1, d2, d3, d4] }
  | _ => none }
def MacPartsWrongFalsely : Prop := macPartsRow.holds Tryd.pinned (OpenSpec.ofChange macPartsWrong)

/-- 'warrenerlaw2.MacSame': WHATEVER THE INPUT: true; the input reads as it did. -/
def macSameSpec : ChangeSpec := { name := "macSame", fn := fun _ => fun
  | [d1, d2, d3, d4] => { results := [.lit (.bool true)], args := [d1, d2, d3, d4] }
  | _ => none }
def macSameRow : OpenClaim := { program := "ytcdfflieooopjaadoor", sum := "6e3aaf73fba04a587ec47881f05fbbe34133f0237a99d133e0301e0181311cfa", func := "warrener/warrenerlaw2.MacSame", spec := "macSame", named := ["warrener/sum.rounds"], apart := false, laid := [("warrener/sum.rounds", laid_warrener_sum_rounds)] }
def MacSameSaid : Prop := macSameRow.holds Tryd.pinned (OpenSpec.ofChange macSameSpec)

/-- ITS FALSE NEIGHBOUR: 'it returns false'. Refute it at one input. -/
def macSameWrong : ChangeSpec := { name := "macSame", fn := fun _ => fun
  | [d1, d2, d3, d4] => { results := [.lit (.bool false)], args := [d1, d2, d3, d4] }
  | _ => none }
def MacSameWrongFalsely : Prop := macSameRow.holds Tryd.pinned (OpenSpec.ofChange macSameWrong)

/-- 'warrenerlaw3.CrcKnown': WHATEVER THE INPUT: true; the input reads as it did. -/
def crcKnownSpec : ChangeSpec := { name := "crcKnown", fn := fun _ => fun
  | [] => { results := [.lit (.bool true)], args := [] }
  | _ => none }
def crcKnownRow : OpenClaim := { program := "ytcdfflieooopjaadoor", sum := "6e3aaf73fba04a587ec47881f05fbbe34133f0237a99d133e0301e0181311cfa", func := "warrener/warrenerlaw3.CrcKnown", spec := "crcKnown", named := ["warrener/crc.rests"], apart := false, laid := [("warrener/crc.rests", laid_warrener_crc_rests)] }
def CrcKnownSaid : Prop := crcKnownRow.holds Tryd.pinned (OpenSpec.ofChange crcKnownSpec)

/-- ITS FALSE NEIGHBOUR: 'it returns false'. Refute it at one input. -/
def crcKnownWrong : ChangeSpec := { name := "crcKnown", fn := fun _ => fun
  | [] => { results := [.lit (.bool false)], args := [] }
  | _ => none }
def CrcKnownWrongFalsely : Prop := crcKnownRow.holds Tryd.pinned (OpenSpec.ofChange crcKnownWrong)

/-- 'warrenerlaw3.CrcSays': WHATEVER THE INPUT: true; the input reads as it did. -/
def crcSaysSpec : ChangeSpec := { name := "crcSays", fn := fun _ => fun
  | [d1, d2, d3] => { results := [.lit (.bool true)], args := [d1, d2, d3] }
  | _ => none }
def crcSaysRow : OpenClaim := { program := "ytcdfflieooopjaadoor", sum := "6e3aaf73fba04a587ec47881f05fbbe34133f0237a99d133e0301e0181311cfa", func := "warrener/warrenerlaw3.CrcSays", spec := "crcSays", named := ["warrener/crc.rests"], apart := false, laid := [("warrener/crc.rests", laid_warrener_crc_rests)] }
def CrcSaysSaid : Prop := crcSaysRow.holds Tryd.pinned (OpenSpec.ofChange crcSaysSpec)

/-- ITS FALSE NEIGHBOUR: 'it returns false'. Refute it at one input. -/
def crcSaysWrong : ChangeSpec := { name := "crcSays", fn := fun _ => fun
  | [d1, d2, d3] => { results := [.lit (.bool false)], args := [d1, d2, d3] }
  | _ => none }
def CrcSaysWrongFalsely : Prop := crcSaysRow.holds Tryd.pinned (OpenSpec.ofChange crcSaysWrong)

/-- 'warrenerlaw3.CrcTells': WHATEVER THE INPUT: true; the input reads as it did. -/
def crcTellsSpec : ChangeSpec := { name := "crcTells", fn := fun _ => fun
  | [d1, d2, d3] => { results := [.lit (.bool true)], args := [d1, d2, d3] }
  | _ => none }
def crcTellsRow : OpenClaim := { program := "ytcdfflieooopjaadoor", sum := "6e3aaf73fba04a587ec47881f05fbbe34133f0237a99d133e0301e0181311cfa", func := "warrener/warrenerlaw3.CrcTells", spec := "crcTells", named := ["warrener/crc.rests"], apart := false, laid := [("warrener/crc.rests", laid_warrener_crc_rests)] }
def CrcTellsSaid : Prop := crcTellsRow.holds Tryd.pinned (OpenSpec.ofChange crcTellsSpec)

/-- ITS FALSE NEIGHBOUR: 'it returns false'. Refute it at one input. -/
def crcTellsWrong : ChangeSpec := { name := "crcTells", fn := fun _ => fun
  | [d1, d2, d3] => { results := [.lit (.bool false)], args := [d1, d2, d3] }
  | _ => none }
def CrcTellsWrongFalsely : Prop := crcTellsRow.holds Tryd.pinned (OpenSpec.ofChange crcTellsWrong)

/-- 'warrenerlaw3.CrcOn': WHATEVER THE INPUT: true; the input reads as it did. -/
def crcOnSpec : ChangeSpec := { name := "crcOn", fn := fun _ => fun
  | [d] => { results := [.lit (.bool true)], args := [d] }
  | _ => none }
def crcOnRow : OpenClaim := { program := "ytcdfflieooopjaadoor", sum := "6e3aaf73fba04a587ec47881f05fbbe34133f0237a99d133e0301e0181311cfa", func := "warrener/warrenerlaw3.CrcOn", spec := "crcOn", named := ["warrener/crc.rests"], apart := false, laid := [("warrener/crc.rests", laid_warrener_crc_rests)] }
def CrcOnSaid : Prop := crcOnRow.holds Tryd.pinned (OpenSpec.ofChange crcOnSpec)

/-- ITS FALSE NEIGHBOUR: 'it returns false'. Refute it at one input. -/
def crcOnWrong : ChangeSpec := { name := "crcOn", fn := fun _ => fun
  | [d] => { results := [.lit (.bool false)], args := [d] }
  | _ => none }
def CrcOnWrongFalsely : Prop := crcOnRow.holds Tryd.pinned (OpenSpec.ofChange crcOnWrong)

/-- 'warrenerlaw3.CrcLinear': WHATEVER THE INPUT: true; the input reads as it did. -/
def crcLinearSpec : ChangeSpec := { name := "crcLinear", fn := fun _ => fun
  | [d1, d2, d3] => { results := [.lit (.bool true)], args := [d1, d2, d3] }
  | _ => none }
def crcLinearRow : OpenClaim := { program := "ytcdfflieooopjaadoor", sum := "6e3aaf73fba04a587ec47881f05fbbe34133f0237a99d133e0301e0181311cfa", func := "warrener/warrenerlaw3.CrcLinear", spec := "crcLinear", named := ["warrener/crc.rests"], apart := false, laid := [("warrener/crc.rests", laid_warrener_crc_rests)] }
def CrcLinearSaid : Prop := crcLinearRow.holds Tryd.pinned (OpenSpec.ofChange crcLinearSpec)

/-- ITS FALSE NEIGHBOUR: 'it returns false'. Refute it at one input. -/
def crcLinearWrong : ChangeSpec := { name := "crcLinear", fn := fun _ => fun
  | [d1, d2, d3] => { results := [.lit (.bool false)], args := [d1, d2, d3] }
  | _ => none }
def CrcLinearWrongFalsely : Prop := crcLinearRow.holds Tryd.pinned (OpenSpec.ofChange crcLinearWrong)

/- THE SECOND FORM. 'bulk': how many values and letters a reading holds, each counted each time it is reached (what is shared counts as often as it is met; a slice's spare places count too). A statement '..UptoSaid' is the law's where the arguments, and the package variables that the reading takes, are together of bulk at most 1048576: NARROWER than '..Said'. Prove '..Said' where nothing that the law and all that it calls make is longer than what came in: it says more and counts as full. Else prove '..UptoSaid'. A law counts once. -/
mutual
def uptoBulk {H : Type} : DataW H → Nat
  | .lit (.string bytes) => bytes.length + 1
  | .lit _ => 1
  | .nil => 1
  | .ptr d => uptoBulk d + 1
  | .slice elems spare => uptoBulkAll elems + uptoBulkAll spare + 1
  | .agg parts => uptoBulkAll parts + 1
  | .iface _ d => uptoBulk d + 1
  | .map entries => uptoBulkEntries entries + 1
  | .held _ => 1
def uptoBulkAll {H : Type} : List (DataW H) → Nat
  | [] => 0
  | d :: r => uptoBulk d + uptoBulkAll r
def uptoBulkEntries {H : Type} : List (Lit × DataW H) → Nat
  | [] => 0
  | x :: r => uptoBulkEntry x + uptoBulkEntries r
def uptoBulkEntry {H : Type} : Lit × DataW H → Nat
  | (.string bytes, d) => bytes.length + uptoBulk d + 1
  | (_, d) => uptoBulk d + 1
 end
def uptoSmall : (H : Type) → List (DataW H) → Bool := fun _ ds => decide (uptoBulkAll ds ≤ 1048576)
def OpenSpec.upto (s : _root_.Go.ChangeSpec) : _root_.Go.OpenSpec := { _root_.Go.OpenSpec.ofChange s with cond := some uptoSmall }

/-- 'warrenerlaw1.SumKnown', WHERE WHAT IT READS IS OF BULK AT MOST 1048576: true; the input reads as it did. -/
def sumKnownUptoRow : OpenClaim := { program := "ytcdfflieooopjaadoor", sum := "6e3aaf73fba04a587ec47881f05fbbe34133f0237a99d133e0301e0181311cfa", func := "warrener/warrenerlaw1.SumKnown", spec := "sumKnown", named := ["warrener/sum.rounds"], apart := false, laid := [("warrener/sum.rounds", laid_warrener_sum_rounds)], narrowed := true }
def SumKnownUptoSaid : Prop := sumKnownUptoRow.holds Tryd.pinned (OpenSpec.upto sumKnownSpec)

/-- 'warrenerlaw1.SumSays', WHERE WHAT IT READS IS OF BULK AT MOST 1048576: true; the input reads as it did. -/
def sumSaysUptoRow : OpenClaim := { program := "ytcdfflieooopjaadoor", sum := "6e3aaf73fba04a587ec47881f05fbbe34133f0237a99d133e0301e0181311cfa", func := "warrener/warrenerlaw1.SumSays", spec := "sumSays", named := ["warrener/sum.rounds"], apart := false, laid := [("warrener/sum.rounds", laid_warrener_sum_rounds)], narrowed := true }
def SumSaysUptoSaid : Prop := sumSaysUptoRow.holds Tryd.pinned (OpenSpec.upto sumSaysSpec)

/-- 'warrenerlaw1.SumParts', WHERE WHAT IT READS IS OF BULK AT MOST 1048576: true; the input reads as it did. -/
def sumPartsUptoRow : OpenClaim := { program := "ytcdfflieooopjaadoor", sum := "6e3aaf73fba04a587ec47881f05fbbe34133f0237a99d133e0301e0181311cfa", func := "warrener/warrenerlaw1.SumParts", spec := "sumParts", named := ["warrener/sum.rounds"], apart := false, laid := [("warrener/sum.rounds", laid_warrener_sum_rounds)], narrowed := true }
def SumPartsUptoSaid : Prop := sumPartsUptoRow.holds Tryd.pinned (OpenSpec.upto sumPartsSpec)

/-- 'warrenerlaw1.SumTexts', WHERE WHAT IT READS IS OF BULK AT MOST 1048576: true; the input reads as it did. -/
def sumTextsUptoRow : OpenClaim := { program := "ytcdfflieooopjaadoor", sum := "6e3aaf73fba04a587ec47881f05fbbe34133f0237a99d133e0301e0181311cfa", func := "warrener/warrenerlaw1.SumTexts", spec := "sumTexts", named := ["warrener/sum.rounds"], apart := false, laid := [("warrener/sum.rounds", laid_warrener_sum_rounds)], narrowed := true }
def SumTextsUptoSaid : Prop := sumTextsUptoRow.holds Tryd.pinned (OpenSpec.upto sumTextsSpec)

/-- 'warrenerlaw2.MacKnown', WHERE WHAT IT READS IS OF BULK AT MOST 1048576: true; the input reads as it did. -/
def macKnownUptoRow : OpenClaim := { program := "ytcdfflieooopjaadoor", sum := "6e3aaf73fba04a587ec47881f05fbbe34133f0237a99d133e0301e0181311cfa", func := "warrener/warrenerlaw2.MacKnown", spec := "macKnown", named := ["warrener/sum.rounds"], apart := false, laid := [("warrener/sum.rounds", laid_warrener_sum_rounds)], narrowed := true }
def MacKnownUptoSaid : Prop := macKnownUptoRow.holds Tryd.pinned (OpenSpec.upto macKnownSpec)

/-- 'warrenerlaw2.MacSays', WHERE WHAT IT READS IS OF BULK AT MOST 1048576: true; the input reads as it did. -/
def macSaysUptoRow : OpenClaim := { program := "ytcdfflieooopjaadoor", sum := "6e3aaf73fba04a587ec47881f05fbbe34133f0237a99d133e0301e0181311cfa", func := "warrener/warrenerlaw2.MacSays", spec := "macSays", named := ["warrener/sum.rounds"], apart := false, laid := [("warrener/sum.rounds", laid_warrener_sum_rounds)], narrowed := true }
def MacSaysUptoSaid : Prop := macSaysUptoRow.holds Tryd.pinned (OpenSpec.upto macSaysSpec)

/-- 'warrenerlaw2.MacTurned', WHERE WHAT IT READS IS OF BULK AT MOST 1048576: true; the input reads as it did. -/
def macTurnedUptoRow : OpenClaim := { program := "ytcdfflieooopjaadoor", sum := "6e3aaf73fba04a587ec47881f05fbbe34133f0237a99d133e0301e0181311cfa", func := "warrener/warrenerlaw2.MacTurned", spec := "macTurned", named := ["warrener/sum.rounds"], apart := false, laid := [("warrener/sum.rounds", laid_warrener_sum_rounds)], narrowed := true }
def MacTurnedUptoSaid : Prop := macTurnedUptoRow.holds Tryd.pinned (OpenSpec.upto macTurnedSpec)

/-- 'warrenerlaw2.MacParts', WHERE WHAT IT READS IS OF BULK AT MOST 1048576: true; the input reads as it did. -/
def macPartsUptoRow : OpenClaim := { program := "ytcdfflieooopjaadoor", sum := "6e3aaf73fba04a587ec47881f05fbbe34133f0237a99d133e0301e0181311cfa", func := "warrener/warrenerlaw2.MacParts", spec := "macParts", named := ["warrener/sum.rounds"], apart := false, laid := [("warrener/sum.rounds", laid_warrener_sum_rounds)], narrowed := true }
def MacPartsUptoSaid : Prop := macPartsUptoRow.holds Tryd.pinned (OpenSpec.upto macPartsSpec)

/-- 'warrenerlaw2.MacSame', WHERE WHAT IT READS IS OF BULK AT MOST 1048576: true; the input reads as it did. -/
def macSameUptoRow : OpenClaim := { program := "ytcdfflieooopjaadoor", sum := "6e3aaf73fba04a587ec47881f05fbbe34133f0237a99d133e0301e0181311cfa", func := "warrener/warrenerlaw2.MacSame", spec := "macSame", named := ["warrener/sum.rounds"], apart := false, laid := [("warrener/sum.rounds", laid_warrener_sum_rounds)], narrowed := true }
def MacSameUptoSaid : Prop := macSameUptoRow.holds Tryd.pinned (OpenSpec.upto macSameSpec)

/-- 'warrenerlaw3.CrcKnown', WHERE WHAT IT READS IS OF BULK AT MOST 1048576: true; the input reads as it did. -/
def crcKnownUptoRow : OpenClaim := { program := "ytcdfflieooopjaadoor", sum := "6e3aaf73fba04a587ec47881f05fbbe34133f0237a99d133e0301e0181311cfa", func := "warrener/warrenerlaw3.CrcKnown", spec := "crcKnown", named := ["warrener/crc.rests"], apart := false, laid := [("warrener/crc.rests", laid_warrener_crc_rests)], narrowed := true }
def CrcKnownUptoSaid : Prop := crcKnownUptoRow.holds Tryd.pinned (OpenSpec.upto crcKnownSpec)

/-- 'warrenerlaw3.CrcSays', WHERE WHAT IT READS IS OF BULK AT MOST 1048576: true; the input reads as it did. -/
def crcSaysUptoRow : OpenClaim := { program := "ytcdfflieooopjaadoor", sum := "6e3aaf73fba04a587ec47881f05fbbe34133f0237a99d133e0301e0181311cfa", func := "warrener/warrenerlaw3.CrcSays", spec := "crcSays", named := ["warrener/crc.rests"], apart := false, laid := [("warrener/crc.rests", laid_warrener_crc_rests)], narrowed := true }
def CrcSaysUptoSaid : Prop := crcSaysUptoRow.holds Tryd.pinned (OpenSpec.upto crcSaysSpec)

/-- 'warrenerlaw3.CrcTells', WHERE WHAT IT READS IS OF BULK AT MOST 1048576: true; the input reads as it did. -/
def crcTellsUptoRow : OpenClaim := { program := "ytcdfflieooopjaadoor", sum := "6e3aaf73fba04a587ec47881f05fbbe34133f0237a99d133e0301e0181311cfa", func := "warrener/warrenerlaw3.CrcTells", spec := "crcTells", named := ["warrener/crc.rests"], apart := false, laid := [("warrener/crc.rests", laid_warrener_crc_rests)], narrowed := true }
def CrcTellsUptoSaid : Prop := crcTellsUptoRow.holds Tryd.pinned (OpenSpec.upto crcTellsSpec)

/-- 'warrenerlaw3.CrcOn', WHERE WHAT IT READS IS OF BULK AT MOST 1048576: true; the input reads as it did. -/
def crcOnUptoRow : OpenClaim := { program := "ytcdfflieooopjaadoor", sum := "6e3aaf73fba04a587ec47881f05fbbe34133f0237a99d133e0301e0181311cfa", func := "warrener/warrenerlaw3.CrcOn", spec := "crcOn", named := ["warrener/crc.rests"], apart := false, laid := [("warrener/crc.rests", laid_warrener_crc_rests)], narrowed := true }
def CrcOnUptoSaid : Prop := crcOnUptoRow.holds Tryd.pinned (OpenSpec.upto crcOnSpec)

/-- 'warrenerlaw3.CrcLinear', WHERE WHAT IT READS IS OF BULK AT MOST 1048576: true; the input reads as it did. -/
def crcLinearUptoRow : OpenClaim := { program := "ytcdfflieooopjaadoor", sum := "6e3aaf73fba04a587ec47881f05fbbe34133f0237a99d133e0301e0181311cfa", func := "warrener/warrenerlaw3.CrcLinear", spec := "crcLinear", named := ["warrener/crc.rests"], apart := false, laid := [("warrener/crc.rests", laid_warrener_crc_rests)], narrowed := true }
def CrcLinearUptoSaid : Prop := crcLinearUptoRow.holds Tryd.pinned (OpenSpec.upto crcLinearSpec)

end Rows
end Go.Proofs.YtcdfflieooopjaaDoor
