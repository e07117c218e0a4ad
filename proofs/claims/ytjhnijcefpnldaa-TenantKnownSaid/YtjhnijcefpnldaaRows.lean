/-
  No cell of these rows narrows 'for every input' (looked for: loops, veiled, ifaces, maps, wideKeys, modest, calm, conditions, laid).
  DERIVED. THE GIVEN ROWS OF THIS SEAT. 4 by the template 'for every input the law returns true; each argument reads behind the call as it read before'; 0 by the template 'total and deterministic' (their statements: YtjhnijcefpnldaaTotals.lean).
  GIVEN WITH THE SEED: the statements are not yours to turn. If you find one false, say at which input.
  Laid BY PROGRAM, IN A SANDBOX (cutbox-rows.mjs): the forced cells as the released guide's own fill.sh prints them over the translation 42915c38e9b115e9… (all of the seat's roots in one cut). By AI agents, Wed Nov 11 2026. No macro, syntax, notation, axiom, sorry.
-/
import Derived.Test.YtjhnijcefpnldaaChecked
import GoSem.Claim
import GoSem.ClaimJoined
import GoSem.ClaimMapViews
import Derived.JoinedTies
import Derived.KernelRfl
namespace Go.Proofs.Ytjhnijcefpnldaa
/- THE CELL 'sum', in the pinned program and in every row, IS THE sha256 OF THE DUMP (.gsa) THAT YtjhnijcefpnldaaProg.lean LOADS. Nothing in Lean hashes anything: it is a label: what it is worth is what the hold of that sum in a sandbox is worth. -/
noncomputable def Try.pinned : Pinned := { name := "ytjhnijcefpnldaa", sum := "42915c38e9b115e9cd7d11e995da53a4b806bf7106c2cf19e07b0cd26205cd8f", checked := Try.checked }
namespace Rows
def none {H : Type} : Left H := { results := [], args := [] }

/-- 'warrenerlaw15.TenantKnown': WHATEVER THE INPUT: true; the input reads as it did. -/
def tenantKnownSpec : ChangeSpec := { name := "tenantKnown", fn := fun _ => fun
  | [] => { results := [.lit (.bool true)], args := [] }
  | _ => none }
def tenantKnownRow : OpenClaim := { program := "ytjhnijcefpnldaa", sum := "42915c38e9b115e9cd7d11e995da53a4b806bf7106c2cf19e07b0cd26205cd8f", func := "warrener/warrenerlaw15.TenantKnown", spec := "tenantKnown", apart := false }
def TenantKnownSaid : Prop := tenantKnownRow.holds Try.pinned (OpenSpec.ofChange tenantKnownSpec)

/-- ITS FALSE NEIGHBOUR: 'it returns false'. Refute it at one input. -/
def tenantKnownWrong : ChangeSpec := { name := "tenantKnown", fn := fun _ => fun
  | [] => { results := [.lit (.bool false)], args := [] }
  | _ => none }
def TenantKnownWrongFalsely : Prop := tenantKnownRow.holds Try.pinned (OpenSpec.ofChange tenantKnownWrong)

/-- 'warrenerlaw15.TenantSays': WHATEVER THE INPUT: true; the input reads as it did. -/
def tenantSaysSpec : ChangeSpec := { name := "tenantSays", fn := fun _ => fun
  | [d1, d2, d3] => { results := [.lit (.bool true)], args := [d1, d2, d3] }
  | _ => none }
def tenantSaysRow : OpenClaim := { program := "ytjhnijcefpnldaa", sum := "42915c38e9b115e9cd7d11e995da53a4b806bf7106c2cf19e07b0cd26205cd8f", func := "warrener/warrenerlaw15.TenantSays", spec := "tenantSays", apart := false }
def TenantSaysSaid : Prop := tenantSaysRow.holds Try.pinned (OpenSpec.ofChange tenantSaysSpec)

/-- ITS FALSE NEIGHBOUR: 'it returns false'. Refute it at one input. -/
def tenantSaysWrong : ChangeSpec := { name := "tenantSays", fn := fun _ => fun
  | [d1, d2, d3] => { results := [.lit (.bool false)], args := [d1, d2, d3] }
  | _ => none }
def TenantSaysWrongFalsely : Prop := tenantSaysRow.holds Try.pinned (OpenSpec.ofChange tenantSaysWrong)

/-- 'warrenerlaw15.TenantParts': WHATEVER THE INPUT: true; the input reads as it did. -/
def tenantPartsSpec : ChangeSpec := { name := "tenantParts", fn := fun _ => fun
  | [d1, d2] => { results := [.lit (.bool true)], args := [d1, d2] }
  | _ => none }
def tenantPartsRow : OpenClaim := { program := "ytjhnijcefpnldaa", sum := "42915c38e9b115e9cd7d11e995da53a4b806bf7106c2cf19e07b0cd26205cd8f", func := "warrener/warrenerlaw15.TenantParts", spec := "tenantParts", apart := false }
def TenantPartsSaid : Prop := tenantPartsRow.holds Try.pinned (OpenSpec.ofChange tenantPartsSpec)

/-- ITS FALSE NEIGHBOUR: 'it returns false'. Refute it at one input. -/
def tenantPartsWrong : ChangeSpec := { name := "tenantParts", fn := fun _ => fun
  | [d1, d2] => { results := [.lit (.bool false)], args := [d1, d2] }
  | _ => none }
def TenantPartsWrongFalsely : Prop := tenantPartsRow.holds Try.pinned (OpenSpec.ofChange tenantPartsWrong)

/-- 'warrenerlaw15.TenantBudgets': WHATEVER THE INPUT: true; the input reads as it did. -/
def tenantBudgetsSpec : ChangeSpec := { name := "tenantBudgets", fn := fun _ => fun
  | [d1, d2] => { results := [.lit (.bool true)], args := [d1, d2] }
  | _ => none }
def tenantBudgetsRow : OpenClaim := { program := "ytjhnijcefpnldaa", sum := "42915c38e9b115e9cd7d11e995da53a4b806bf7106c2cf19e07b0cd26205cd8f", func := "warrener/warrenerlaw15.TenantBudgets", spec := "tenantBudgets", apart := false }
def TenantBudgetsSaid : Prop := tenantBudgetsRow.holds Try.pinned (OpenSpec.ofChange tenantBudgetsSpec)

/-- ITS FALSE NEIGHBOUR: 'it returns false'. Refute it at one input. -/
def tenantBudgetsWrong : ChangeSpec := { name := "tenantBudgets", fn := fun _ => fun
  | [d1, d2] => { results := [.lit (.bool false)], args := [d1, d2] }
  | _ => none }
def TenantBudgetsWrongFalsely : Prop := tenantBudgetsRow.holds Try.pinned (OpenSpec.ofChange tenantBudgetsWrong)

/- THE SECOND FORM. 'bulk': how many values and letters a reading holds, each counted each time it is reached (what is shared counts as often as it is met; a slice's spare places count too). A statement '..UptoSaid' is the law's where the arguments, and the package variables that the reading takes, are together of bulk at most 1048576: NARROWER than '..Said'. Prove '..Said' where nothing that the law and all that it calls make is longer than what came in: it says more and counts as full. Else prove '..UptoSaid'. A law counts once. -/
mutual
def uptoBulk {H : Type} : DataW H → Nat
  | .lit (.string bytes) => bytes.length + 1
  | .lit _ => 1
  | .nil => 1
  | .ptr d => uptoBulk d + 1
  | .slice elems spare => uptoBulkAll elems + uptoBulkAll spare + 1
  | .agg parts => uptoBulkAll parts + 1
  | .iface _ d => uptoBulk d + 1
  | .map entries => uptoBulkEntries entries + 1
  | .held _ => 1
def uptoBulkAll {H : Type} : List (DataW H) → Nat
  | [] => 0
  | d :: r => uptoBulk d + uptoBulkAll r
def uptoBulkEntries {H : Type} : List (Lit × DataW H) → Nat
  | [] => 0
  | x :: r => uptoBulkEntry x + uptoBulkEntries r
def uptoBulkEntry {H : Type} : Lit × DataW H → Nat
  | (.string bytes, d) => bytes.length + uptoBulk d + 1
  | (_, d) => uptoBulk d + 1
 end
def uptoSmall : (H : Type) → List (DataW H) → Bool := fun _ ds => decide (uptoBulkAll ds ≤ 1048576)
def OpenSpec.upto (s : _root_.Go.ChangeSpec) : _root_.Go.OpenSpec := { _root_.Go.OpenSpec.ofChange s with cond := some uptoSmall }

/-- 'warrenerlaw15.TenantKnown', WHERE WHAT IT READS IS OF BULK AT MOST 1048576: true; the input reads as it did. -/
def tenantKnownUptoRow : OpenClaim := { program := "ytjhnijcefpnldaa", sum := "42915c38e9b115e9cd7d11e995da53a4b806bf7106c2cf19e07b0cd26205cd8f", func := "warrener/warrenerlaw15.TenantKnown", spec := "tenantKnown", apart := false, narrowed := true }
def TenantKnownUptoSaid : Prop := tenantKnownUptoRow.holds Try.pinned (OpenSpec.upto tenantKnownSpec)

/-- 'warrenerlaw15.TenantSays', WHERE WHAT IT READS IS OF BULK AT MOST 1048576: true; the input reads as it did. -/
def tenantSaysUptoRow : OpenClaim := { program := "ytjhnijcefpnldaa", sum := "42915c38e9b115e9cd7d11e995da53a4b806bf7106c2cf19e07b0cd26205cd8f", func := "warrener/warrenerlaw15.TenantSays", spec := "tenantSays", apart := false, narrowed := true }
def TenantSaysUptoSaid : Prop := tenantSaysUptoRow.holds Try.pinned (OpenSpec.upto tenantSaysSpec)

/-- 'warrenerlaw15.TenantParts', WHERE WHAT IT READS IS OF BULK AT MOST 1048576: true; the input reads as it did. -/
def tenantPartsUptoRow : OpenClaim := { program := "ytjhnijcefpnldaa", sum := "42915c38e9b115e9cd7d11e995da53a4b806bf7106c2cf19e07b0cd26205cd8f", func := "warrener/warrenerlaw15.TenantParts", spec := "tenantParts", apart := false, narrowed := true }
def TenantPartsUptoSaid : Prop := tenantPartsUptoRow.holds Try.pinned (OpenSpec.upto tenantPartsSpec)

/-- 'warrenerlaw15.TenantBudgets', WHERE WHAT IT READS IS OF BULK AT MOST 1048576: true; the input reads as it did. -/
def tenantBudgetsUptoRow : OpenClaim := { program := "ytjhnijcefpnldaa", sum := "42915c38e9b115e9cd7d11e995da53a4b806bf7106c2cf19e07b0cd26205cd8f", func := "warrener/warrenerlaw15.TenantBudgets", spec := "tenantBudgets", apart := false, narrowed := true }
def TenantBudgetsUptoSaid : Prop := tenantBudgetsUptoRow.holds Try.pinned (OpenSpec.upto tenantBudgetsSpec)

end Rows
end Go.Proofs.Ytjhnijcefpnldaa
