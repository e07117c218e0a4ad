/-
  The walks of pack's reader.
-/
import Derived.Test.YtmnbihpcgkgebaaPackWrite
import Derived.Test.YtmnbihpcgkgebaaCuts
import Derived.Laws.BitsAllLaws
import Derived.Lib.SliceRun
namespace Go.Proofs.Ytmnbihpcgkgebaa.Pack
open Go.RowKit Base

theorem or_low (a b : Nat) (hb : b < 256) (ha : a < 72057594037927936) : bits BinOp.or .u64 ((a : Int) * 256) (b : Int) = ((a * 256 + b : Nat) : Int) := by
  have h1 : ((a : Int) * 256) = ((a * 256 : Nat) : Int) := by omega
  rw [h1, u64_or_nat (a * 256) b (by omega) (by omega), nat_join 8 (a * 256) b (by omega) (by omega)]
end Go.Proofs.Ytmnbihpcgkgebaa.Pack
