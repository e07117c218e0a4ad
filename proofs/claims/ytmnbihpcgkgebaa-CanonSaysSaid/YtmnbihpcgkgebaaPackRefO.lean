/-
  The reference's reader over bytes that lie in old blocks: they stay there.
-/
import Derived.Test.YtmnbihpcgkgebaaPackRef
import Derived.Test.YtmnbihpcgkgebaaCutLo
namespace Go.Proofs.Ytmnbihpcgkgebaa.Pack
open Go.RowKit Base

end Go.Proofs.Ytmnbihpcgkgebaa.Pack
