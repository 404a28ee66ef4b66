/-
  Hashes of trees as terms: what the hash of a place is made of, that it tells the tree below, and the chain of parent hashes.
-/
import Derived.Test.YtcfmagmhnemhaaaDA
import Derived.Lib.ItoaNum
import Derived.Lib.ItoaLen
namespace Go.Proofs.Ytcfmagmhnemhaaa
open Go.RowKit
set_option linter.unusedSimpArgs false
set_option linter.unusedVariables false



end Go.Proofs.Ytcfmagmhnemhaaa
