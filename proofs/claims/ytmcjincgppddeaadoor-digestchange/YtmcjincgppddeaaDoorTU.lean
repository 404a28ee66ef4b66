/-
  Leaves taken out: package tree's Remove.
-/
import Derived.Test.YtmcjincgppddeaaDoorTT
namespace Go.Proofs.YtmcjincgppddeaaDoor
open Go.RowKit 
set_option linter.unusedSimpArgs false
set_option linter.unusedVariables false



end Go.Proofs.YtmcjincgppddeaaDoor
