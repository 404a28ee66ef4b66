/-
  The document's Update and Remove.
-/
import Derived.Test.YtmcjincgppddeaaDoorRB
namespace Go.Proofs.YtmcjincgppddeaaDoor
open Go.RowKit 
set_option linter.unusedSimpArgs false
set_option linter.unusedVariables false



end Go.Proofs.YtmcjincgppddeaaDoor
