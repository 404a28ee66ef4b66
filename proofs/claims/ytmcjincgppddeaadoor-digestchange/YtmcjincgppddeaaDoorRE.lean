/-
  A leaf added, by the document.
-/
import Derived.Test.YtmcjincgppddeaaDoorRD
namespace Go.Proofs.YtmcjincgppddeaaDoor
open Go.RowKit 
set_option linter.unusedSimpArgs false
set_option linter.unusedVariables false



end Go.Proofs.YtmcjincgppddeaaDoor
