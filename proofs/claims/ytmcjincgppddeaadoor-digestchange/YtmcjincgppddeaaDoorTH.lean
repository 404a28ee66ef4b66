/-
  Blank vertices put behind a tree.
-/
import Derived.Test.YtmcjincgppddeaaDoorTG
namespace Go.Proofs.YtmcjincgppddeaaDoor
open Go.RowKit 
set_option linter.unusedSimpArgs false
set_option linter.unusedVariables false



end Go.Proofs.YtmcjincgppddeaaDoor
