/-
  A number put into a rising list: package tree's withNumber.
-/
import Derived.Test.YtmcjincgppddeaaDoorTF
namespace Go.Proofs.YtmcjincgppddeaaDoor
open Go.RowKit 
set_option linter.unusedSimpArgs false
set_option linter.unusedVariables false



end Go.Proofs.YtmcjincgppddeaaDoor
