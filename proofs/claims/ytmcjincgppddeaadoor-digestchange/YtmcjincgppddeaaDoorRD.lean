/-
  A number put into a rising list, by the document.
-/
import Derived.Test.YtmcjincgppddeaaDoorRC
namespace Go.Proofs.YtmcjincgppddeaaDoor
open Go.RowKit 
set_option linter.unusedSimpArgs false
set_option linter.unusedVariables false



end Go.Proofs.YtmcjincgppddeaaDoor
