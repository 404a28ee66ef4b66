/-
  A leaf added: the walk of package tree's Add.
-/
import Derived.Test.YtmcjincgppddeaaDoorTI
namespace Go.Proofs.YtmcjincgppddeaaDoor
open Go.RowKit 
set_option linter.unusedSimpArgs false
set_option linter.unusedVariables false

def leafCells (u : PV) (h : Value) : Array Value := #[.bool u.full, .int .i64 u.key, .int .i64 u.client, .int .i64 u.sig, .int .i64 u.hash, h]

end Go.Proofs.YtmcjincgppddeaaDoor
