/-
  The document's example begins: the laws' anchor.
-/
import Derived.Test.YtmcjincgppddeaaDoorTQ
namespace Go.Proofs.YtmcjincgppddeaaDoor
open Go.RowKit 
set_option linter.unusedSimpArgs false
set_option linter.unusedVariables false

theorem late_small {t : Tree} (hf : Fit t) : ∀ (x : Nat) (u : PV), t[x]? = some u → (u.late.length : Int) ≤ 9223372036854775807 := fun x u hu => by
  have := (hf.small x u hu).1
  omega

end Go.Proofs.YtmcjincgppddeaaDoor
