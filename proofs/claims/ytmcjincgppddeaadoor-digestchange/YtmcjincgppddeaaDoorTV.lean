/-
  Which leaves are full behind a step; right trees stay right behind replacing and taking out.
-/
import Derived.Test.YtmcjincgppddeaaDoorTU
namespace Go.Proofs.YtmcjincgppddeaaDoor
open Go.RowKit
set_option linter.unusedSimpArgs false
set_option linter.unusedVariables false

def isF (t : Tree) (j : Nat) : Bool := decide (j < lv t) && (vx t (2 * j)).full

theorem isF_fullB {t : Tree} {j : Nat} : isF t j = fullB t j := by simp [isF, fullB]

end Go.Proofs.YtmcjincgppddeaaDoor
