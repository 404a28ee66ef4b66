/-
  Scripts of steps: what they make of a tree; each keeps it right.
-/
import Derived.Test.YtmcjincgppddeaaDoorRH
namespace Go.Proofs.YtmcjincgppddeaaDoor
open Go.RowKit 
set_option linter.unusedSimpArgs false
set_option linter.unusedVariables false

theorem odd_lev {p : Nat} (hp : p < 63) (h : p % 2 = 1) : lev (p : Int) ≠ 0 := by
  have := forall_lt 63 (fun x => decide (x % 2 = 0) || decide (lev x ≠ 0)) (by decide +kernel) (p : Int) (by omega) (by omega)
  simp at this
  rcases this with h1 | h1
  · omega
  · exact h1

end Go.Proofs.YtmcjincgppddeaaDoor
