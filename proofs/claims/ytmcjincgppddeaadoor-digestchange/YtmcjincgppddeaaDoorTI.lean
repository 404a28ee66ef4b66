/-
  A leaf added: package tree's Add.
-/
import Derived.Test.YtmcjincgppddeaaDoorTH
import Derived.Deep.DeepCutAuto
namespace Go.Proofs.YtmcjincgppddeaaDoor
open Go.RowKit 
set_option linter.unusedSimpArgs false
set_option linter.unusedVariables false

theorem OwnT.mono {B B' : Nat} {w : World} {v : Value} {t : Tree} {hs : List Value} {j : Nat} (h : OwnT B w v t hs j) (hb : B' ≤ B) : OwnT B' w v t hs j :=
  ⟨h.len, h.row.mono hb, fun x u a hx hu ha => (h.late x u a hx hu ha).mono hb, h.apart⟩

end Go.Proofs.YtmcjincgppddeaaDoor
