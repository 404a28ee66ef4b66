/-
  The law TreeBack.
-/
import Derived.Test.YtmcjincgppddeaaDoorSE
namespace Go.Proofs.YtmcjincgppddeaaDoor
open Go.RowKit 
set_option linter.unusedSimpArgs false
set_option linter.unusedVariables false

theorem leaf_cells {W W0 : World} {b : Nat} {u : PV} {h : Value} (hb : Below W0.heap.size W0 W) (hlt : b < W0.heap.size) (hx : ∀ r, W0.cell? ⟨b, r, none⟩ = (leafCells u h)[r]?) :
    W.cell? ⟨b, 0, none⟩ = some (.bool u.full) ∧ W.cell? ⟨b, 1, none⟩ = some (.int .i64 u.key) ∧ W.cell? ⟨b, 2, none⟩ = some (.int .i64 u.client) ∧ W.cell? ⟨b, 3, none⟩ = some (.int .i64 u.sig) ∧ W.cell? ⟨b, 4, none⟩ = some (.int .i64 u.hash) ∧ W.cell? ⟨b, 5, none⟩ = some h :=
  ⟨(hb.cell (p := ⟨b, 0, none⟩) hlt).trans (hx 0), (hb.cell (p := ⟨b, 1, none⟩) hlt).trans (hx 1), (hb.cell (p := ⟨b, 2, none⟩) hlt).trans (hx 2), (hb.cell (p := ⟨b, 3, none⟩) hlt).trans (hx 3), (hb.cell (p := ⟨b, 4, none⟩) hlt).trans (hx 4), (hb.cell (p := ⟨b, 5, none⟩) hlt).trans (hx 5)⟩

end Go.Proofs.YtmcjincgppddeaaDoor
