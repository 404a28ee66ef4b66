/-
  The law TreeRight: the cells of a step.
-/
import Derived.Test.YtdnopkpoepdihaaDoorXA
import Derived.Test.YtdnopkpoepdihaaDoorXB
import Derived.Deep.QuietTactic
import Derived.BigQuiet
namespace Go.Proofs.YtdnopkpoepdihaaDoor
open Go.RowKit
set_option linter.unusedSimpArgs false
set_option linter.unusedVariables false

theorem step_cells {W W0 : World} {b : Nat} {o : POp} {h : Value} (hb : Below W0.heap.size W0 W) (hlt : b < W0.heap.size) (hx : ∀ r, W0.cell? ⟨b, r, none⟩ = (opCells o h)[r]?) :
    W.cell? ⟨b, 0, none⟩ = some (.int .i64 o.kind) ∧ W.cell? ⟨b, 1, none⟩ = some (.int .i64 o.i) ∧ W.cell? ⟨b, 2, none⟩ = some (.bool o.leaf.full) ∧ W.cell? ⟨b, 3, none⟩ = some (.int .i64 o.leaf.key) ∧ W.cell? ⟨b, 4, none⟩ = some (.int .i64 o.leaf.client) ∧ W.cell? ⟨b, 5, none⟩ = some (.int .i64 o.leaf.sig) ∧ W.cell? ⟨b, 6, none⟩ = some (.int .i64 o.leaf.hash) ∧ W.cell? ⟨b, 7, none⟩ = some h ∧ W.cell? ⟨b, 8, none⟩ = some (.int .i64 o.more) :=
  ⟨(hb.cell (p := ⟨b, 0, none⟩) hlt).trans (hx 0), (hb.cell (p := ⟨b, 1, none⟩) hlt).trans (hx 1), (hb.cell (p := ⟨b, 2, none⟩) hlt).trans (hx 2), (hb.cell (p := ⟨b, 3, none⟩) hlt).trans (hx 3), (hb.cell (p := ⟨b, 4, none⟩) hlt).trans (hx 4), (hb.cell (p := ⟨b, 5, none⟩) hlt).trans (hx 5), (hb.cell (p := ⟨b, 6, none⟩) hlt).trans (hx 6), (hb.cell (p := ⟨b, 7, none⟩) hlt).trans (hx 7), (hb.cell (p := ⟨b, 8, none⟩) hlt).trans (hx 8)⟩

end Go.Proofs.YtdnopkpoepdihaaDoor
