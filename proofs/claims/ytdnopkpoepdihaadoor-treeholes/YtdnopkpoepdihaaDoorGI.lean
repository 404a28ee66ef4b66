/-
  The law TreeHoles over what comes in.
-/
import Derived.Test.YtdnopkpoepdihaaDoorGH
import Derived.Test.YtdnopkpoepdihaaDoorAr
namespace Go.Proofs.YtdnopkpoepdihaaDoor
open Go.RowKit
set_option linter.unusedVariables false

theorem holes_law {w : World} {v : Value} {a : PV × Value} (hv : VertexAt w v a) (n : Int) (hn : (Lit.int .i64 n).wf = true) {vg : Value} {G : List Int} (hG : IntsAt w vg G) (hT : Tab w) :
    Calls Tryd.prog 10 #[v, .int .i64 n, vg] w fun e w' => e = .returned (.bool true) ∧ Below w.heap.size w w' := by
  obtain ⟨rfl, _⟩ := hv
  exact holes_walk _ _ n hG hT

end Go.Proofs.YtdnopkpoepdihaaDoor
