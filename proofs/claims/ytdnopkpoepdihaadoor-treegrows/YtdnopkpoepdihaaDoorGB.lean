/-
  The law TreeGrows over what comes in.
-/
import Derived.Test.YtdnopkpoepdihaaDoorGA
import Derived.Test.YtdnopkpoepdihaaDoorAr
namespace Go.Proofs.YtdnopkpoepdihaaDoor
open Go.RowKit
set_option linter.unusedVariables false

theorem grows_law {w : World} {v : Value} {a : PV × Value} (hv : VertexAt w v a) (n : Int) (hn : (Lit.int .i64 n).wf = true) (hT : Tab w) :
    Calls Tryd.prog 9 #[v, .int .i64 n] w fun e w' => e = .returned (.bool true) ∧ Below w.heap.size w w' := by
  obtain ⟨rfl, _⟩ := hv
  exact grows_walk _ _ n hT

end Go.Proofs.YtdnopkpoepdihaaDoor
