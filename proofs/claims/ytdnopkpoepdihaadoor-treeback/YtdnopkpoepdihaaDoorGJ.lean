/-
  The law TreeBack over what comes in.
-/
import Derived.Test.YtdnopkpoepdihaaDoorSG
namespace Go.Proofs.YtdnopkpoepdihaaDoor
open Go.RowKit
set_option linter.unusedVariables false

theorem back_law {w : World} {v : Value} {a : PV × Value} (hv : VertexAt w v a) {vs : Value} {l : List (POp × Value)} (hs : ScriptAt w vs l) {vm : Value} {b : PV × Value} (hm : VertexAt w vm b) (hT : Tab w) :
    Calls Tryd.prog 7 #[v, vs, vm] w fun e w' => e = .returned (.bool true) ∧ Below w.heap.size w w' := by
  obtain ⟨rfl, _⟩ := hv
  obtain ⟨rfl, _⟩ := hm
  exact back_walk _ _ _ _ hs hT

end Go.Proofs.YtdnopkpoepdihaaDoor
