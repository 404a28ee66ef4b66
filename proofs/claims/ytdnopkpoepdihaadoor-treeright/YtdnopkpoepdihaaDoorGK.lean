/-
  The law TreeRight over what comes in.
-/
import Derived.Test.YtdnopkpoepdihaaDoorXD0
import Derived.Test.YtdnopkpoepdihaaDoorXD1
import Derived.Test.YtdnopkpoepdihaaDoorXD2
import Derived.Test.YtdnopkpoepdihaaDoorXD3
import Derived.Test.YtdnopkpoepdihaaDoorXD4
import Derived.Test.YtdnopkpoepdihaaDoorXD5
namespace Go.Proofs.YtdnopkpoepdihaaDoor
open Go.RowKit
set_option linter.unusedVariables false

theorem right_law {w : World} {v : Value} {a : PV × Value} (hv : VertexAt w v a) {vs : Value} {l : List (POp × Value)} (hs : ScriptAt w vs l) {vo : Value} {b : POp × Value} (ho : OpAt w vo b) (hT : Tab w) :
    Calls Tryd.prog 6 #[v, vs, vo] w fun e w' => e = .returned (.bool true) ∧ Below w.heap.size w w' := by
  obtain ⟨rfl, _⟩ := hv
  obtain ⟨rfl, _⟩ := ho
  obtain ⟨u, h⟩ := a
  obtain ⟨o, oh⟩ := b
  by_cases k1 : o.kind = 1
  · by_cases hr : least (grownF u (l.map (·.1))) = lv (grownF u (l.map (·.1))) ∧ lv (grownF u (l.map (·.1))) = 32
    · exact right_add_no u h o oh hs hT k1 hr
    · exact right_add u h o oh hs hT k1 hr
  · by_cases k2 : o.kind = 2
    · cases hi : fullB (grownF u (l.map (·.1))) o.i with
      | true => exact right_update u h o oh hs hT k2 hi
      | false => exact right_update_no u h o oh hs hT k2 hi
    · by_cases k3 : o.kind = 3
      · cases hi : fullB (grownF u (l.map (·.1))) o.i with
        | true =>
          by_cases hm : (members (grownF u (l.map (·.1)))).length = 1
          · exact right_remove_only u h o oh hs hT k3 hi hm
          · exact right_remove u h o oh hs hT k3 hi hm
        | false => exact right_remove_no u h o oh hs hT k3 hi
      · by_cases k4 : o.kind = 4
        · cases hi : fullB (grownF u (l.map (·.1))) o.i with
          | true => exact right_merge u h o oh hs hT k4 hi
          | false => exact right_merge_no u h o oh hs hT k4 hi
        · exact right_none u h o oh hs hT k1 k2 k3 k4

end Go.Proofs.YtdnopkpoepdihaaDoor
