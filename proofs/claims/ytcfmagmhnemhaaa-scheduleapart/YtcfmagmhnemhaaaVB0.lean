/-
  What lies beside a store: nothing is listed.
-/
import Derived.Test.YtcfmagmhnemhaaaDA
namespace Go.Proofs.Ytcfmagmhnemhaaa
open Go.RowKit
set_option linter.unusedSimpArgs false
set_option linter.unusedVariables false

theorem Moved.free {s : Nat} {w w' : World} (m : Moved s w w') {b : Nat} (hb : b < w.heap.size) (hn : ¬ Own w s b) : ¬ Own w' s b := fun ho => (m.own b ho).elim hn (fun h => by omega)

/-- What every law finds laid. -/
def Laid0 (_ : World) : Prop := True
/-- What is laid is not the store's. -/
def Off (_ : World) (_ : Nat) : Prop := True
def Big (_ : World) : Prop := True

theorem Laid0.big {w : World} (h : Laid0 w) : Big w := h
theorem Laid0.low {w0 w w' : World} (hb : Big w0) (h : Laid0 w) (hl : ∀ k, k < w0.heap.size → w'.heap[k]? = w.heap[k]?) : Laid0 w' := h
theorem Laid0.moved {w w' : World} {s : Nat} (h : Laid0 w) (f : Off w s) (m : Moved s w w') : Laid0 w' := h
theorem Off.moved {w w' : World} {s : Nat} (h : Laid0 w) (f : Off w s) (m : Moved s w w') : Off w' s := f
theorem Off.keep {w w' : World} {s : Nat} (f : Off w s) (h2 : ∀ k, Own w' s k ↔ Own w s k) : Off w' s := f
theorem Off.new {w0 w : World} {s : Nat} (hb : Big w0) (h : ∀ k, Own w s k → w0.heap.size ≤ k) : Off w s := hb

end Go.Proofs.Ytcfmagmhnemhaaa
