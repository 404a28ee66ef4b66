/-
  What lies beside a store: the table of the powers of ten; blocks that are not the store's.
-/
import Derived.Test.YtcfmagmhnemhaaaDoorDA
import Derived.Test.YtcfmagmhnemhaaaDoorIt
import Derived.Lib.ItoaLen
namespace Go.Proofs.YtcfmagmhnemhaaaDoor
open Go.RowKit
set_option linter.unusedSimpArgs false
set_option linter.unusedVariables false

/-- The table of the powers of ten as it is laid. -/
def Pow (w : World) : Prop := Lib.TabIs Tryd.prog w "internal/strconv.uint64pow10" .u64 Lib.pow10Tab

theorem pow_g : Tryd.prog.globalNamed "internal/strconv.uint64pow10" = some 0 := by kernel_rfl
theorem Pow.block {w w' : World} (h : Pow w) (hb : w'.heap[0]? = w.heap[0]?) : Pow w' := by
  unfold Pow Lib.TabIs World.var? at h ⊢
  rw [pow_g] at h ⊢
  simp only [Option.bind_some] at h ⊢
  rw [hb]; exact h
theorem Pow.size {w : World} (h : Pow w) : 0 < w.heap.size := by
  rcases Nat.lt_or_ge 0 w.heap.size with h' | h'
  · exact h'
  · unfold Pow Lib.TabIs World.var? at h
    rw [pow_g] at h
    simp only [Option.bind_some] at h
    rw [Array.getElem?_eq_none h'] at h
    cases h

theorem Moved.free {s : Nat} {w w' : World} (m : Moved s w w') {b : Nat} (hb : b < w.heap.size) (hn : ¬ Own w s b) : ¬ Own w' s b := fun ho => (m.own b ho).elim hn (fun h => by omega)

/-- What every law finds laid. -/
def Laid0 (w : World) : Prop := Pow w
/-- What is laid is not the store's. -/
def Off (w : World) (s : Nat) : Prop := ¬ Own w s 0
def Big (w : World) : Prop := 0 < w.heap.size

theorem Laid0.big {w : World} (h : Laid0 w) : Big w := Pow.size h
theorem Laid0.low {w0 w w' : World} (hb : Big w0) (h : Laid0 w) (hl : ∀ k, k < w0.heap.size → w'.heap[k]? = w.heap[k]?) : Laid0 w' := Pow.block h (hl 0 hb)
theorem Laid0.moved {w w' : World} {s : Nat} (h : Laid0 w) (f : Off w s) (m : Moved s w w') : Laid0 w' := Pow.block h (m.block 0 (Pow.size h) f)
theorem Off.moved {w w' : World} {s : Nat} (h : Laid0 w) (f : Off w s) (m : Moved s w w') : Off w' s := m.free (Pow.size h) f
theorem Off.keep {w w' : World} {s : Nat} (f : Off w s) (h2 : ∀ k, Own w' s k ↔ Own w s k) : Off w' s := fun ho => f ((h2 0).1 ho)
theorem Off.new {w0 w : World} {s : Nat} (hb : Big w0) (h : ∀ k, Own w s k → w0.heap.size ≤ k) : Off w s := fun ho => by have := h 0 ho; unfold Big at hb; omega

end Go.Proofs.YtcfmagmhnemhaaaDoor
