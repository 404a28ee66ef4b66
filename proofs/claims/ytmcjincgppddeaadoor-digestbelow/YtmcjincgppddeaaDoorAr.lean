/-
  Vertices and numbers that come in.
-/
import Derived.Test.YtmcjincgppddeaaDoorXB
import Derived.ProofKit
import Derived.Deep.Slices
import Derived.Lib.SmallJoins
namespace Go.Proofs.YtmcjincgppddeaaDoor
open Go.RowKit Go.WideShapes Go.ChangeShapes Go.Deep Go.Joins Go.Lib
set_option linter.unusedSimpArgs false
set_option linter.unusedVariables false

theorem cells3 : Tryd.prog.cellsOf 3 = 1 := by kernel_rfl

theorem cells4 : Tryd.prog.cellsOf 4 = 1 := by kernel_rfl

theorem cells22 : Tryd.prog.cellsOf 30 = 1 := by kernel_rfl

theorem cells24 : Tryd.prog.cellsOf 47 = 6 := by kernel_rfl

theorem spot_none {w : World} {a : Addr} {v : Value} (h : w.cell? a = some v) : a.spot = none := by
  unfold World.cell? at h
  split at h
  · split at h
    · simp at h
    · rename_i hs; simpa using hs
  · simp at h

end Go.Proofs.YtmcjincgppddeaaDoor
