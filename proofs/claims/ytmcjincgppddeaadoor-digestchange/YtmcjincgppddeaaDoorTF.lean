/-
  Copies of trees: slices.Clone of vertices, package tree's copied · Copies of trees: package tree's copied.
-/
import Derived.Test.YtmcjincgppddeaaDoorTD
namespace Go.Proofs.YtmcjincgppddeaaDoor
open Go.RowKit 
set_option linter.unusedSimpArgs false
set_option linter.unusedVariables false

theorem Tryd.infoV : (Tryd.prog.info? 47).map (fun i => (i.zero, i.size, i.bytes)) = some (some (.agg #[.bool false, .int .i64 0, .int .i64 0, .int .i64 0, .int .i64 0, .slice none 0 0]), 6, 64) := by kernel_rfl

theorem vcells_one (u : PV) {h : Value} (hh : h.oneCell' = true) : ∀ c ∈ vcells u h, c.oneCell' = true := by
  intro c hc
  simp [vcells] at hc
  rcases hc with rfl | rfl | rfl | rfl | rfl | rfl <;> first | rfl | exact hh

end Go.Proofs.YtmcjincgppddeaaDoor
