/-
  The arithmetic of trees in an array, as functions on numbers; facts of the few trees that there are, by reckoning each · The calls of package heap that only reckon, and the document's: which trees and places there are, levels, roots · Levels by the document, parents, siblings, children, roots: as the calls answer them · The way up from a place to the root, as package heap's iterator yields it · Whether a place is below another: package heap's Under · The path of a place: package heap's Path · The siblings along a path: package heap's Copath · The document's answers: widths, what is below what, parents, siblings, the common place · The document's paths and copaths, as lists that are made; whether two lists are the same · The document's paths and copaths, as lists that are made.
-/
import Derived.Test.YtcfmagmhnemhaaaDoorRows
import Derived.Lib.TrailingZeros
import Derived.BigGuardPart
import Derived.WalkKit
import Derived.WalkSpells
import Derived.WalkLawsBesides
import Derived.Laws.Bits64b
import Derived.RangeFuncNested
import Derived.RangeFuncBound
import Derived.RangeFuncCalls
import Derived.RangeFuncLeaves
import Derived.RangeFuncBox
import Derived.Shelf.Abstract
import Derived.Shelf.RegionOpen
import Derived.OwnWalkIn
import Derived.TacticsInMore
import Derived.LoopNIn
import Derived.LoopIn
import Derived.Maps.AppendAt
import Derived.Deep.Onto
import Derived.Laws.AppendOwn
namespace Go.Proofs.YtcfmagmhnemhaaaDoor
open Go.RowKit
set_option linter.unusedSimpArgs false
set_option linter.unusedVariables false

/-- The table of math/bits as it is laid. -/
def Tab (w : World) : Prop := ∀ j, j < 64 → w.cell? ⟨2, j, none⟩ = some (.int .u8 (Lib.deBruijn64tab.getD j 0 : Nat))

theorem Tab.size {w : World} (h : Tab w) : 2 < w.heap.size := by
  have := h 0 (by decide)
  by_cases hs : 2 < w.heap.size
  · exact hs
  · exfalso
    have hn : w.heap[2]? = none := Array.getElem?_eq_none (by omega)
    simp [World.cell?, hn] at this

theorem Tab.below {n : Nat} {w w' : World} (h : Tab w) (hb : Below n w w') (hn : 2 < n) : Tab w' := fun j hj =>
  (hb.cell (p := ⟨2, j, none⟩) hn).trans (h j hj)

/-- What a round keeps: what lay below n0, and the cell of n. -/
def Kp (n0 Bn : Nat) (v : Value) (W W' : World) : Prop := Below n0 W W' ∧ (W.cell? ⟨Bn, 0, none⟩ = some v → W'.cell? ⟨Bn, 0, none⟩ = some v)

theorem Kp.b {n0 Bn : Nat} {v : Value} {w : World} (hn : n0 ≤ w.heap.size) (hb : Bn < w.heap.size) (W : World) (l : Nat) (o o' : Obj) (hl : w.heap.size ≤ l) (h : W.heap[l]? = some o) (h1 : o.isCells = false) (h2 : o.isWalk = false) : Kp n0 Bn v W (W.putObj l o') :=
  ⟨belowK_b hn W l o o' hl h h1 h2, fun e => ((belowK_b (n₀ := Bn + 1) (w := w) (by omega) W l o o' hl h h1 h2).cell (p := ⟨Bn, 0, none⟩) (by simp)).trans e⟩

/-- A slice of numbers that is only read. -/
def IntsAt (w : World) (v : Value) (l : List Int) : Prop :=
  ∃ a cap, v = .slice a l.length cap ∧ (l.length : Int) ≤ 9223372036854775807 ∧
    (l ≠ [] → ∃ b off, a = some ⟨b, off, none⟩ ∧ b < w.heap.size ∧ ∀ i x, l[i]? = some x → w.cell? ⟨b, off + i, none⟩ = some (.int .i64 x))

theorem IntsAt.below {w w' : World} {v : Value} {l : List Int} (h : IntsAt w v l) (hb : Below w.heap.size w w') : IntsAt w' v l := by
  obtain ⟨a, cap, e, hl, hc⟩ := h
  refine ⟨a, cap, e, hl, fun hne => ?_⟩
  obtain ⟨b, off, ha, hlt, hcell⟩ := hc hne
  refine ⟨b, off, ha, Nat.lt_of_lt_of_le hlt hb.size, fun i n hi => ?_⟩
  rw [hb.cell (p := ⟨b, _, none⟩) hlt]
  exact hcell i n hi

theorem ownsRow_ints {w : World} {base : Nat} {v : Value} {l : List Int} (h : w.ownsRow base 3 1 v l.length (l.map (Value.int .i64))) (hl : (l.length : Int) ≤ 9223372036854775807) : IntsAt w v l := by
  rcases h.2 with ⟨rfl, h0⟩ | ⟨g, cap, cur, rfl, hb, hgg, r1, r2, r3, r4⟩
  · have : l = [] := List.eq_nil_of_length_eq_zero h0
    subst this
    exact ⟨none, 0, rfl, by simp, fun h => absurd rfl h⟩
  · refine ⟨_, cap, rfl, hl, fun _ => ⟨g, 0, rfl, (Array.getElem?_eq_some_iff.1 hgg).1, fun i x hi => ?_⟩⟩
    have hil := (List.getElem?_eq_some_iff.1 hi).1
    rw [Nat.zero_add, World.ownsRow.cellAt h i (by omega)]
    simp [hi]

end Go.Proofs.YtcfmagmhnemhaaaDoor
