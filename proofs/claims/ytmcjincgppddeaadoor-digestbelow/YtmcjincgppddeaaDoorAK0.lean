/-
  One item of a list that is only read.
-/
import Derived.Test.YtmcjincgppddeaaDoorTW
namespace Go.Proofs.YtmcjincgppddeaaDoor
open Go.RowKit
set_option linter.unusedSimpArgs false
set_option linter.unusedVariables false

theorem IntsP.turned {kb : Nat} {w w' : World} {v : Value} {l : List Int} (h : IntsP (fun b => b ≠ kb) w v l) (hg : w.grownBy w' (some kb)) : IntsP (fun b => b ≠ kb) w' v l :=
  IntsP.agree h hg.size (fun b hb hq => hg.block b hb (fun e => hq (by cases e; rfl)))

theorem IntsP.item {q : Nat → Prop} {w : World} {v : Value} {l : List Int} (h : IntsP q w v l) {i : Nat} {x : Int} (hx : l[i]? = some x) : ∃ b off cap, v = .slice (some ⟨b, off, none⟩) l.length cap ∧ b < w.heap.size ∧ w.cell? ⟨b, off + i, none⟩ = some (.int .i64 x) ∧ q b := by
  obtain ⟨a, cap, rfl, _, hc⟩ := h
  obtain ⟨b, off, rfl, hq, hb, h2⟩ := hc (by rintro rfl; simp at hx)
  exact ⟨b, off, cap, rfl, hb, h2 i x hx, hq⟩

theorem wrap_at {a : Int} (h0 : -9223372036854775808 ≤ a) (h1 : a ≤ 9223372036854775807) : IntKind.i64.wrap a = a := by
  simp [IntKind.wrap, IntKind.bits, IntKind.signed]
  omega

end Go.Proofs.YtmcjincgppddeaaDoor
