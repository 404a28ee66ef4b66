/-
  Leaves replaced and taken out: package tree's Update, shrunk, Remove.
-/
import Derived.Test.YtmcjincgppddeaaDoorTR
namespace Go.Proofs.YtmcjincgppddeaaDoor
open Go.RowKit 
set_option linter.unusedSimpArgs false
set_option linter.unusedVariables false

theorem TreeAt.take {w : World} {a : Option Addr} {cap : Nat} {t : Tree} (h : TreeAt w (.slice a t.length cap) t) (k c : Nat) (hk : k ≤ t.length) : TreeAt w (.slice a k c) (t.take k) := by
  obtain ⟨a', cap', e, hl, hc⟩ := h
  cases e
  refine ⟨a, c, by simp [Nat.min_eq_left hk], by simp; omega, fun hne => ?_⟩
  obtain ⟨b, off, rfl, hr⟩ := hc (by rintro rfl; simp at hne)
  refine ⟨b, off, rfl, hr.lt, fun x u hu => hr.at_ x u ?_⟩
  rw [List.getElem?_take] at hu
  split at hu
  · exact hu
  · cases hu

end Go.Proofs.YtmcjincgppddeaaDoor
