/-
  Lists of numbers that come in, with their room and each number's range.
-/
import Derived.Test.YtcfmagmhnemhaaaDoorWD0
namespace Go.Proofs.YtcfmagmhnemhaaaDoor
open Go.RowKit Go.WideShapes Go.ChangeShapes Go.Deep Go.Joins Go.Lib
set_option linter.unusedSimpArgs false
set_option linter.unusedVariables false

theorem i64_of {a : Int} (h : (Lit.int .i64 a).wf = true) : I64 a := by
  have h1 : IntKind.i64.min = -9223372036854775808 := by decide
  have h2 : IntKind.i64.max = 9223372036854775807 := by decide
  simp only [Lit.wf, h1, h2, Bool.and_eq_true, decide_eq_true_eq] at h
  exact ⟨h.1, h.2⟩

theorem open_numsN1 {H : Type} {enc : TypeId × Value → H} {W : World} {c : Value} {fuel : Nat} {y : DataW H × List MemPlace} (hf : DataW.trod enc Tryd.prog W 0 (fun _ => true) true fuel 22 [c] = some y) : ∃ l, NumsAt W c l := by
  rcases open_ints Tryd.underlying22 Tryd.underlying3 cells3 hf with ⟨hcs, _⟩ | ⟨x, len, cap, zs, hcs, _, hl, hm, hz, _, hcell, hwz⟩
  · simp at hcs
    subst hcs
    exact ⟨[], ⟨none, 0, rfl, by simp, fun h => absurd rfl h⟩, fun a n c e => by cases e; exact Nat.le_refl _, fun x hx => by cases hx⟩
  · simp at hcs
    subst hcs
    have hzl : zs.length = cap := by simpa using hz
    refine ⟨zs.take len, ⟨some x, cap, by simp; omega, by simp; unfold maxLen at hm; omega, fun hne => ?_⟩, fun a n c e => by cases e; exact hl, fun y hy => i64_of (hwz y (List.mem_of_mem_take hy))⟩
    have hpos : 0 < len := by
      rcases Nat.eq_zero_or_pos len with h0 | h0
      · subst h0; simp at hne
      · exact h0
    have h00 := hcell 0 (by omega)
    have hsp : x.spot = none := by
      have := spot_none h00
      simpa [Addr.add] using this
    obtain ⟨b, off, sp⟩ := x
    simp at hsp
    subst hsp
    refine ⟨b, off, rfl, World.block_lt_of_cell? W _ (by simpa [Addr.add] using h00), fun i y hi => ?_⟩
    have hil : i < len ∧ i < zs.length := by
      have := (List.getElem?_eq_some_iff.1 hi).1
      simp at this; omega
    have ad : ∀ j, (⟨b, off, none⟩ : Addr).add j = ⟨b, off + j, none⟩ := fun j => by unfold Addr.add; split <;> simp_all
    have g := hcell i hil.2
    rw [ad] at g
    rw [g]
    simp [List.getElem?_take, hil.1] at hi
    simp [List.getD, hi]

set_option maxRecDepth 100000 in
theorem open_numsN {H : Type} {enc : TypeId × Value → H} {W : World} {r : Reach} {base : Nat} {v : Value} {d : DataW H} {p : List MemPlace} (hv : Value.okWide Tryd.prog W r base 22 v) (h : DataW.Trod enc Tryd.prog W 0 (fun _ => true) true 22 v d p) : ∃ l, NumsAt W v l := by
  obtain ⟨a0, len, cap, rfl⟩ := okWide_slice Tryd.underlying22 hv
  obtain ⟨fuel, hf⟩ := h
  exact open_numsN1 (by simpa [Value.cells] using hf)

end Go.Proofs.YtcfmagmhnemhaaaDoor
