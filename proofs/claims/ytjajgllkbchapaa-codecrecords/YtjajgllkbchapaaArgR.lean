/-
  A record that comes in: its four fields.
-/
import Derived.Test.YtjajgllkbchapaaArgI
import Derived.Test.YtjajgllkbchapaaTxt
import Derived.Lib.SmallJoins
namespace Go.Proofs.Ytjajgllkbchapaa
open Go.RowKit Go.WideShapes Go.ChangeShapes Go.Deep Go.Joins Go.Lib
set_option linter.unusedSimpArgs false
set_option linter.unusedVariables false

theorem cells22 : Try.prog.cellsOf 22 = 1 := by kernel_rfl
theorem cells103 : Try.prog.cellsOf 103 = 4 := by kernel_rfl

def ThingAt (W : World) (v : Value) (a : Int × ByteArray × Value × List Int × Bool) : Prop := v = .agg #[.int .i64 a.1, .string a.2.1, a.2.2.1, .bool a.2.2.2.2] ∧ IntsAt W a.2.2.1 a.2.2.2.1

theorem open_nums1 {H : Type} {enc : TypeId × Value → H} {W : World} {c : Value} {fuel : Nat} {y : DataW H × List MemPlace} (hf : DataW.trod enc Try.prog W 0 (fun _ => true) true fuel 22 [c] = some y) : ∃ l, IntsAt W c l := by
  rcases open_ints Try.underlying22 Try.underlying3 cells3 hf with ⟨hcs, _⟩ | ⟨x, len, cap, zs, hcs, _, hl, hm, hz, _, hcell, hwz⟩
  · simp at hcs
    subst hcs
    exact ⟨[], none, 0, rfl, by simp, fun h => absurd rfl h⟩
  · simp at hcs
    subst hcs
    have hzl : zs.length = cap := by simpa using hz
    refine ⟨zs.take len, some x, cap, by simp; omega, by simp; unfold maxLen at hm; omega, fun hne => ?_⟩
    have hpos : 0 < len := by
      rcases Nat.eq_zero_or_pos len with h0 | h0
      · subst h0; simp at hne
      · exact h0
    have h00 := hcell 0 (by omega)
    have hsp : x.spot = none := by
      have := spot_none h00
      simpa [Addr.add] using this
    obtain ⟨b, off, sp⟩ := x
    simp at hsp
    subst hsp
    refine ⟨b, off, rfl, World.block_lt_of_cell? W _ (by simpa [Addr.add] using h00), fun i y hi => ?_⟩
    have hil : i < len ∧ i < zs.length := by
      have := (List.getElem?_eq_some_iff.1 hi).1
      simp at this; omega
    have ad : ∀ j, (⟨b, off, none⟩ : Addr).add j = ⟨b, off + j, none⟩ := fun j => by unfold Addr.add; split <;> simp_all
    have g := hcell i hil.2
    rw [ad] at g
    rw [g]
    simp [List.getElem?_take, hil.1] at hi
    simp [List.getD, hi]

set_option maxRecDepth 100000 in
theorem open_thing {H : Type} {enc : TypeId × Value → H} {W : World} {r : Reach} {base : Nat} {v : Value} {d : DataW H} {p : List MemPlace} (hv : Value.okWide Try.prog W r base 103 v) (h : DataW.Trod enc Try.prog W 0 (fun _ => true) true 103 v d p) : ∃ a, ThingAt W v a := by
  obtain ⟨cs, rfl, hsz⟩ := okWide_struct Try.underlying103 hv
  rw [cells103] at hsz
  obtain ⟨c0, c1, c2, c3, rfl⟩ := array4 hsz
  obtain ⟨fuel, hf⟩ := h
  obtain ⟨y0, y1, y2, y3, k, _, _, t0, t1, t2, t3⟩ := trod_struct4 Try.underlying103 hf
  simp only [cells3, cells9, cells22, cells4b] at t0 t1 t2 t3
  obtain ⟨x0, q0, _⟩ := DataW.trod_int Try.underlying3 t0
  obtain ⟨x1, q1, _⟩ := DataW.trod_string Try.underlying9 t1
  obtain ⟨x3, q3, _⟩ := DataW.trod_bool Try.underlying4 t3
  simp [Value.cells] at q0 q1 q3
  subst q0 q1 q3
  obtain ⟨l, hl⟩ := open_nums1 (c := c2) (by simpa [Value.cells] using t2)
  exact ⟨(x0, x1, c2, l, x3), rfl, hl⟩

end Go.Proofs.Ytjajgllkbchapaa
