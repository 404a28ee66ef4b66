/-
  Vertices and numbers that come in.
-/
import Derived.Test.YtdnopkpoepdihaaDoorTR
import Derived.ProofKit
import Derived.Deep.Slices
import Derived.Lib.SmallJoins
namespace Go.Proofs.YtdnopkpoepdihaaDoor
open Go.RowKit Go.WideShapes Go.ChangeShapes Go.Deep Go.Joins Go.Lib
set_option linter.unusedSimpArgs false
set_option linter.unusedVariables false

theorem cells3 : Tryd.prog.cellsOf 3 = 1 := by kernel_rfl
theorem cells4 : Tryd.prog.cellsOf 4 = 1 := by kernel_rfl
theorem cells22 : Tryd.prog.cellsOf 22 = 1 := by kernel_rfl
theorem cells24 : Tryd.prog.cellsOf 24 = 6 := by kernel_rfl

theorem spot_none {w : World} {a : Addr} {v : Value} (h : w.cell? a = some v) : a.spot = none := by
  unfold World.cell? at h
  split at h
  · split at h
    · simp at h
    · rename_i hs; simpa using hs
  · simp at h

theorem open_nums1 {H : Type} {enc : TypeId × Value → H} {W : World} {c : Value} {fuel : Nat} {y : DataW H × List MemPlace} (hf : DataW.trod enc Tryd.prog W 0 (fun _ => true) true fuel 22 [c] = some y) : ∃ l, IntsAt W c l := by
  rcases open_ints Tryd.underlying22 Tryd.underlying3 cells3 hf with ⟨hcs, _⟩ | ⟨x, len, cap, zs, hcs, _, hl, hm, hz, _, hcell, hwz⟩
  · simp at hcs
    subst hcs
    exact ⟨[], none, 0, rfl, by simp, fun h => absurd rfl h⟩
  · simp at hcs
    subst hcs
    have hzl : zs.length = cap := by simpa using hz
    refine ⟨zs.take len, some x, cap, by simp; omega, by simp; unfold maxLen at hm; omega, fun hne => ?_⟩
    have hpos : 0 < len := by
      rcases Nat.eq_zero_or_pos len with h0 | h0
      · subst h0; simp at hne
      · exact h0
    have h00 := hcell 0 (by omega)
    have hsp : x.spot = none := by
      have := spot_none h00
      simpa [Addr.add] using this
    obtain ⟨b, off, sp⟩ := x
    simp at hsp
    subst hsp
    refine ⟨b, off, rfl, World.block_lt_of_cell? W _ (by simpa [Addr.add] using h00), fun i y hi => ?_⟩
    have hil : i < len ∧ i < zs.length := by
      have := (List.getElem?_eq_some_iff.1 hi).1
      simp at this; omega
    have ad : ∀ j, (⟨b, off, none⟩ : Addr).add j = ⟨b, off + j, none⟩ := fun j => by unfold Addr.add; split <;> simp_all
    have g := hcell i hil.2
    rw [ad] at g
    rw [g]
    simp [List.getElem?_take, hil.1] at hi
    simp [List.getD, hi]

set_option maxRecDepth 100000 in
theorem open_nums {H : Type} {enc : TypeId × Value → H} {W : World} {r : Reach} {base : Nat} {v : Value} {d : DataW H} {p : List MemPlace} (hv : Value.okWide Tryd.prog W r base 22 v) (h : DataW.Trod enc Tryd.prog W 0 (fun _ => true) true 22 v d p) : ∃ l, IntsAt W v l := by
  obtain ⟨a0, len, cap, rfl⟩ := okWide_slice Tryd.underlying22 hv
  obtain ⟨fuel, hf⟩ := h
  exact open_nums1 (by simpa [Value.cells] using hf)

theorem array6 {α : Type} {cs : Array α} (h : cs.size = 6) : ∃ c0 c1 c2 c3 c4 c5, cs = #[c0, c1, c2, c3, c4, c5] := by
  obtain ⟨l⟩ := cs
  match l, h with
  | [c0, c1, c2, c3, c4, c5], _ => exact ⟨c0, c1, c2, c3, c4, c5, rfl⟩

/-- The cells of a vertex that came in. -/
theorem open_vcells {H : Type} {enc : TypeId × Value → H} {W : World} {c0 c1 c2 c3 c4 c5 : Value} {fuel : Nat} {y : DataW H × List MemPlace} (hf : DataW.trod enc Tryd.prog W 0 (fun _ => true) true fuel 24 [c0, c1, c2, c3, c4, c5] = some y) :
    ∃ u : PV, c0 = .bool u.full ∧ c1 = .int .i64 u.key ∧ c2 = .int .i64 u.client ∧ c3 = .int .i64 u.sig ∧ c4 = .int .i64 u.hash ∧ IntsAt W c5 u.late := by
  obtain ⟨xs, n, _, rfl, hl, hlen, hfs⟩ := DataW.trod_struct Tryd.underlying24 hf
  match xs, hlen with
  | [y0, y1, y2, y3, y4, y5], _ =>
    have t0 := hfs 0 _ rfl
    have t1 := hfs 1 _ rfl
    have t2 := hfs 2 _ rfl
    have t3 := hfs 3 _ rfl
    have t4 := hfs 4 _ rfl
    have t5 := hfs 5 _ rfl
    simp [cells3, cells4, cells22] at t0 t1 t2 t3 t4 t5
    obtain ⟨x0, q0, _⟩ := DataW.trod_bool Tryd.underlying4 t0
    obtain ⟨x1, q1, _⟩ := DataW.trod_int Tryd.underlying3 t1
    obtain ⟨x2, q2, _⟩ := DataW.trod_int Tryd.underlying3 t2
    obtain ⟨x3, q3, _⟩ := DataW.trod_int Tryd.underlying3 t3
    obtain ⟨x4, q4, _⟩ := DataW.trod_int Tryd.underlying3 t4
    simp at q0 q1 q2 q3 q4
    obtain ⟨l, hl5⟩ := open_nums1 t5
    exact ⟨⟨x0, x1, x2, x3, x4, l⟩, q0, q1, q2, q3, q4, hl5⟩

def VertexAt (W : World) (v : Value) (a : PV × Value) : Prop := v = a.1.val a.2 ∧ IntsAt W a.2 a.1.late

set_option maxRecDepth 100000 in
theorem open_vertex {H : Type} {enc : TypeId × Value → H} {W : World} {r : Reach} {base : Nat} {v : Value} {d : DataW H} {p : List MemPlace} (hv : Value.okWide Tryd.prog W r base 24 v) (h : DataW.Trod enc Tryd.prog W 0 (fun _ => true) true 24 v d p) : ∃ a, VertexAt W v a := by
  obtain ⟨cs, rfl, hsz⟩ := okWide_struct Tryd.underlying24 hv
  rw [cells24] at hsz
  obtain ⟨c0, c1, c2, c3, c4, c5, rfl⟩ := array6 hsz
  obtain ⟨fuel, hf⟩ := h
  obtain ⟨u, rfl, rfl, rfl, rfl, rfl, hl⟩ := open_vcells (by simpa [Value.cells] using hf)
  exact ⟨(u, c5), rfl, hl⟩


end Go.Proofs.YtdnopkpoepdihaaDoor
