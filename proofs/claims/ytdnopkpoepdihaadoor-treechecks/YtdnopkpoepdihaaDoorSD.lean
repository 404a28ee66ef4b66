/-
  Steps and scripts that come in.
-/
import Derived.Test.YtdnopkpoepdihaaDoorSC
namespace Go.Proofs.YtdnopkpoepdihaaDoor
open Go.RowKit Go.WideShapes Go.ChangeShapes Go.Deep Go.Joins Go.Lib
set_option linter.unusedSimpArgs false
set_option linter.unusedVariables false

theorem cells31 : Tryd.prog.cellsOf 31 = 9 := by kernel_rfl

theorem list9 {α : Type} {cs : List α} (h : cs.length = 9) : ∃ c0 c1 c2 c3 c4 c5 c6 c7 c8, cs = [c0, c1, c2, c3, c4, c5, c6, c7, c8] := by
  match cs, h with
  | [c0, c1, c2, c3, c4, c5, c6, c7, c8], _ => exact ⟨c0, c1, c2, c3, c4, c5, c6, c7, c8, rfl⟩

/-- The cells of a step that came in. -/
theorem open_opcells {H : Type} {enc : TypeId × Value → H} {W : World} {c0 c1 c2 c3 c4 c5 c6 c7 c8 : Value} {fuel : Nat} {y : DataW H × List MemPlace} (hf : DataW.trod enc Tryd.prog W 0 (fun _ => true) true fuel 31 [c0, c1, c2, c3, c4, c5, c6, c7, c8] = some y) :
    ∃ (o : POp) (h : Value), [c0, c1, c2, c3, c4, c5, c6, c7, c8] = (opCells o h).toList ∧ IntsAt W h o.leaf.late := by
  obtain ⟨xs, n, _, rfl, hl, hlen, hfs⟩ := DataW.trod_struct Tryd.underlying31 hf
  match xs, hlen with
  | [y0, y1, y2, y3], _ =>
    have t0 := hfs 0 _ rfl
    have t1 := hfs 1 _ rfl
    have t2 := hfs 2 _ rfl
    have t3 := hfs 3 _ rfl
    simp [cells3, cells24] at t0 t1 t2 t3
    obtain ⟨x0, q0, _⟩ := DataW.trod_int Tryd.underlying3 t0
    obtain ⟨x1, q1, _⟩ := DataW.trod_int Tryd.underlying3 t1
    obtain ⟨x3, q3, _⟩ := DataW.trod_int Tryd.underlying3 t3
    obtain ⟨u, rfl, rfl, rfl, rfl, rfl, hl5⟩ := open_vcells t2
    simp at q0 q1 q3
    subst q0 q1 q3
    exact ⟨⟨x0, x1, u, x3⟩, _, rfl, hl5⟩

def OpAt (W : World) (v : Value) (a : POp × Value) : Prop := v = a.1.val a.2 ∧ IntsAt W a.2 a.1.leaf.late

set_option maxRecDepth 100000 in
theorem open_op {H : Type} {enc : TypeId × Value → H} {W : World} {r : Reach} {base : Nat} {v : Value} {d : DataW H} {p : List MemPlace} (hv : Value.okWide Tryd.prog W r base 31 v) (h : DataW.Trod enc Tryd.prog W 0 (fun _ => true) true 31 v d p) : ∃ a, OpAt W v a := by
  obtain ⟨cs, rfl, hsz⟩ := okWide_struct Tryd.underlying31 hv
  rw [cells31] at hsz
  obtain ⟨c0, c1, c2, c3, c4, c5, c6, c7, c8, hc⟩ := list9 (cs := cs.toList) (by simpa using hsz)
  obtain ⟨fuel, hf⟩ := h
  obtain ⟨l⟩ := cs
  simp only at hc
  subst hc
  obtain ⟨o, h, e, hi⟩ := open_opcells (by simpa [Value.cells] using hf)
  refine ⟨(o, h), ?_, hi⟩
  simp only [POp.val]
  rw [e]
  rfl

set_option maxRecDepth 100000 in
theorem open_script {H : Type} {enc : TypeId × Value → H} {W : World} {r : Reach} {base : Nat} {v : Value} {d : DataW H} {p : List MemPlace} (hv : Value.okWide Tryd.prog W r base 25 v) (h : DataW.Trod enc Tryd.prog W 0 (fun _ => true) true 25 v d p) : ∃ l, ScriptAt W v l := by
  obtain ⟨a0, len, cap, rfl⟩ := okWide_slice Tryd.underlying25 hv
  obtain ⟨fuel, hf⟩ := h
  rcases open_slice Tryd.underlying25 hf with ⟨hcs, _⟩ | ⟨a, len', cap', m, n, D, Pl, hcs, _, hl, hm, hmm, _, hel⟩
  · simp [Value.cells] at hcs
    obtain ⟨rfl, rfl, rfl⟩ := hcs
    exact ⟨[], none, 0, rfl, by simp, fun h => absurd rfl h⟩
  · simp [Value.cells] at hcs
    obtain ⟨rfl, rfl, rfl⟩ := hcs
    rw [cells31] at hel
    simp only [if_true] at hmm
    have key : ∀ i, i < len → ∃ x : POp × Value, IntsAt W x.2 x.1.leaf.late ∧ ∀ (r : Nat) (c : Value), (opCells x.1 x.2)[r]? = some c → W.cell? ((a.add (i * 9)).add r) = some c := by
      intro i hi
      obtain ⟨cs', hc, ht⟩ := hel i (by omega)
      obtain ⟨_, hlen, hcell⟩ := World.cells?_some hc
      obtain ⟨c0, c1, c2, c3, c4, c5, c6, c7, c8, rfl⟩ := list9 hlen
      obtain ⟨o, h, e, hi5⟩ := open_opcells ht
      refine ⟨(o, h), hi5, fun r c hrc => ?_⟩
      have h2 : ((opCells o h).toList)[r]? = some c := by simpa using hrc
      rw [← e] at h2
      have h3 := (List.getElem?_eq_some_iff.1 h2).1
      rw [hcell r (by simpa using h3)]
      exact h2
    obtain ⟨f, hfn⟩ := @choose_lt (POp × Value) ⟨(⟨0, 0, PV.blank, 0⟩, .bool false)⟩ len _ key
    refine ⟨(List.range len).map f, some a, cap, by simp, by simp; unfold maxLen at hm; omega, fun hne => ?_⟩
    have hpos : 0 < len := by
      rcases Nat.eq_zero_or_pos len with h0 | h0
      · subst h0; simp at hne
      · exact h0
    have h00 := (hfn 0 hpos).2 0 _ rfl
    have hsp : a.spot = none := by
      have := spot_none h00
      simpa [Addr.add] using this
    obtain ⟨b, off, sp⟩ := a
    simp at hsp
    subst hsp
    have ad2 : ∀ o j, (⟨b, o, none⟩ : Addr).add j = ⟨b, o + j, none⟩ := fun o j => by unfold Addr.add; split <;> simp_all
    refine ⟨b, off, rfl, World.block_lt_of_cell? W _ (by simpa [ad2] using h00), fun i o h hi => ?_⟩
    have hil : i < len := by
      have := (List.getElem?_eq_some_iff.1 hi).1
      simpa using this
    simp [hil] at hi
    obtain ⟨g0, g1⟩ := hfn i hil
    rw [hi] at g0 g1
    refine ⟨g0, fun r c hrc => ?_⟩
    have := g1 r c hrc
    rw [ad2, ad2] at this
    exact this

end Go.Proofs.YtdnopkpoepdihaaDoor
