/-
  Lists of texts that are the same are found the same; arguments that are lists of texts and of flags.
-/
import Derived.Test.YtjajgllkbchapaaArgI
import Derived.Deep.Strs
import Derived.Deep.Grids
namespace Go.Proofs.Ytjajgllkbchapaa
open Go.RowKit Go.WideShapes Go.ChangeShapes Go.Deep
set_option linter.unusedSimpArgs false
set_option linter.unusedVariables false

set_option maxRecDepth 100000 in
set_option maxHeartbeats 1000000 in
theorem texts_same {w : World} {va vb : Value} {l : List ByteArray} (ha : Vals Value.string w va l) (hb : Vals Value.string w vb l) :
    Calls Try.prog 32 #[va, vb] w fun e w' => e = .returned (.bool true) ∧ w' = w := by
  obtain ⟨a1, cap1, rfl, hl1, hc1⟩ := ha
  obtain ⟨a2, cap2, rfl, hl2, hc2⟩ := hb
  go_enter Try.func32, Try.ntmps32
  go_wp2_with fail
  go_loop [14] (fun i => ∃ k : Nat, k ≤ l.length ∧ i = .int .i64 k) (fun i => l.length - (intOf i).toNat)
  case atStart => exact ⟨0, Nat.zero_le _, rfl⟩
  case round =>
    obtain ⟨k, hk, rfl⟩ := hrel
    by_cases hlt : k < l.length
    · obtain ⟨x, hx⟩ : ∃ x, l[k]? = some x := ⟨l[k], by simp [hlt]⟩
      obtain ⟨b1, o1, rfl, hb1, c1⟩ := hc1 (by rintro rfl; simp at hx)
      obtain ⟨b2, o2, rfl, hb2, c2⟩ := hc2 (by rintro rfl; simp at hx)
      obtain ⟨u1, d1, rfl⟩ := c1 k x hx
      obtain ⟨u2, d2, rfl⟩ := c2 k x hx
      have i1 : (k : Int) < (l.length : Int) := by omega
      clear c1 c2 hx hc1 hc2
      go_wp2_with fail
      go_round
      case rel => exact ⟨k + 1, by omega, by go_num⟩
      case measure => simp [intOf]; omega
    · go_wp2_with fail
      go_ret
      exact ⟨rfl, rfl⟩

theorem cells9 : Try.prog.cellsOf 9 = 1 := by kernel_rfl
theorem cells4b : Try.prog.cellsOf 4 = 1 := by kernel_rfl

set_option maxRecDepth 100000 in
theorem open_texts {H : Type} {enc : TypeId × Value → H} {W : World} {r : Reach} {base : Nat} {v : Value} {d : DataW H} {p : List MemPlace} (hv : Value.okWide Try.prog W r base 67 v) (h : DataW.Trod enc Try.prog W 0 (fun _ => true) true 67 v d p) : ∃ l, Vals Value.string W v l := by
  obtain ⟨a0, len, cap, rfl⟩ := okWide_slice Try.underlying67 hv
  obtain ⟨fuel, hf⟩ := h
  rcases open_strs Try.underlying67 Try.underlying9 cells9 hf with ⟨hcs, _⟩ | ⟨x, l, c, m, S, hcs, _, hl, hm, hmm, _, hcell⟩
  · simp [Value.cells] at hcs
    obtain ⟨rfl, rfl, rfl⟩ := hcs
    exact ⟨[], none, 0, rfl, by simp, fun h => absurd rfl h⟩
  · simp [Value.cells] at hcs
    obtain ⟨rfl, rfl, rfl⟩ := hcs
    simp only [if_true] at hmm
    refine ⟨(List.range len).map S, some x, cap, by simp, by simp; unfold maxLen at hm; omega, fun hne => ?_⟩
    have hpos : 0 < len := by
      rcases Nat.eq_zero_or_pos len with h0 | h0
      · subst h0; simp at hne
      · exact h0
    have h00 := (hcell 0 (by omega)).1
    have hsp : x.spot = none := by
      have := spot_none h00
      simpa [Addr.add] using this
    obtain ⟨b, off, sp⟩ := x
    simp at hsp
    subst hsp
    refine ⟨b, off, rfl, World.block_lt_of_cell? W _ (by simpa [Addr.add] using h00), fun i y hi => ?_⟩
    have hil : i < len := by
      have := (List.getElem?_eq_some_iff.1 hi).1
      simpa using this
    have ad : ∀ j, (⟨b, off, none⟩ : Addr).add j = ⟨b, off + j, none⟩ := fun j => by unfold Addr.add; split <;> simp_all
    have g := (hcell i (by omega)).1
    rw [ad] at g
    simp [hil] at hi
    exact ⟨_, g, by rw [hi]⟩

set_option maxRecDepth 100000 in
theorem open_flags {H : Type} {enc : TypeId × Value → H} {W : World} {r : Reach} {base : Nat} {v : Value} {d : DataW H} {p : List MemPlace} (hv : Value.okWide Try.prog W r base 89 v) (h : DataW.Trod enc Try.prog W 0 (fun _ => true) true 89 v d p) : ∃ l, Vals Value.bool W v l := by
  obtain ⟨a0, len, cap, rfl⟩ := okWide_slice Try.underlying89 hv
  obtain ⟨fuel, hf⟩ := h
  rcases open_bools Try.underlying89 Try.underlying4 cells4b hf with ⟨hcs, _⟩ | ⟨x, l, c, S, hcs, _, hl, hm, _, hcell⟩
  · simp [Value.cells] at hcs
    obtain ⟨rfl, rfl, rfl⟩ := hcs
    exact ⟨[], none, 0, rfl, by simp, fun h => absurd rfl h⟩
  · simp [Value.cells] at hcs
    obtain ⟨rfl, rfl, rfl⟩ := hcs
    refine ⟨(List.range len).map S, some x, cap, by simp, by simp; unfold maxLen at hm; omega, fun hne => ?_⟩
    have hpos : 0 < len := by
      rcases Nat.eq_zero_or_pos len with h0 | h0
      · subst h0; simp at hne
      · exact h0
    have h00 := hcell 0 (by omega)
    have hsp : x.spot = none := by
      have := spot_none h00
      simpa [Addr.add] using this
    obtain ⟨b, off, sp⟩ := x
    simp at hsp
    subst hsp
    refine ⟨b, off, rfl, World.block_lt_of_cell? W _ (by simpa [Addr.add] using h00), fun i y hi => ?_⟩
    have hil : i < len := by
      have := (List.getElem?_eq_some_iff.1 hi).1
      simpa using this
    have ad : ∀ j, (⟨b, off, none⟩ : Addr).add j = ⟨b, off + j, none⟩ := fun j => by unfold Addr.add; split <;> simp_all
    have g := hcell i (by omega)
    rw [ad] at g
    simp [hil] at hi
    exact ⟨_, g, by rw [hi]⟩

end Go.Proofs.Ytjajgllkbchapaa
