/-
  A slice of the law's own beside the store: it stays what it is while the store is used, and the store while the slice grows.
-/
import Derived.Test.YtddjihlmlfchdaaPure
import Derived.Maps.AppendAt
namespace Go.Proofs.Ytddjihlmlfchdaa
open Go.RowKit
set_option linter.unusedSimpArgs false
set_option linter.unusedVariables false

structure Side (w0 w : World) (s : Nat) (e size : Nat) (v : Value) (n : Nat) (xs : List Value) : Prop where
  own : w.ownsRow w0.heap.size e size v n xs
  free : ∀ g, v.ownBlock = some g → ¬ Own w s g

theorem Side.nil (w0 w : World) (s e size : Nat) : Side w0 w s e size (.slice none 0 0) 0 [] := ⟨World.ownsRow_nil _ _ _ _, fun g h => by simp [Value.ownBlock] at h⟩

theorem Side.moved {w0 w w' : World} {s e size n : Nat} {v : Value} {xs : List Value} (h : Side w0 w s e size v n xs) (hm : Moved s w w') : Side w0 w' s e size v n xs := by
  refine ⟨⟨h.own.1, ?_⟩, fun g hg ho => ?_⟩
  · rcases h.own.2 with hn | ⟨g, cap, cur, rfl, hb, hgg, rest⟩
    · exact Or.inl hn
    · refine Or.inr ⟨g, cap, cur, rfl, hb, ?_, rest⟩
      rw [hm.block g (Array.getElem?_eq_some_iff.1 hgg).1 (h.free g rfl)]
      exact hgg
  · have hlt := (h.own.lt g hg).2
    rcases hm.own g ho with h1 | h1
    · exact h.free g hg h1
    · omega

theorem Side.grow {w0 w w' : World} {s e size n : Nat} {v : Value} {xs : List Value} (h : Side w0 w s e size v n xs) (hs : s < w.heap.size) (hb : Below w.heap.size w w') : Side w0 w' s e size v n xs := h.moved (.ofBelow hs hb)

theorem own_grownBy {w w' : World} {s : Nat} {row : Option Nat} (hs : s < w.heap.size) (hg : w.grownBy w' row) (hr : ∀ g, row = some g → ¬ Own w s g) (k : Nat) : Own w' s k ↔ Own w s k := by
  have hb : w'.heap[s]? = w.heap[s]? := hg.block s hs (fun e => hr s e.symm (Or.inl rfl))
  unfold Own
  rw [World.cell?_of_block (w := w) (a := ⟨s, 1, none⟩) hb, World.cell?_of_block (w := w) (a := ⟨s, 0, none⟩) hb]

theorem Mine.appended {w0 w w' : World} {s e size n m : Nat} {v v' : Value} {xs ys : List Value} {ns : List Nd} {dr : Int} (h : Mine w0 s w ns dr) (hd : Side w0 w s e size v n xs)
    (hg : w.grownBy w' v.ownBlock) (ho : w'.ownsRow w0.heap.size e size v' m ys) (hl : v'.ownBlock = v.ownBlock ∨ v'.ownBlock = some w.heap.size) : Mine w0 s w' ns dr ∧ Side w0 w' s e size v' m ys := by
  have hs := h.st.lt
  have hsz := h.below.size
  have hiff := own_grownBy hs hg hd.free
  have hnot : ∀ k, Own w s k → some k ≠ v.ownBlock := fun k hk e => hd.free k e.symm hk
  obtain ⟨sl, c, mb, h0, h1, h2, h3⟩ := h.st
  have o1 : Own w s mb := Or.inr (Or.inl (by rw [cell_of_heap h0]; rfl))
  have b0 := (hg.block s hs (hnot s (Or.inl rfl))).trans h0
  have b1 := (hg.block mb (Array.getElem?_eq_some_iff.1 h1).1 (hnot mb o1)).trans h1
  have st' : StoreAt w' s ns dr := by
    refine ⟨sl, c, mb, b0, b1, ⟨h2.1, ?_⟩, h3⟩
    rcases h2.2 with hn | ⟨g, cap, cur, hv, hb, hgg, rest⟩
    · exact Or.inl hn
    · refine Or.inr ⟨g, cap, cur, hv, hb, ?_, rest⟩
      have hv2 := hv
      simp at hv2
      have o2 : Own w s g := Or.inr (Or.inr ⟨0, none, _, _, by rw [cell_of_heap h0, hv2.1]; rfl⟩)
      exact (hg.block g (Array.getElem?_eq_some_iff.1 hgg).1 (hnot g o2)).trans hgg
  refine ⟨⟨st', h.below.trans ⟨hg.os, hg.tape, hg.output, hg.size, fun k hk => hg.block k (by omega) (fun e => ?_)⟩, fun k hk => h.own k ((hiff k).1 hk)⟩, ho, fun g hgb hown => ?_⟩
  · have := (hd.own.lt k e.symm).1
    omega
  · have hw := (hiff g).1 hown
    rcases hl with hl | hl
    · exact hd.free g (by rw [← hl]; exact hgb) hw
    · rw [hl] at hgb
      simp at hgb
      subst hgb
      rcases hw with e | e | ⟨o, sp, n1, c1, e⟩
      · omega
      · rw [cell_of_heap h0] at e
        simp at e
        have := (Array.getElem?_eq_some_iff.1 h1).1
        omega
      · rw [cell_of_heap h0] at e
        simp at e
        rcases h2.form with ⟨rfl, _⟩ | ⟨nb, rfl, hlt, _⟩
        · simp at e
        · simp at e
          try omega

/-- A cell of the slice. -/
theorem Side.ints {w0 w : World} {s n : Nat} {v : Value} {ds : List Int} (h : Side w0 w s 3 1 v n (ds.map (Value.int .i64))) {j : Nat} (hj : j < n) : ∃ g cap, v = .slice (some ⟨g, 0, none⟩) n cap ∧ g < w.heap.size ∧ w.cell? ⟨g, j, none⟩ = some (.int .i64 (ds.getD j 0)) := by
  have hl : ds.length = n := by have := h.own.1; simpa using this
  rcases h.own.2 with ⟨_, h0⟩ | ⟨g, cap, cur, rfl, hb, hgg, rest⟩
  · omega
  · refine ⟨g, cap, rfl, (Array.getElem?_eq_some_iff.1 hgg).1, ?_⟩
    rw [World.ownsRow.cellAt h.own j (by omega)]
    have hj' : j < ds.length := by omega
    simp [List.getD, hj']

theorem Side.form {w0 w : World} {s e size n : Nat} {v : Value} {xs : List Value} (h : Side w0 w s e size v n xs) : ∃ a cap, v = .slice a n cap := by
  rcases h.own.2 with ⟨rfl, rfl⟩ | ⟨g, cap, cur, rfl, _⟩
  · exact ⟨_, _, rfl⟩
  · exact ⟨_, _, rfl⟩

end Go.Proofs.Ytddjihlmlfchdaa
