/-
  The store behind the making of one new term: on worlds alone.
-/
import Derived.Test.YtddjihlmlfchdaaKeys
import Derived.Test.YtddjihlmlfchdaaLib
namespace Go.Proofs.Ytddjihlmlfchdaa
open Go.RowKit
set_option linter.unusedSimpArgs false
set_option linter.unusedVariables false

/-- The three blocks of a store, and that they are three. -/
theorem StoreAt.blocks {w : World} {s : Nat} {ns : List Nd} {dr : Int} (h : StoreAt w s ns dr) : ∃ sl c mb, w.heap[s]? = some (.cells #[.slice sl ns.length c, .map (some mb), .int .i64 dr] 53) ∧ w.heap[mb]? = some (.map (ents ns) ns.length) ∧ RowAt w sl c ns ∧ ns.length ≤ 262144 ∧
    s ≠ mb ∧ some s ≠ (Value.slice sl ns.length c).ownBlock ∧ some mb ≠ (Value.slice sl ns.length c).ownBlock ∧ s < w.heap.size ∧ mb < w.heap.size := by
  have hs := h.lt
  obtain ⟨sl, c, mb, h0, h1, h2, h3⟩ := h
  refine ⟨sl, c, mb, h0, h1, h2, h3, ?_, ?_, ?_, hs, (Array.getElem?_eq_some_iff.1 h1).1⟩
  · rintro rfl; rw [h0] at h1; simp at h1
  · rcases h2.form with ⟨rfl, _⟩ | ⟨nb, rfl, _, _, cur, hh⟩
    · simp [Value.ownBlock]
    · simp [Value.ownBlock]; rintro rfl; rw [h0] at hh; simp at hh
  · rcases h2.form with ⟨rfl, _⟩ | ⟨nb, rfl, _, _, cur, hh⟩
    · simp [Value.ownBlock]
    · simp [Value.ownBlock]; rintro rfl; rw [h1] at hh; simp at hh

/-- Behind the append: what it is, and that the store's struct and map are as they were. -/
theorem appended {w3 W w' : World} {s mb c : Nat} {sl : Option Addr} {ns : List Nd} {dr : Int} {n : Nd} {v' : Value}
    (h0 : w3.heap[s]? = some (.cells #[.slice sl ns.length c, .map (some mb), .int .i64 dr] 53)) (h1 : w3.heap[mb]? = some (.map (ents ns) ns.length))
    (hs : some s ≠ (Value.slice sl ns.length c).ownBlock) (hm : some mb ≠ (Value.slice sl ns.length c).ownBlock)
    (hW : Below w3.heap.size w3 W) (hown : w'.ownsRow 0 27 4 v' (ns.length + 1) (flat ns ++ n.cells)) (hg : W.grownBy w' (Value.slice sl ns.length c).ownBlock) :
    ∃ g cap, v' = .slice (some ⟨g, 0, none⟩) (ns.length + 1) cap ∧ w'.heap[s]? = some (.cells #[.slice sl ns.length c, .map (some mb), .int .i64 dr] 53) ∧ w'.heap[mb]? = some (.map (ents ns) ns.length) := by
  have ls := (Array.getElem?_eq_some_iff.1 h0).1
  have lm := (Array.getElem?_eq_some_iff.1 h1).1
  have q1 : w'.heap[s]? = some (.cells #[.slice sl ns.length c, .map (some mb), .int .i64 dr] 53) := ((hg.block s (Nat.lt_of_lt_of_le ls hW.size) hs).trans (hW.block s ls)).trans h0
  have q2 : w'.heap[mb]? = some (.map (ents ns) ns.length) := ((hg.block mb (Nat.lt_of_lt_of_le lm hW.size) hm).trans (hW.block mb lm)).trans h1
  rcases hown.2 with ⟨_, h⟩ | ⟨g, cap, cur, hv, _⟩
  · omega
  · exact ⟨g, cap, hv, q1, q2⟩

/-- The world behind the store of the new slice and the map's new entry. -/
def grown (w' : World) (s mb g cap : Nat) (ns : List Nd) (n : Nd) (nq : Nat) : World :=
  { (w'.setCell ⟨s, 0, none⟩ (.slice (some ⟨g, 0, none⟩) (ns.length + 1) cap)).drewN nq with heap := (w'.setCell ⟨s, 0, none⟩ (.slice (some ⟨g, 0, none⟩) (ns.length + 1) cap)).heap.setIfInBounds mb (.map (ents (ns ++ [n])) (ns.length + 1)) }

theorem heap_setCell_at {w : World} {b o : Nat} {cs : Array Value} {e : TypeId} {fr : Nat × Nat} (h : w.heap[b]? = some (.cells cs e fr)) (v : Value) : (w.setCell ⟨b, o, none⟩ v).heap[b]? = some (.cells (cs.setIfInBounds o v) e fr) := by
  simp [World.setCell, Array.getElem?_modify, h]

theorem grown_store {w' : World} {s mb g cap c nq : Nat} {sl : Option Addr} {ns : List Nd} {dr : Int} {n : Nd}
    (h0 : w'.heap[s]? = some (.cells #[.slice sl ns.length c, .map (some mb), .int .i64 dr] 53)) (h1 : w'.heap[mb]? = some (.map (ents ns) ns.length))
    (hown : w'.ownsRow 0 27 4 (.slice (some ⟨g, 0, none⟩) (ns.length + 1) cap) (ns.length + 1) (flat ns ++ n.cells)) (hn : (ns.length : Int) < 262144) :
    StoreAt (grown w' s mb g cap ns n nq) s (ns ++ [n]) dr := by
  have hsm : s ≠ mb := by rintro rfl; rw [h0] at h1; simp at h1
  have hsz : ∀ v, (w'.setCell ⟨s, 0, none⟩ v).heap.size = w'.heap.size := fun v => by simp [World.setCell]
  have lm := (Array.getElem?_eq_some_iff.1 h1).1
  refine ⟨some ⟨g, 0, none⟩, cap, mb, ?_, ?_, ?_, ?_⟩
  · simp only [grown]
    rw [Array.getElem?_setIfInBounds_ne (Ne.symm hsm), heap_setCell_at h0]
    simp
  · simp only [grown, Array.getElem?_setIfInBounds, hsz, if_pos lm]
    simp
  · refine ⟨flat_length _, Or.inr ?_⟩
    rcases hown.2 with ⟨h, _⟩ | ⟨g', cap', cur, hv, hb, hh, r⟩
    · simp at h
    · simp at hv
      obtain ⟨rfl, rfl⟩ := hv
      have hgs : g ≠ s := by rintro rfl; rw [h0] at hh; simp at hh
      have hgm : g ≠ mb := by rintro rfl; rw [h1] at hh; simp at hh
      refine ⟨g, cap, cur, by simp, hb, ?_, ?_⟩
      · simp only [grown]
        rw [Array.getElem?_setIfInBounds_ne (Ne.symm hgm), Below.heap_setCell _ _ _ _ hgs]
        exact hh
      · simpa [flat_append, flat] using r
  · simp; omega

theorem grown_cell {w' : World} {s mb g cap c nq : Nat} {sl : Option Addr} {ns : List Nd} {dr : Int} {n : Nd}
    (h0 : w'.heap[s]? = some (.cells #[.slice sl ns.length c, .map (some mb), .int .i64 dr] 53)) (hsm : s ≠ mb) :
    (grown w' s mb g cap ns n nq).cell? ⟨s, 0, none⟩ = some (.slice (some ⟨g, 0, none⟩) (ns.length + 1) cap) := by
  have e0 : (grown w' s mb g cap ns n nq).heap[s]? = some (.cells #[.slice (some ⟨g, 0, none⟩) (ns.length + 1) cap, .map (some mb), .int .i64 dr] 53) := by
    simp only [grown]
    rw [Array.getElem?_setIfInBounds_ne (Ne.symm hsm), heap_setCell_at h0]
    simp
  rw [cell_of_heap e0]
  rfl

theorem grown_moved {w w3 W w' : World} {s mb g cap c nq : Nat} {sl : Option Addr} {ns : List Nd} {dr : Int} {n : Nd}
    (hst : StoreAt w s ns dr) (hb : Below w.heap.size w w3)
    (h0 : w3.heap[s]? = some (.cells #[.slice sl ns.length c, .map (some mb), .int .i64 dr] 53)) (h1 : w3.heap[mb]? = some (.map (ents ns) ns.length))
    (hW : Below w3.heap.size w3 W) (hg : W.grownBy w' (Value.slice sl ns.length c).ownBlock) (hloc : (Value.slice (some ⟨g, 0, none⟩) (ns.length + 1) cap).ownBlock = (Value.slice sl ns.length c).ownBlock ∨ (Value.slice (some ⟨g, 0, none⟩) (ns.length + 1) cap).ownBlock = some W.heap.size)
    (g0 : w'.heap[s]? = some (.cells #[.slice sl ns.length c, .map (some mb), .int .i64 dr] 53)) (g1 : w'.heap[mb]? = some (.map (ents ns) ns.length)) :
    Moved s w (grown w' s mb g cap ns n nq) := by
  have hsm : s ≠ mb := by rintro rfl; rw [g0] at g1; simp at g1
  have hlt := hst.lt
  have c0 : w.cell? ⟨s, 0, none⟩ = some (.slice sl ns.length c) := by
    rw [← hb.cell (p := ⟨s, 0, none⟩) hlt, cell_of_heap h0]; rfl
  have c1 : w.cell? ⟨s, 1, none⟩ = some (.map (some mb)) := by
    rw [← hb.cell (p := ⟨s, 1, none⟩) hlt, cell_of_heap h0]; rfl
  have hsz : (grown w' s mb g cap ns n nq).heap.size = w'.heap.size := by simp [grown, World.setCell]
  have h3W := hW.size
  have hb3 := hb.size
  have hgs := hg.size
  refine ⟨(hg.os.trans hW.os).trans hb.os, (hg.tape.trans hW.tape).trans hb.tape, (hg.output.trans hW.output).trans hb.output, by omega, fun k hk hno => ?_, fun k ho => ?_⟩
  · have k1 : k ≠ s := fun e => hno (Or.inl e)
    have k2 : k ≠ mb := fun e => hno (Or.inr (Or.inl (by rw [e]; exact c1)))
    have k3 : some k ≠ (Value.slice sl ns.length c).ownBlock := by
      intro e
      cases sl with
      | none => simp [Value.ownBlock] at e
      | some a =>
        obtain ⟨ab, ao, asp⟩ := a
        simp [Value.ownBlock] at e
        subst e
        exact hno (Or.inr (Or.inr ⟨ao, asp, _, _, c0⟩))
    simp only [grown]
    rw [Array.getElem?_setIfInBounds_ne (Ne.symm k2), Below.heap_setCell _ _ _ _ k1, hg.block k (by omega) k3, hW.block k (by omega), hb.block k hk]
  · have e0 : (grown w' s mb g cap ns n nq).heap[s]? = some (.cells #[.slice (some ⟨g, 0, none⟩) (ns.length + 1) cap, .map (some mb), .int .i64 dr] 53) := by
      simp only [grown]
      rw [Array.getElem?_setIfInBounds_ne (Ne.symm hsm), heap_setCell_at g0]
      simp
    rcases ho with e | e | ⟨o, sp, n1, c1', e⟩
    · exact Or.inl (Or.inl e)
    · rw [cell_of_heap e0] at e
      simp at e
      exact Or.inl (Or.inr (Or.inl (by rw [← e]; exact c1)))
    · rw [cell_of_heap e0] at e
      simp at e
      obtain ⟨⟨rfl, _⟩, _⟩ := e
      rcases hloc with hl | hl
      · cases sl with
        | none => simp [Value.ownBlock] at hl
        | some a =>
          obtain ⟨ab, ao, asp⟩ := a
          simp [Value.ownBlock] at hl
          subst hl
          exact Or.inl (Or.inr (Or.inr ⟨ao, asp, _, _, c0⟩))
      · simp [Value.ownBlock] at hl
        exact Or.inr (by omega)

end Go.Proofs.Ytddjihlmlfchdaa
