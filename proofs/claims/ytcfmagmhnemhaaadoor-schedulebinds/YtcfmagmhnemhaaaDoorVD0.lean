/-
  The secrets that come of an epoch secret: derive.
-/
import Derived.Test.YtcfmagmhnemhaaaDoorVC
import Derived.Deep.RegionHeld3
import Derived.Deep.DrawnRows
import Derived.BigRegion
namespace Go.Proofs.YtcfmagmhnemhaaaDoor
open Go.RowKit
set_option linter.unusedSimpArgs false
set_option linter.unusedVariables false
attribute [local go_sem ↓] Go.wp_at_zero Go.wp_at_succ

/-- Something that is neither the store's nor older than w0 turns. -/
theorem Run.grown {s : Nat} {w0 w w' : World} {ns ns' : List Nd} {dr : Int} {c : Nat} {row : Option Nat} (h : Run s w0 w ns ns' dr c) (hg : w.grownBy w' row) (hr : ∀ g, row = some g → w0.heap.size ≤ g ∧ ¬ Own w s g) (ht : Big w0) : Run s w0 w' ns ns' dr c ∧ ∀ k, Own w' s k ↔ Own w s k := by
  obtain ⟨h1, h2⟩ := h.seat.st.keep (w' := w') (fun k hk => hg.block k (h.seat.st.own_lt hk) (fun e => (hr k e.symm).2 hk))
  have hlow : ∀ k, k < w0.heap.size → w'.heap[k]? = w.heap[k]? := fun k hk => hg.block k (Nat.lt_of_lt_of_le hk h.mv.size) (fun e => by have := (hr k e.symm).1; omega)
  exact ⟨⟨⟨h1, h.seat.wf, h.seat.laid.low ht hlow, h.seat.off.keep h2⟩, ⟨hg.os.trans h.mv.os, hg.tape.trans h.mv.tape, hg.output.trans h.mv.output, Nat.le_trans h.mv.size hg.size, fun k hk hn => (hlow k hk).trans (h.mv.block k hk hn), fun k hk => h.mv.own k ((h2 k).1 hk), (World.cell?_of_block (w := w) (a := ⟨s, 1, none⟩) (hg.block s h.seat.st.lt (fun e => (hr s e.symm).2 (Or.inl rfl)))).trans h.mv.keep⟩, h.st⟩, h2⟩

/-- A block and its cells. -/
def Cells (W : World) (e : Nat) (t : TypeId) (l : List Value) : Prop := W.heap[e]? = some (.cells l.toArray t)
theorem Cells.lt {W : World} {e : Nat} {t : TypeId} {l : List Value} (h : Cells W e t l) : e < W.heap.size := (Array.getElem?_eq_some_iff.1 h).1
theorem Cells.cell {W : World} {e : Nat} {t : TypeId} {l : List Value} (h : Cells W e t l) (i : Nat) : W.cell? ⟨e, i, none⟩ = l[i]? := by rw [cell_of_heap h]; simp
theorem Cells.frozen {W : World} {e : Nat} {t : TypeId} {l : List Value} (h : Cells W e t l) (i : Nat) : W.frozen? ⟨e, i, none⟩ = false := frozen_of_heap h i
theorem Cells.set {W : World} {e : Nat} {t : TypeId} {l : List Value} (h : Cells W e t l) (i : Nat) (v : Value) : Cells (W.setCell ⟨e, i, none⟩ v) e t (l.set i v) := by unfold Cells; rw [heap_setCell_at h]; simp
theorem Cells.below {W W' : World} {e : Nat} {t : TypeId} {l : List Value} (h : Cells W e t l) (hb : Below W.heap.size W W') : Cells W' e t l := (hb.block e h.lt).trans h
theorem Cells.run {W W' : World} {e s : Nat} {t : TypeId} {l : List Value} {ns ns' : List Nd} {dr : Int} {c : Nat} (h : Cells W e t l) (k : Run s W W' ns ns' dr c) (hn : ¬ Own W s e) : Cells W' e t l := (k.mv.block e h.lt hn).trans h
theorem Cells.new (W : World) (t : TypeId) (l : List Value) : Cells (W.alloc (.cells l.toArray t)) W.heap.size t l := heap_alloc_new W _

theorem Run.setE {s : Nat} {w0 w : World} {ns ns' : List Nd} {dr : Int} {c : Nat} (h : Run s w0 w ns ns' dr c) (hb : Big w0) {e : Nat} (he : w0.heap.size ≤ e) (hn : ¬ Own w s e) (i : Nat) (v : Value) : Run s w0 (w.setCell ⟨e, i, none⟩ v) ns ns' dr c ∧ ¬ Own (w.setCell ⟨e, i, none⟩ v) s e := by
  have hgr : w.grownBy (w.setCell ⟨e, i, none⟩ v) (some e) := ⟨rfl, rfl, rfl, by simp [World.setCell], fun k hk hne => Below.heap_setCell _ _ _ _ (fun e => hne (by rw [e]))⟩
  obtain ⟨h1, h2⟩ := h.grown hgr (fun g e => by cases e; exact ⟨he, hn⟩) hb
  exact ⟨h1, fun ho => hn ((h2 e).1 ho)⟩

/-- The first i secrets are made. -/
def Done (ns : List Nd) (E : Tm) (l : List Int) (i : Nat) : Prop := ∀ j < i, ∃ y k, l[j]? = some y ∧ labs[4 + j]? = some k ∧ Means ns y (ofT k E)
theorem Done.keeps {ns ns' : List Nd} {E : Tm} {l : List Int} {i : Nat} (h : Done ns E l i) (hp : ns <+: ns') : Done ns' E l i := fun j hj => by
  obtain ⟨y, k, h1, h2, h3⟩ := h j hj
  exact ⟨y, k, h1, h2, h3.keeps hp⟩
theorem Done.put {ns : List Nd} {E : Tm} {l : List Int} {i : Nat} (h : Done ns E l i) (hi : i < l.length) {y : Int} {k : ByteArray} (hk : labs[4 + i]? = some k) (hy : Means ns y (ofT k E)) : Done ns E (l.set i y) (i + 1) := fun j hj => by
  by_cases e : j = i
  · subst e
    exact ⟨y, k, by simp [hi], hk, hy⟩
  · obtain ⟨y', k', h1, h2, h3⟩ := h j (by omega)
    exact ⟨y', k', by rw [List.getElem?_set_ne (fun e' => e e'.symm)]; exact h1, h2, h3⟩

def epCells (a0 a1 a2 a3 : Int) (l : List Int) : List Value := .int .i64 a0 :: .int .i64 a1 :: .int .i64 a2 :: .int .i64 a3 :: l.map (Value.int .i64)

end Go.Proofs.YtcfmagmhnemhaaaDoor
