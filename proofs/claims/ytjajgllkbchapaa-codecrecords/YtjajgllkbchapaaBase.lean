/-
  Where a Writer and a Reader lie in memory, and what their calls may turn.
-/
import Derived.Test.YtjajgllkbchapaaPure
import Derived.WalkKit
import Derived.WalkSpells
import Derived.WalkLawsBesides
import Derived.Lib.Strings
import Derived.Maps.AppendAt
import Derived.Deep.RegionLaw
import Derived.Lib.BufferWrite
import Derived.Lib.AppendStr
import Derived.Lib.OwnKind
import Derived.Below
namespace Go.Proofs.Ytjajgllkbchapaa
open Go.RowKit
set_option linter.unusedSimpArgs false
set_option linter.unusedVariables false

theorem cell_of_heap {w : World} {b : Nat} {arr : Array Value} {e : TypeId} {fr : Nat × Nat} (h : w.heap[b]? = some (.cells arr e fr)) (o : Nat) : w.cell? ⟨b, o, none⟩ = arr[o]? := by
  simp [World.cell?, h]
theorem frozen_of_heap {w : World} {b : Nat} {arr : Array Value} {e : TypeId} (h : w.heap[b]? = some (.cells arr e)) (o : Nat) : w.frozen? ⟨b, o, none⟩ = false := by
  simp [World.frozen?, h]
theorem heap_setCell_at {w : World} {b o : Nat} {cs : Array Value} {e : TypeId} {fr : Nat × Nat} (h : w.heap[b]? = some (.cells cs e fr)) (v : Value) : (w.setCell ⟨b, o, none⟩ v).heap[b]? = some (.cells (cs.setIfInBounds o v) e fr) := by
  simp [World.setCell, Array.getElem?_modify, h]

theorem bcell {B : Nat} {W w1 : World} (hb : Below B W w1) : (∀ b o, b < B → w1.cell? ⟨b, o, none⟩ = W.cell? ⟨b, o, none⟩) ∧ (∀ b o, b < B → w1.frozen? ⟨b, o, none⟩ = W.frozen? ⟨b, o, none⟩) :=
  ⟨fun b o h => hb.cell (p := ⟨b, o, none⟩) h, fun b o h => hb.frozen (p := ⟨b, o, none⟩) h⟩

theorem gcell {w w' : World} {row : Option Nat} (hg : w.grownBy w' row) {b : Nat} (hlt : b < w.heap.size) (hne : some b ≠ row) : (∀ o, w'.cell? ⟨b, o, none⟩ = w.cell? ⟨b, o, none⟩) ∧ (∀ o, w'.frozen? ⟨b, o, none⟩ = w.frozen? ⟨b, o, none⟩) :=
  ⟨fun o => World.cell?_of_block (a := ⟨b, o, none⟩) (hg.block b hlt hne), fun o => World.frozen?_of_block (a := ⟨b, o, none⟩) (hg.block b hlt hne)⟩

/-- The Writer at block p has written bs, and its error is er. -/
def WAt (w : World) (p : Nat) (bs : List UInt8) (er : Int) : Prop :=
  ∃ v, w.heap[p]? = some (.cells #[v, .int .i64 er] 127) ∧ w.ownsRow p 5 1 v bs.length (Lib.byteCells bs)

/-- What a call on the Writer at p may turn: the Writer, rows of bytes behind it, new memory. -/
structure WFr (p : Nat) (w w' : World) : Prop where
  os : w'.os = w.os
  tape : w'.tape = w.tape
  output : w'.output = w.output
  size : w.heap.size ≤ w'.heap.size
  block : ∀ k, k < w.heap.size → (k < p ∨ (k ≠ p ∧ ∀ cur fr, w.heap[k]? ≠ some (.cells cur 5 fr))) → w'.heap[k]? = w.heap[k]?

theorem WFr.refl (p : Nat) (w : World) : WFr p w w := ⟨rfl, rfl, rfl, Nat.le_refl _, fun _ _ _ => rfl⟩
theorem WFr.trans {p : Nat} {a b c : World} (h : WFr p a b) (k : WFr p b c) : WFr p a c := by
  refine ⟨k.os.trans h.os, k.tape.trans h.tape, k.output.trans h.output, Nat.le_trans h.size k.size, fun i hi hc => ?_⟩
  have e := h.block i hi hc
  rw [k.block i (Nat.lt_of_lt_of_le hi h.size) (by rw [e]; exact hc), e]
theorem WFr.below {p : Nat} {a b : World} (h : WFr p a b) (hp : p < a.heap.size) : Below p a b :=
  ⟨h.os, h.tape, h.output, h.size, fun k hk => h.block k (by omega) (Or.inl hk)⟩
theorem WFr.ofBelow {p : Nat} {a b : World} (h : Below a.heap.size a b) : WFr p a b :=
  ⟨h.os, h.tape, h.output, h.size, fun k hk _ => h.block k hk⟩
theorem WFr.drew {p : Nat} {a b : World} (h : WFr p a b) : WFr p a b.drew := ⟨h.os, h.tape, h.output, h.size, h.block⟩
theorem WFr.setP {p o : Nat} {a b : World} (h : WFr p a b) (v : Value) : WFr p a (b.setCell ⟨p, o, none⟩ v) := by
  refine ⟨h.os, h.tape, h.output, by simpa [World.setCell] using h.size, fun k hk hc => ?_⟩
  have hne : k ≠ p := by
    rcases hc with h1 | h1
    · omega
    · exact h1.1
  rw [Below.heap_setCell _ _ _ _ hne]
  exact h.block k hk hc
theorem WFr.alloc {p : Nat} {a b : World} (h : WFr p a b) (o : Obj) : WFr p a (b.alloc o) :=
  ⟨h.os, h.tape, h.output, by have := h.size; simp; omega, fun k hk hc => (Below.heap_alloc _ _ _ (Nat.lt_of_lt_of_le hk h.size)).trans (h.block k hk hc)⟩

theorem WAt.lt {w : World} {p : Nat} {bs : List UInt8} {er : Int} (h : WAt w p bs er) : p < w.heap.size := by
  obtain ⟨v, h0, _⟩ := h
  exact (Array.getElem?_eq_some_iff.1 h0).1

theorem ownsRow_keep {w w' : World} {base e size n : Nat} {v : Value} {xs : List Value} (h : w.ownsRow base e size v n xs) (hk : ∀ k cur, v.ownBlock = some k → w.heap[k]? = some (.cells cur e (0, 0)) → w'.heap[k]? = w.heap[k]?) : w'.ownsRow base e size v n xs := by
  refine ⟨h.1, ?_⟩
  rcases h.2 with h1 | ⟨g, cap, cur, rfl, hg, hh, r⟩
  · exact Or.inl h1
  · exact Or.inr ⟨g, cap, cur, rfl, hg, (hk g cur rfl hh).trans hh, r⟩

theorem ownsRow_below {w w' : World} {base e size n : Nat} {v : Value} {xs : List Value} (h : w.ownsRow base e size v n xs) (hb : Below w.heap.size w w') : w'.ownsRow base e size v n xs :=
  ownsRow_keep h fun k cur _ hh => hb.block k (Array.getElem?_eq_some_iff.1 hh).1

theorem ownsRow_form {w : World} {base e size n : Nat} {v : Value} {xs : List Value} (h : w.ownsRow base e size v n xs) : ∃ a cap, v = .slice a n cap := by
  rcases h.2 with ⟨rfl, rfl⟩ | ⟨g, cap, cur, rfl, _⟩
  · exact ⟨_, _, rfl⟩
  · exact ⟨_, _, rfl⟩

theorem WAt.below {w w' : World} {p : Nat} {bs : List UInt8} {er : Int} (h : WAt w p bs er) (hb : Below w.heap.size w w') : WAt w' p bs er := by
  have hlt := h.lt
  obtain ⟨v, h0, h1⟩ := h
  exact ⟨v, (hb.block p hlt).trans h0, ownsRow_below h1 hb⟩

theorem WAt.drew {w : World} {p : Nat} {bs : List UInt8} {er : Int} (h : WAt w p bs er) : WAt w.drew p bs er := h

/-- The Writer's error is set. -/
theorem WAt.fail {w : World} {p : Nat} {bs : List UInt8} {er : Int} (h : WAt w p bs er) (x : Int) : WAt (w.setCell ⟨p, 1, none⟩ (.int .i64 x)) p bs x := by
  obtain ⟨v, h0, h1⟩ := h
  refine ⟨v, by rw [heap_setCell_at h0]; simp, ownsRow_keep h1 fun k cur hk hh => Below.heap_setCell _ _ _ _ ?_⟩
  intro e
  have e' : k = p := e
  rw [e', h0] at hh
  simp at hh

/-- Its cells, as the walk wants them. -/
theorem WAt.cells {w : World} {p : Nat} {bs : List UInt8} {er : Int} (h : WAt w p bs er) : ∃ a c, w.cell? ⟨p, 0, none⟩ = some (.slice a bs.length c) ∧ w.cell? ⟨p, 1, none⟩ = some (.int .i64 er) ∧
    (∀ o, w.frozen? ⟨p, o, none⟩ = false) ∧ w.ownsRow p 5 1 (.slice a bs.length c) bs.length (Lib.byteCells bs) ∧ p < w.heap.size ∧ (Value.slice a bs.length c).ownBlock ≠ some p := by
  have hlt := h.lt
  obtain ⟨v, h0, h1⟩ := h
  obtain ⟨a, c, rfl⟩ := ownsRow_form h1
  refine ⟨a, c, by rw [cell_of_heap h0]; rfl, by rw [cell_of_heap h0]; rfl, fun o => frozen_of_heap h0 o, h1, hlt, fun e => ?_⟩
  obtain ⟨cc, fz, hh⟩ := Lib.ownsRow_kind h1 p e
  rw [h0] at hh
  simp at hh

/-- Behind an append to the Writer's bytes and the store of the new slice. -/
theorem WAt.pushed {w W w' : World} {p k c : Nat} {bs news : List UInt8} {er : Int} {a : Option Addr} {v' : Value} (h : WAt w p bs er) (hc : w.cell? ⟨p, 0, none⟩ = some (.slice a bs.length c)) (hW : Below w.heap.size w W)
    (hown : w'.ownsRow p 5 1 v' (bs.length + k) (Lib.byteCells bs ++ Lib.byteCells news)) (hk : news.length = k) (hg : W.grownBy w' (Value.slice a bs.length c).ownBlock) :
    WAt (w'.setCell ⟨p, 0, none⟩ v') p (bs ++ news) er ∧ WFr p w (w'.setCell ⟨p, 0, none⟩ v') := by
  have hlt := h.lt
  obtain ⟨v, h0, h1⟩ := h
  have hv : v = .slice a bs.length c := by rw [cell_of_heap h0] at hc; simpa using hc
  subst hv
  have hsz := hW.size
  have hkind := Lib.ownsRow_kind h1
  have hpne : some p ≠ (Value.slice a bs.length c).ownBlock := by
    intro e
    obtain ⟨cc, fz, hh⟩ := hkind p e.symm
    rw [h0] at hh
    simp at hh
  have q0 : w'.heap[p]? = some (.cells #[.slice a bs.length c, .int .i64 er] 127) := ((hg.block p (by omega) hpne).trans (hW.block p hlt)).trans h0
  refine ⟨⟨v', by rw [heap_setCell_at q0]; simp, ?_⟩, ⟨hg.os.trans hW.os, hg.tape.trans hW.tape, hg.output.trans hW.output, ?_, fun i hi hcnd => ?_⟩⟩
  · have : w'.ownsRow p 5 1 v' (bs ++ news).length (Lib.byteCells (bs ++ news)) := by simpa [Lib.byteCells, hk] using hown
    refine ownsRow_keep this fun i cur hi hh => Below.heap_setCell _ _ _ _ ?_
    intro e
    have e' : i = p := e
    rw [e', q0] at hh
    simp at hh
  · have := hg.size
    simp [World.setCell]
    omega
  · have hip : i ≠ p := by
      rcases hcnd with h1 | h1
      · omega
      · exact h1.1
    have hio : some i ≠ (Value.slice a bs.length c).ownBlock := by
      intro e
      have hb := (h1.lt i e.symm).1
      obtain ⟨cc, fz, hh⟩ := hkind i e.symm
      rcases hcnd with h2 | h2
      · omega
      · exact h2.2 _ _ hh
    rw [Below.heap_setCell _ _ _ _ hip, hg.block i (by omega) hio, hW.block i hi]

/-- Behind a store into the Writer's bytes. -/
theorem WAt.poked {w : World} {p g c j : Nat} {bs : List UInt8} {b : UInt8} {er : Int} (h : WAt w p bs er) (hc : w.cell? ⟨p, 0, none⟩ = some (.slice (some ⟨g, 0, none⟩) bs.length c)) :
    WAt (w.setCell ⟨g, j, none⟩ (.int .u8 b.toNat)) p (bs.set j b) er ∧ WFr p w (w.setCell ⟨g, j, none⟩ (.int .u8 b.toNat)) := by
  have hlt := h.lt
  obtain ⟨v, h0, h1⟩ := h
  have hv : v = .slice (some ⟨g, 0, none⟩) bs.length c := by rw [cell_of_heap h0] at hc; simpa using hc
  subst hv
  obtain ⟨cc, fz, hh⟩ := Lib.ownsRow_kind h1 g rfl
  have hgp : g ≠ p := by rintro rfl; rw [h0] at hh; simp at hh
  have hpg : p ≤ g := (h1.lt g rfl).1
  obtain ⟨s1, s2⟩ := h1.stored j (.int .u8 b.toNat)
  refine ⟨⟨_, by rw [Below.heap_setCell _ _ _ _ (Ne.symm hgp)]; exact h0, ?_⟩, ⟨s2.os, s2.tape, s2.output, s2.size, fun i hi hcnd => ?_⟩⟩
  · have e1 : Lib.byteCells (bs.set j b) = (Lib.byteCells bs).set j (.int .u8 b.toNat) := by simp [Lib.byteCells, List.map_set]
    rw [e1]
    simpa using s1
  · refine Below.heap_setCell _ _ _ _ ?_
    intro e
    have e' : i = g := e
    subst e'
    rcases hcnd with h2 | h2
    · omega
    · exact h2.2 _ _ hh

end Go.Proofs.Ytjajgllkbchapaa
