/-
  The plain words of the store of terms: nodes, the list of nodes, what Make answers, where a store lies in memory, and what a call may turn.
-/
import Derived.Test.YtddjihlmlfchdaaRows
import Derived.WalkKit
import Derived.WalkSpells
import Derived.WalkLawsBesides
namespace Go.Proofs.Ytddjihlmlfchdaa
open Go.RowKit
set_option linter.unusedSimpArgs false
set_option linter.unusedVariables false

structure Nd where
  kind : Int
  label : ByteArray
  a : Int
  b : Int

def Nd.zero : Nd := ⟨0, ⟨#[]⟩, 0, 0⟩
def Nd.val (n : Nd) : Value := .agg #[.int .i64 n.kind, .string n.label, .int .i64 n.a, .int .i64 n.b]
def Nd.beq (n m : Nd) : Bool := n.kind == m.kind && n.label == m.label && n.a == m.a && n.b == m.b

theorem bytes_beq (a b : ByteArray) : (a == b) = true ↔ a = b := by
  cases a with | mk a => cases b with | mk b =>
  constructor
  · intro h
    have : (a == b) = true := h
    simp at this; simp [this]
  · intro h; cases h
    show (a == a) = true
    simp

theorem Nd.beq_iff (n m : Nd) : n.beq m = true ↔ n = m := by
  cases n; cases m; simp [Nd.beq, and_assoc, bytes_beq]

def hasB (ns : List Nd) (t : Int) : Bool := decide (1 ≤ t) && decide (t ≤ ns.length)
def nodeF (ns : List Nd) (t : Int) : Nd := if hasB ns t then ns.getD (t.toNat - 1) Nd.zero else Nd.zero

/-- The entries of the store's map. -/
def entsFrom : Nat → List Nd → List MapEntry
  | _, [] => []
  | i, n :: r => { key := n.val, val := .int .i64 (i + 1 : Nat), born := i } :: entsFrom (i + 1) r
def ents (ns : List Nd) : Array MapEntry := (entsFrom 0 ns).toArray

/-- The cells of a row of nodes. -/
def Nd.cells (n : Nd) : List Value := [.int .i64 n.kind, .string n.label, .int .i64 n.a, .int .i64 n.b]
def flat : List Nd → List Value
  | [] => []
  | n :: r => n.cells ++ flat r

theorem flat_append : ∀ (l m : List Nd), flat (l ++ m) = flat l ++ flat m
  | [], m => by simp [flat]
  | n :: r, m => by simp [flat, flat_append r m]

theorem flat_length : ∀ l : List Nd, (flat l).length = l.length * 4
  | [] => rfl
  | n :: r => by simp [flat, flat_length r, Nd.cells]; omega

theorem flat_get (n : Nd) : ∀ (l : List Nd) (i : Nat), l[i]? = some n → ∀ r, r < 4 → (flat l)[i * 4 + r]? = n.cells[r]?
  | [], i, h, r, _ => by simp at h
  | m :: l, 0, h, r, hr => by
    simp at h; subst h
    simp [flat, Nd.cells]
    match r, hr with
    | 0, _ => rfl
    | 1, _ => rfl
    | 2, _ => rfl
    | 3, _ => rfl
  | m :: l, i + 1, h, r, hr => by
    have := flat_get n l i (by simpa using h) r hr
    rw [← this]
    simp only [flat]
    rw [List.getElem?_append_right (by simp [Nd.cells]; omega)]
    congr 1
    simp [Nd.cells]; omega

/-- Where the row of nodes lies. -/
def RowAt (w : World) (sl : Option Addr) (c : Nat) (ns : List Nd) : Prop := w.ownsRow 0 27 4 (.slice sl ns.length c) ns.length (flat ns)

def StoreAt (w : World) (s : Nat) (ns : List Nd) (dr : Int) : Prop :=
  ∃ sl c mb, w.heap[s]? = some (.cells #[.slice sl ns.length c, .map (some mb), .int .i64 dr] 53) ∧ w.heap[mb]? = some (.map (ents ns) ns.length) ∧ RowAt w sl c ns ∧ ns.length ≤ 262144

/-- The blocks that are the store's own. -/
def Own (w : World) (s k : Nat) : Prop :=
  k = s ∨ w.cell? ⟨s, 1, none⟩ = some (.map (some k)) ∨ ∃ o sp n c, w.cell? ⟨s, 0, none⟩ = some (.slice (some ⟨k, o, sp⟩) n c)

/-- What a call on the store at s may turn: the store's own blocks, and new ones. -/
structure Moved (s : Nat) (w w' : World) : Prop where
  os : w'.os = w.os
  tape : w'.tape = w.tape
  output : w'.output = w.output
  size : w.heap.size ≤ w'.heap.size
  block : ∀ k, k < w.heap.size → ¬ Own w s k → w'.heap[k]? = w.heap[k]?
  own : ∀ k, Own w' s k → Own w s k ∨ w.heap.size ≤ k

theorem cell_of_heap {w : World} {b : Nat} {arr : Array Value} {e : TypeId} {fr : Nat × Nat} (h : w.heap[b]? = some (.cells arr e fr)) (o : Nat) : w.cell? ⟨b, o, none⟩ = arr[o]? := by
  simp [World.cell?, h]
theorem frozen_of_heap {w : World} {b : Nat} {arr : Array Value} {e : TypeId} (h : w.heap[b]? = some (.cells arr e)) (o : Nat) : w.frozen? ⟨b, o, none⟩ = false := by
  simp [World.frozen?, h]

theorem StoreAt.lt {w : World} {s : Nat} {ns : List Nd} {dr : Int} (h : StoreAt w s ns dr) : s < w.heap.size := by
  obtain ⟨sl, c, mb, h0, _⟩ := h
  exact (Array.getElem?_eq_some_iff.1 h0).1

theorem RowAt.below {w w' : World} {sl : Option Addr} {c : Nat} {ns : List Nd} (h2 : RowAt w sl c ns) (hb : Below w.heap.size w w') : RowAt w' sl c ns := by
  have lt : ∀ {k : Nat} {o : Obj}, w.heap[k]? = some o → w'.heap[k]? = some o := fun {k o} hk => (hb.block k (Array.getElem?_eq_some_iff.1 hk).1).trans hk
  refine ⟨h2.1, ?_⟩
  rcases h2.2 with h2 | ⟨nb, cap, cur, e, hl, hh, r⟩
  · exact Or.inl h2
  · exact Or.inr ⟨nb, cap, cur, e, hl, lt hh, r⟩

/-- What was there reads as it did: a call that only makes new memory. -/
theorem StoreAt.below {w w' : World} {s : Nat} {ns : List Nd} {dr : Int} (h : StoreAt w s ns dr) (hb : Below w.heap.size w w') : StoreAt w' s ns dr := by
  have lt : ∀ {k : Nat} {o : Obj}, w.heap[k]? = some o → w'.heap[k]? = some o := fun {k o} hk => (hb.block k (Array.getElem?_eq_some_iff.1 hk).1).trans hk
  obtain ⟨sl, c, mb, h0, h1, h2, h3⟩ := h
  refine ⟨sl, c, mb, lt h0, lt h1, ?_, h3⟩
  exact h2.below hb

theorem own_below {w w' : World} {s : Nat} (hs : s < w.heap.size) (hb : Below w.heap.size w w') (k : Nat) : Own w' s k ↔ Own w s k := by
  unfold Own
  rw [hb.cell (p := ⟨s, 1, none⟩) hs, hb.cell (p := ⟨s, 0, none⟩) hs]

theorem Moved.ofBelow {w w' : World} {s : Nat} (hs : s < w.heap.size) (hb : Below w.heap.size w w') : Moved s w w' :=
  ⟨hb.os, hb.tape, hb.output, hb.size, fun k hk _ => hb.block k hk, fun k hk => Or.inl ((own_below hs hb k).1 hk)⟩

theorem Moved.refl (s : Nat) (w : World) : Moved s w w := ⟨rfl, rfl, rfl, Nat.le_refl _, fun _ _ _ => rfl, fun _ h => Or.inl h⟩

theorem Moved.trans {s : Nat} {a b c : World} (h : Moved s a b) (k : Moved s b c) : Moved s a c := by
  refine ⟨k.os.trans h.os, k.tape.trans h.tape, k.output.trans h.output, Nat.le_trans h.size k.size, fun i hi hn => ?_, fun i hi => ?_⟩
  · have : ¬ Own b s i := fun ho => (h.own i ho).elim hn (fun hge => by omega)
    exact (k.block i (Nat.lt_of_lt_of_le hi h.size) this).trans (h.block i hi hn)
  · rcases k.own i hi with ho | hge
    · exact h.own i ho
    · exact Or.inr (Nat.le_trans h.size hge)

theorem bcell {B : Nat} {W w1 : World} (hb : Below B W w1) : (∀ b o, b < B → w1.cell? ⟨b, o, none⟩ = W.cell? ⟨b, o, none⟩) ∧ (∀ b o, b < B → w1.frozen? ⟨b, o, none⟩ = W.frozen? ⟨b, o, none⟩) :=
  ⟨fun b o h => hb.cell (p := ⟨b, o, none⟩) h, fun b o h => hb.frozen (p := ⟨b, o, none⟩) h⟩

theorem RowAt.form {w : World} {sl : Option Addr} {c : Nat} {ns : List Nd} (h : RowAt w sl c ns) : (sl = none ∧ c = 0 ∧ ns = []) ∨ ∃ nb, sl = some ⟨nb, 0, none⟩ ∧ nb < w.heap.size ∧ ns.length ≤ c ∧ ∃ cur, w.heap[nb]? = some (.cells cur 27) := by
  rcases h.2 with ⟨h1, h2⟩ | ⟨g, cap, cur, h1, _, hh, hl, _⟩
  · simp at h1
    exact Or.inl ⟨h1.1, h1.2.2, List.eq_nil_of_length_eq_zero h2⟩
  · simp at h1
    obtain ⟨rfl, rfl⟩ := h1
    exact Or.inr ⟨g, rfl, (Array.getElem?_eq_some_iff.1 hh).1, hl, cur, hh⟩

theorem RowAt.cell {w : World} {nb c : Nat} {ns : List Nd} (h : RowAt w (some ⟨nb, 0, none⟩) c ns) {i : Nat} (hi : i < ns.length) :
    w.cell? ⟨nb, i * 4, none⟩ = some (.int .i64 (ns.getD i Nd.zero).kind) ∧ w.cell? ⟨nb, i * 4 + 1, none⟩ = some (.string (ns.getD i Nd.zero).label) ∧
    w.cell? ⟨nb, i * 4 + 2, none⟩ = some (.int .i64 (ns.getD i Nd.zero).a) ∧ w.cell? ⟨nb, i * 4 + 3, none⟩ = some (.int .i64 (ns.getD i Nd.zero).b) := by
  have e : ns[i]? = some (ns.getD i Nd.zero) := by simp [List.getD, hi]
  have g : ∀ r, r < 4 → w.cell? ⟨nb, i * 4 + r, none⟩ = (ns.getD i Nd.zero).cells[r]? := fun r hr => by
    rw [World.ownsRow.cellAt h _ (by omega), flat_get _ ns i e r hr]
  exact ⟨g 0 (by omega), g 1 (by omega), g 2 (by omega), g 3 (by omega)⟩

end Go.Proofs.Ytddjihlmlfchdaa
