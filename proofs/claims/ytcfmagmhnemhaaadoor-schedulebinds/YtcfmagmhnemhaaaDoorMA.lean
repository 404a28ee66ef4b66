/-
  The store of terms: nodes, memory, how nodes are compared; steps of append.
-/
import Derived.Test.YtcfmagmhnemhaaaDoorHJ
import Derived.WalkKit
import Derived.WalkSpells
import Derived.WalkLawsBesides
import Derived.Maps.AppendAt
import Derived.Deep.RegionLaw
namespace Go.Proofs.YtcfmagmhnemhaaaDoor
open Go.RowKit
set_option linter.unusedSimpArgs false
set_option linter.unusedVariables false

structure Nd where
  kind : Int
  label : ByteArray
  a : Int
  b : Int

def Nd.zero : Nd := ⟨0, ⟨#[]⟩, 0, 0⟩

def Nd.val (n : Nd) : Value := .agg #[.int .i64 n.kind, .string n.label, .int .i64 n.a, .int .i64 n.b]

def Nd.beq (n m : Nd) : Bool := n.kind == m.kind && n.label == m.label && n.a == m.a && n.b == m.b

theorem bytes_beq (a b : ByteArray) : (a == b) = true ↔ a = b := by
  cases a with | mk a => cases b with | mk b =>
  constructor
  · intro h
    have : (a == b) = true := h
    simp at this; simp [this]
  · intro h; cases h
    show (a == a) = true
    simp

theorem Nd.beq_iff (n m : Nd) : n.beq m = true ↔ n = m := by
  cases n; cases m; simp [Nd.beq, and_assoc, bytes_beq]

def hasB (ns : List Nd) (t : Int) : Bool := decide (1 ≤ t) && decide (t ≤ ns.length)

def nodeF (ns : List Nd) (t : Int) : Nd := if hasB ns t then ns.getD (t.toNat - 1) Nd.zero else Nd.zero

/-- The entries of the store's map. -/
def entsFrom : Nat → List Nd → List MapEntry
  | _, [] => []
  | i, n :: r => { key := n.val, val := .int .i64 (i + 1 : Nat), born := i } :: entsFrom (i + 1) r

def ents (ns : List Nd) : Array MapEntry := (entsFrom 0 ns).toArray

/-- The cells of a row of nodes. -/
def Nd.cells (n : Nd) : List Value := [.int .i64 n.kind, .string n.label, .int .i64 n.a, .int .i64 n.b]

def flat : List Nd → List Value
  | [] => []
  | n :: r => n.cells ++ flat r

theorem flat_append : ∀ (l m : List Nd), flat (l ++ m) = flat l ++ flat m
  | [], m => by simp [flat]
  | n :: r, m => by simp [flat, flat_append r m]

theorem flat_length : ∀ l : List Nd, (flat l).length = l.length * 4
  | [] => rfl
  | n :: r => by simp [flat, flat_length r, Nd.cells]; omega

theorem flat_get (n : Nd) : ∀ (l : List Nd) (i : Nat), l[i]? = some n → ∀ r, r < 4 → (flat l)[i * 4 + r]? = n.cells[r]?
  | [], i, h, r, _ => by simp at h
  | m :: l, 0, h, r, hr => by
    simp at h; subst h
    simp [flat, Nd.cells]
    match r, hr with
    | 0, _ => rfl
    | 1, _ => rfl
    | 2, _ => rfl
    | 3, _ => rfl
  | m :: l, i + 1, h, r, hr => by
    have := flat_get n l i (by simpa using h) r hr
    rw [← this]
    simp only [flat]
    rw [List.getElem?_append_right (by simp [Nd.cells]; omega)]
    congr 1
    simp [Nd.cells]; omega

/-- Where the row of nodes lies. -/
def RowAt (w : World) (sl : Option Addr) (c : Nat) (ns : List Nd) : Prop := w.ownsRow 0 71 4 (.slice sl ns.length c) ns.length (flat ns)

def StoreAt (w : World) (s : Nat) (ns : List Nd) (dr : Int) : Prop :=
  ∃ sl c mb, w.heap[s]? = some (.cells #[.slice sl ns.length c, .map (some mb), .int .i64 dr] 78) ∧ w.heap[mb]? = some (.map (ents ns) ns.length) ∧ RowAt w sl c ns ∧ ns.length ≤ 262144

/-- The blocks that are the store's own. -/
def Own (w : World) (s k : Nat) : Prop :=
  k = s ∨ w.cell? ⟨s, 1, none⟩ = some (.map (some k)) ∨ ∃ o sp n c, w.cell? ⟨s, 0, none⟩ = some (.slice (some ⟨k, o, sp⟩) n c)

/-- What a call on the store at s may turn: the store's own blocks, and new ones. -/
structure Moved (s : Nat) (w w' : World) : Prop where
  os : w'.os = w.os
  tape : w'.tape = w.tape
  output : w'.output = w.output
  size : w.heap.size ≤ w'.heap.size
  block : ∀ k, k < w.heap.size → ¬ Own w s k → w'.heap[k]? = w.heap[k]?
  own : ∀ k, Own w' s k → Own w s k ∨ w.heap.size ≤ k
  keep : w'.cell? ⟨s, 1, none⟩ = w.cell? ⟨s, 1, none⟩

theorem cell_of_heap {w : World} {b : Nat} {arr : Array Value} {e : TypeId} {fr : Nat × Nat} (h : w.heap[b]? = some (.cells arr e fr)) (o : Nat) : w.cell? ⟨b, o, none⟩ = arr[o]? := by
  simp [World.cell?, h]

theorem frozen_of_heap {w : World} {b : Nat} {arr : Array Value} {e : TypeId} (h : w.heap[b]? = some (.cells arr e)) (o : Nat) : w.frozen? ⟨b, o, none⟩ = false := by
  simp [World.frozen?, h]

theorem StoreAt.lt {w : World} {s : Nat} {ns : List Nd} {dr : Int} (h : StoreAt w s ns dr) : s < w.heap.size := by
  obtain ⟨sl, c, mb, h0, _⟩ := h
  exact (Array.getElem?_eq_some_iff.1 h0).1

theorem RowAt.below {w w' : World} {sl : Option Addr} {c : Nat} {ns : List Nd} (h2 : RowAt w sl c ns) (hb : Below w.heap.size w w') : RowAt w' sl c ns := by
  have lt : ∀ {k : Nat} {o : Obj}, w.heap[k]? = some o → w'.heap[k]? = some o := fun {k o} hk => (hb.block k (Array.getElem?_eq_some_iff.1 hk).1).trans hk
  refine ⟨h2.1, ?_⟩
  rcases h2.2 with h2 | ⟨nb, cap, cur, e, hl, hh, r⟩
  · exact Or.inl h2
  · exact Or.inr ⟨nb, cap, cur, e, hl, lt hh, r⟩

/-- What was there reads as it did: a call that only makes new memory. -/
theorem StoreAt.below {w w' : World} {s : Nat} {ns : List Nd} {dr : Int} (h : StoreAt w s ns dr) (hb : Below w.heap.size w w') : StoreAt w' s ns dr := by
  have lt : ∀ {k : Nat} {o : Obj}, w.heap[k]? = some o → w'.heap[k]? = some o := fun {k o} hk => (hb.block k (Array.getElem?_eq_some_iff.1 hk).1).trans hk
  obtain ⟨sl, c, mb, h0, h1, h2, h3⟩ := h
  refine ⟨sl, c, mb, lt h0, lt h1, ?_, h3⟩
  exact h2.below hb

theorem own_below1 {w w' : World} {s : Nat} (hs : s < w.heap.size) (hb : Below w.heap.size w w') (k : Nat) : Own w' s k ↔ Own w s k := by
  unfold Own
  rw [hb.cell (p := ⟨s, 1, none⟩) hs, hb.cell (p := ⟨s, 0, none⟩) hs]

theorem Moved.ofBelow {w w' : World} {s : Nat} (hs : s < w.heap.size) (hb : Below w.heap.size w w') : Moved s w w' :=
  ⟨hb.os, hb.tape, hb.output, hb.size, fun k hk _ => hb.block k hk, fun k hk => Or.inl ((own_below1 hs hb k).1 hk), hb.cell (p := ⟨s, 1, none⟩) hs⟩

theorem Moved.refl (s : Nat) (w : World) : Moved s w w := ⟨rfl, rfl, rfl, Nat.le_refl _, fun _ _ _ => rfl, fun _ h => Or.inl h, rfl⟩

theorem Moved.trans {s : Nat} {a b c : World} (h : Moved s a b) (k : Moved s b c) : Moved s a c := by
  refine ⟨k.os.trans h.os, k.tape.trans h.tape, k.output.trans h.output, Nat.le_trans h.size k.size, fun i hi hn => ?_, fun i hi => ?_, k.keep.trans h.keep⟩
  · have : ¬ Own b s i := fun ho => (h.own i ho).elim hn (fun hge => by omega)
    exact (k.block i (Nat.lt_of_lt_of_le hi h.size) this).trans (h.block i hi hn)
  · rcases k.own i hi with ho | hge
    · exact h.own i ho
    · exact Or.inr (Nat.le_trans h.size hge)

theorem bcell {B : Nat} {W w1 : World} (hb : Below B W w1) : (∀ b o, b < B → w1.cell? ⟨b, o, none⟩ = W.cell? ⟨b, o, none⟩) ∧ (∀ b o, b < B → w1.frozen? ⟨b, o, none⟩ = W.frozen? ⟨b, o, none⟩) :=
  ⟨fun b o h => hb.cell (p := ⟨b, o, none⟩) h, fun b o h => hb.frozen (p := ⟨b, o, none⟩) h⟩

theorem RowAt.form {w : World} {sl : Option Addr} {c : Nat} {ns : List Nd} (h : RowAt w sl c ns) : (sl = none ∧ c = 0 ∧ ns = []) ∨ ∃ nb, sl = some ⟨nb, 0, none⟩ ∧ nb < w.heap.size ∧ ns.length ≤ c ∧ ∃ cur, w.heap[nb]? = some (.cells cur 71) := by
  rcases h.2 with ⟨h1, h2⟩ | ⟨g, cap, cur, h1, _, hh, hl, _⟩
  · simp at h1
    exact Or.inl ⟨h1.1, h1.2.2, List.eq_nil_of_length_eq_zero h2⟩
  · simp at h1
    obtain ⟨rfl, rfl⟩ := h1
    exact Or.inr ⟨g, rfl, (Array.getElem?_eq_some_iff.1 hh).1, hl, cur, hh⟩

theorem RowAt.cell {w : World} {nb c : Nat} {ns : List Nd} (h : RowAt w (some ⟨nb, 0, none⟩) c ns) {i : Nat} (hi : i < ns.length) :
    w.cell? ⟨nb, i * 4, none⟩ = some (.int .i64 (ns.getD i Nd.zero).kind) ∧ w.cell? ⟨nb, i * 4 + 1, none⟩ = some (.string (ns.getD i Nd.zero).label) ∧
    w.cell? ⟨nb, i * 4 + 2, none⟩ = some (.int .i64 (ns.getD i Nd.zero).a) ∧ w.cell? ⟨nb, i * 4 + 3, none⟩ = some (.int .i64 (ns.getD i Nd.zero).b) := by
  have e : ns[i]? = some (ns.getD i Nd.zero) := by simp [List.getD, hi]
  have g : ∀ r, r < 4 → w.cell? ⟨nb, i * 4 + r, none⟩ = (ns.getD i Nd.zero).cells[r]? := fun r hr => by
    rw [World.ownsRow.cellAt h _ (by omega), flat_get _ ns i e r hr]
  exact ⟨g 0 (by omega), g 1 (by omega), g 2 (by omega), g 3 (by omega)⟩

theorem stood27 : Tryd.prog.stoodInHeld 71 = false := by kernel_rfl

theorem fields27 : Tryd.prog.underlying 71 = some (.struct (Tryd.prog.fieldsOf 71)) := by
  unfold Program.fieldsOf; rw [Tryd.underlying71]

theorem guard27 : Tryd.prog.eqGuardType Tryd.prog.depth 71 = false := by kernel_rfl

theorem Nd.beq_list (n m : Nd) : n.beq m = (n.kind == m.kind && (n.label.toList == m.label.toList && (n.a == m.a && n.b == m.b))) := by
  simp [Nd.beq, beq_toListBytes, Bool.and_assoc]

set_option maxHeartbeats 400000 in
theorem run_equal27 (w : World) (n m : Nd) (d : Nat) : (Op.equalIn (d + 2) 71 n.val m.val).run Tryd.prog w = .ok (n.beq m) w := by
  unfold Nd.val
  rw [run_equalIn_agg w (d + 1) 71 _ _ fields27 stood27, Nd.beq_list]
  simp only [Program.fieldsOf, Tryd.underlying71]
  cases h1 : n.kind == m.kind <;> cases h2 : n.label.toList == m.label.toList <;> cases h3 : n.a == m.a <;> cases h4 : n.b == m.b <;> simp [go_sem, part, Tryd.underlying3, Tryd.underlying9, h1, h2, h3, h4]

/-- The place of a node among the nodes from place i on. -/
def findN (n : Nd) : List Nd → Nat → Option Nat
  | [], _ => none
  | m :: r, i => if n.beq m then some i else findN n r (i + 1)

theorem run_findAsking (w : World) (n : Nd) : ∀ (ns : List Nd) (i : Nat), (Instr.findAsking 71 n.val (entsFrom i ns) i).run Tryd.prog w = .ok ((findN n ns i).map fun j => (j, .int .i64 (j + 1 : Nat))) w
  | [], i => by simp [entsFrom, Instr.findAsking, findN]
  | m :: r, i => by
    have ih := run_findAsking w n r (i + 1)
    simp only [entsFrom, Instr.findAsking, findN, Sem.run_bind, Op.equal, Op.maxDepth]
    rw [show (10000 : Nat) = 9998 + 2 from rfl, run_equal27 w n m 9998]
    cases hb : n.beq m
    · simp [ih]
    · simp

theorem run_findKey (w : World) (n : Nd) (ns : List Nd) : (Instr.findKey 71 n.val (entsFrom 0 ns)).run Tryd.prog w = .ok ((findN n ns 0).map fun j => (j, .int .i64 (j + 1 : Nat))) w := by
  have hf := run_findAsking w n ns 0
  unfold Instr.findKey
  simp only [Sem.run_bind, run_underlying Tryd.underlying71, Result.andThen_ok]
  cases ns with
  | nil => simp [entsFrom, Instr.findNow, findN]
  | cons m r =>
    simp only [entsFrom, Instr.findNow, Instr.sameNow, Nd.val] at hf ⊢
    exact hf

set_option maxHeartbeats 400000 in
theorem run_checkKey27 (w : World) (e : Bool) (n : Nd) (d : Nat) : (Instr.checkKey e (d + 2) 71 n.val).run Tryd.prog w = .ok () w := by
  unfold Nd.val
  rw [Instr.checkKey]
  simp only [Sem.run_bind, run_underlying Tryd.underlying71, Result.andThen_ok]
  rw [← Array.forIn_toList]
  simp [go_sem, part, Instr.checkKey, Tryd.underlying3, Tryd.underlying9]

/-- The number of a node, 0 if it has none. -/
def numOf (ns : List Nd) (n : Nd) : Int := match findN n ns 0 with | some j => (j + 1 : Nat) | none => 0

theorem run_lookup27 (w : World) (mb c : Nat) (ns : List Nd) (n : Nd) (h : w.heap[mb]? = some (.map (ents ns) c)) : (Instr.lookup 76 (.map (some mb)) n.val false).run Tryd.prog w = .ok (.int .i64 (numOf ns n)) w := by
  unfold Instr.lookup numOf
  have hz : (zeroValue 3).run Tryd.prog w = .ok (.int .i64 0) w := by kernel_rfl
  have hl : (ents ns).toList = entsFrom 0 ns := by simp [ents]
  simp only [Sem.run_bind, run_underlying Tryd.underlying76, Result.andThen_ok]
  simp only [getObj, Sem.run, h]
  rw [show (10000 : Nat) = 9998 + 2 from rfl]
  simp [run_checkKey27, hl, run_findKey]
  cases findN n ns 0 <;> simp [hz]

theorem entsFrom_snoc (n : Nd) : ∀ (ns : List Nd) (i : Nat), entsFrom i (ns ++ [n]) = entsFrom i ns ++ [{ key := n.val, val := .int .i64 (i + ns.length + 1 : Nat), born := i + ns.length }]
  | [], i => by simp [entsFrom]
  | m :: r, i => by
    simp only [List.cons_append, entsFrom, entsFrom_snoc n r (i + 1), List.length_cons]
    rw [show i + 1 + r.length = i + (r.length + 1) from by omega]

theorem ents_snoc (n : Nd) (ns : List Nd) : ents (ns ++ [n]) = (ents ns).push { key := n.val, val := .int .i64 (ns.length + 1 : Nat), born := ns.length } := by
  unfold ents
  rw [entsFrom_snoc]
  simp

theorem run_update27 (w : World) (mb : Nat) (ns : List Nd) (n : Nd) (h : w.heap[mb]? = some (.map (ents ns) ns.length)) (hn : findN n ns 0 = none) :
    (Instr.mapUpdate 76 (.map (some mb)) n.val (.int .i64 (ns.length + 1 : Nat))).run Tryd.prog w = .ok () { w with heap := w.heap.setIfInBounds mb (.map (ents (ns ++ [n])) (ns.length + 1)) } := by
  unfold Instr.mapUpdate
  have hl : (ents ns).toList = entsFrom 0 ns := by simp [ents]
  simp only [Sem.run_bind, run_underlying Tryd.underlying76, Result.andThen_ok]
  simp only [getObj, Sem.run, h]
  rw [show (10000 : Nat) = 9998 + 2 from rfl]
  simp [run_checkKey27, hl, run_findKey, hn, setObj, Sem.run, h, ents_snoc]

theorem step_append_at {P : Program} {ops : Array Oper} {o : Oper} {a : Act} {w : World} {K : Act → World → Prop} {Q : Exit → Act → World → Prop} {E : Prop}
    (hg : o.guard = none) (s x : Operand) (t : TypeId) (hop : o.op = Op.call { callee := Callee.builtin Builtin.append, args := #[s, x], argTypes := #[t, t] })
    (e : TypeId) (i : TypeInfo) (z : Value) (size bytes : Nat) (h1 : P.underlying t = some (.slice e)) (h2 : P.info? e = some i) (h3 : i.zero = some z) (h4 : i.size = size) (h5 : i.bytes = bytes) (h6 : z.cells.size = size) (h7 : 0 < size)
    (v : Value) (n : Nat) (xs : List Value) (hs : a.eval s = v) (hown : w.ownsRow 0 e size v n xs)
    (ad : Addr) (m c : Nat) (news : List Value) (hx : a.eval x = .slice (some ad) m c) (hn : news.length = m * size) (hc : ∀ j u, news[j]? = some u → w.cell? (ad.add j) = some u) (h1c : ∀ u ∈ news, u.oneCell' = true)
    (b1 : n + m ≤ maxLen) (b2 : (n + m) * bytes ≤ 140737488355328)
    (hK : ∀ v' w', w'.ownsRow 0 e size v' (n + m) (xs ++ news) → w.grownBy w' v.ownBlock → (v' = .slice none 0 0 ↔ v = .slice none 0 0 ∧ m = 0) → (v'.ownBlock = v.ownBlock ∨ v'.ownBlock = some w.heap.size) → K (a.put o.dst v') w') :
    if Region.wanted o (yielded ops a.tmps) = true then Oper.wp P o a w K Q else E := by
  have hw : Region.wanted o (yielded ops a.tmps) = true := by simp [Region.wanted, hg]
  rw [if_pos hw]
  obtain ⟨v', w', hrun, r1, r2, r3, r4⟩ := run_append_own_at (P := P) w 0 t o.type e i z size bytes h1 h2 h3 h4 h5 h6 h7 v n xs hown ad m c news hn hc h1c b1 b2 (Nat.zero_le _)
  unfold Oper.wp
  simp [execOp, hop, resolve, invoke, builtin, hs, hx, hrun, Result.andThen]
  exact hK v' w' r1 r2 r3 r4

end Go.Proofs.YtcfmagmhnemhaaaDoor
