/-
  A node as a struct value: how two are compared, and how the store's map is read and written.
-/
import Derived.Test.YtddjihlmlfchdaaBase
namespace Go.Proofs.Ytddjihlmlfchdaa
open Go.RowKit
set_option linter.unusedSimpArgs false
set_option linter.unusedVariables false

theorem stood27 : Try.prog.stoodInHeld 27 = false := by kernel_rfl
theorem fields27 : Try.prog.underlying 27 = some (.struct (Try.prog.fieldsOf 27)) := by
  unfold Program.fieldsOf; rw [Try.underlying27]
theorem guard27 : Try.prog.eqGuardType Try.prog.depth 27 = false := by kernel_rfl

theorem Nd.beq_list (n m : Nd) : n.beq m = (n.kind == m.kind && (n.label.toList == m.label.toList && (n.a == m.a && n.b == m.b))) := by
  simp [Nd.beq, beq_toListBytes, Bool.and_assoc]

set_option maxHeartbeats 400000 in
theorem run_equal27 (w : World) (n m : Nd) (d : Nat) : (Op.equalIn (d + 2) 27 n.val m.val).run Try.prog w = .ok (n.beq m) w := by
  unfold Nd.val
  rw [run_equalIn_agg w (d + 1) 27 _ _ fields27 stood27, Nd.beq_list]
  simp only [Program.fieldsOf, Try.underlying27]
  cases h1 : n.kind == m.kind <;> cases h2 : n.label.toList == m.label.toList <;> cases h3 : n.a == m.a <;> cases h4 : n.b == m.b <;> simp [go_sem, part, Try.underlying3, Try.underlying9, h1, h2, h3, h4]

/-- The place of a node among the nodes from place i on. -/
def findN (n : Nd) : List Nd → Nat → Option Nat
  | [], _ => none
  | m :: r, i => if n.beq m then some i else findN n r (i + 1)

theorem run_findAsking (w : World) (n : Nd) : ∀ (ns : List Nd) (i : Nat), (Instr.findAsking 27 n.val (entsFrom i ns) i).run Try.prog w = .ok ((findN n ns i).map fun j => (j, .int .i64 (j + 1 : Nat))) w
  | [], i => by simp [entsFrom, Instr.findAsking, findN]
  | m :: r, i => by
    have ih := run_findAsking w n r (i + 1)
    simp only [entsFrom, Instr.findAsking, findN, Sem.run_bind, Op.equal, Op.maxDepth]
    rw [show (10000 : Nat) = 9998 + 2 from rfl, run_equal27 w n m 9998]
    cases hb : n.beq m
    · simp [ih]
    · simp

theorem run_findKey (w : World) (n : Nd) (ns : List Nd) : (Instr.findKey 27 n.val (entsFrom 0 ns)).run Try.prog w = .ok ((findN n ns 0).map fun j => (j, .int .i64 (j + 1 : Nat))) w := by
  have hf := run_findAsking w n ns 0
  unfold Instr.findKey
  simp only [Sem.run_bind, run_underlying Try.underlying27, Result.andThen_ok]
  cases ns with
  | nil => simp [entsFrom, Instr.findNow, findN]
  | cons m r =>
    simp only [entsFrom, Instr.findNow, Instr.sameNow, Nd.val] at hf ⊢
    exact hf

set_option maxHeartbeats 400000 in
theorem run_checkKey27 (w : World) (e : Bool) (n : Nd) (d : Nat) : (Instr.checkKey e (d + 2) 27 n.val).run Try.prog w = .ok () w := by
  unfold Nd.val
  rw [Instr.checkKey]
  simp only [Sem.run_bind, run_underlying Try.underlying27, Result.andThen_ok]
  rw [← Array.forIn_toList]
  simp [go_sem, part, Instr.checkKey, Try.underlying3, Try.underlying9]

/-- The number of a node, 0 if it has none. -/
def numOf (ns : List Nd) (n : Nd) : Int := match findN n ns 0 with | some j => (j + 1 : Nat) | none => 0

theorem run_lookup27 (w : World) (mb c : Nat) (ns : List Nd) (n : Nd) (h : w.heap[mb]? = some (.map (ents ns) c)) : (Instr.lookup 51 (.map (some mb)) n.val false).run Try.prog w = .ok (.int .i64 (numOf ns n)) w := by
  unfold Instr.lookup numOf
  have hz : (zeroValue 3).run Try.prog w = .ok (.int .i64 0) w := by kernel_rfl
  have hl : (ents ns).toList = entsFrom 0 ns := by simp [ents]
  simp only [Sem.run_bind, run_underlying Try.underlying51, Result.andThen_ok]
  simp only [getObj, Sem.run, h]
  rw [show (10000 : Nat) = 9998 + 2 from rfl]
  simp [run_checkKey27, hl, run_findKey]
  cases findN n ns 0 <;> simp [hz]

theorem entsFrom_snoc (n : Nd) : ∀ (ns : List Nd) (i : Nat), entsFrom i (ns ++ [n]) = entsFrom i ns ++ [{ key := n.val, val := .int .i64 (i + ns.length + 1 : Nat), born := i + ns.length }]
  | [], i => by simp [entsFrom]
  | m :: r, i => by
    simp only [List.cons_append, entsFrom, entsFrom_snoc n r (i + 1), List.length_cons]
    rw [show i + 1 + r.length = i + (r.length + 1) from by omega]

theorem ents_snoc (n : Nd) (ns : List Nd) : ents (ns ++ [n]) = (ents ns).push { key := n.val, val := .int .i64 (ns.length + 1 : Nat), born := ns.length } := by
  unfold ents
  rw [entsFrom_snoc]
  simp

theorem run_update27 (w : World) (mb : Nat) (ns : List Nd) (n : Nd) (h : w.heap[mb]? = some (.map (ents ns) ns.length)) (hn : findN n ns 0 = none) :
    (Instr.mapUpdate 51 (.map (some mb)) n.val (.int .i64 (ns.length + 1 : Nat))).run Try.prog w = .ok () { w with heap := w.heap.setIfInBounds mb (.map (ents (ns ++ [n])) (ns.length + 1)) } := by
  unfold Instr.mapUpdate
  have hl : (ents ns).toList = entsFrom 0 ns := by simp [ents]
  simp only [Sem.run_bind, run_underlying Try.underlying51, Result.andThen_ok]
  simp only [getObj, Sem.run, h]
  rw [show (10000 : Nat) = 9998 + 2 from rfl]
  simp [run_checkKey27, hl, run_findKey, hn, setObj, Sem.run, h, ents_snoc]

end Go.Proofs.Ytddjihlmlfchdaa
