/-
  Encode.
-/
import Derived.Test.YtjajgllkbchapaaWrL
import Derived.Test.YtjajgllkbchapaaFour
import Derived.Defers
import Derived.Recover
namespace Go.Proofs.Ytjajgllkbchapaa
open Go.RowKit
set_option linter.unusedSimpArgs false
set_option linter.unusedVariables false

theorem conv_bytes {w : World} {p c : Nat} {a : Option Addr} {out : List UInt8} (h : w.ownsRow p 5 1 (.slice a out.length c) out.length (Lib.byteCells out)) : (convert 24 9 (.slice a out.length c)).run Try.prog w = .ok (.string ⟨out.toArray⟩) w := by
  rcases h.2 with ⟨h1, h2⟩ | ⟨g, cap, cur, h1, _⟩
  · have ha : a = none := (Value.slice.inj h1).1
    have ho : out = [] := List.eq_nil_of_length_eq_zero h2
    subst ha ho
    exact run_convert_bytes_nil w 24 5 Try.underlying24 Try.underlying5 _ _ 9 Try.underlying9
  · have ha : a = some ⟨g, 0, none⟩ := (Value.slice.inj h1).1
    subst ha
    refine run_convert_bytes_back w 24 9 5 ⟨g, 0, none⟩ c out Try.underlying24 Try.underlying5 Try.underlying9 (fun j hj => ?_)
    exact h.cells (g := g) rfl j _ (by simp [Lib.byteCells, hj])

theorem idle53 (a b : Nat) (w : World) :
    CallsD Try.prog 53 #[.pointer (some ⟨a, 0, none⟩), .pointer (some ⟨b, 0, none⟩)] .returning w fun e u' w' => e = .returned (.tuple #[]) ∧ u' = .returning ∧ w' = w := by
  refine callsD_of_wpS Try.func53 rfl fun c₀ cs hu => ?_
  apply wpS_seq
  apply wpS_region
  simp [wpOpsS, go_sem, recoverD, hu, Try.ntmps53, Exit.thenS]
  refine wpS_cond (t := false) (by simp [Act.eval, Array.replicate]) ?_
  simp only [Bool.false_eq_true, if_false]
  refine wpS_of_wp (wp_skip ?_)
  cases c₀
  simp_all [bodyPostS, results, Try.results53]

set_option maxRecDepth 100000 in
set_option maxHeartbeats 1000000 in
theorem encInt_ok {fget v : Value} {out : List UInt8} {w : World} (hin : ∀ w' p, Low w.heap.size w w' → w.heap.size ≤ p → WAt w' p [] 0 → Calls Try.prog 54 #[.pointer (some ⟨p, 0, none⟩), v] w' fun e w2 => e = .returned (.tuple #[]) ∧ WAt w2 p out 0 ∧ WFr p w' w2) :
    Calls Try.prog 15 #[.agg #[.func (.func 54) #[] #[], fget], v] w fun e w' => e = .returned (.tuple #[.string ⟨out.toArray⟩, .int .i64 0]) ∧ Below w.heap.size w w' := by
  have hmf : ∀ (fn : Fn) (first cap : Array Value) (w : World), (Instr.makeFunc fn first cap).run Try.prog w = .ok (.func fn first cap) w := fun _ _ _ _ => rfl
  go_enter_defers Try.func15, Try.ntmps15
  go_wp2_with fail
  obtain ⟨w1, hw1⟩ : ∃ w1, w1 = (((w.alloc (Obj.cells #[Value.func (Fn.func 54) #[] #[], fget] 34)).alloc (Obj.cells #[Value.string ⟨#[]⟩] 9)).alloc (Obj.cells #[Value.int IntKind.i64 0] 28)).alloc (Obj.cells #[Value.slice none 0 0, Value.int IntKind.i64 0] 127) := ⟨_, rfl⟩
  obtain ⟨q0, q1, q2, q3, hs1, hb1⟩ := four w (Obj.cells #[Value.func (Fn.func 54) #[] #[], fget] 34) (Obj.cells #[Value.string ⟨#[]⟩] 9) (Obj.cells #[Value.int IntKind.i64 0] 28) (Obj.cells #[Value.slice none 0 0, Value.int IntKind.i64 0] 127)
  rw [← hw1] at q0 q1 q2 q3 hs1 hb1
  have hW1 : WAt w1 (w.heap.size + 1 + 1 + 1) [] 0 := ⟨_, q3, World.ownsRow_nil _ _ _ _⟩
  have k1 : w1.cell? ⟨w.heap.size + 1, 0, none⟩ = some (.string ⟨#[]⟩) := by rw [cell_of_heap q1]; rfl
  have k2 : w1.cell? ⟨w.heap.size + 1 + 1, 0, none⟩ = some (.int .i64 0) := by rw [cell_of_heap q2]; rfl
  have z1 : w1.frozen? ⟨w.heap.size + 1, 0, none⟩ = false := frozen_of_heap q1 0
  have z2 : w1.frozen? ⟨w.heap.size + 1 + 1, 0, none⟩ = false := frozen_of_heap q2 0
  clear q0 q1 q2 q3
  rw [← hw1]
  clear hw1
  refine (hin w1 _ (fun k hk => hb1.block k hk) (by omega) hW1).mono ?_
  rintro e w2 ⟨rfl, h2, f2⟩
  have hb2 := f2.below (by omega)
  obtain ⟨hcc, hff⟩ := bcell hb2
  have k3 := (hcc (w.heap.size + 1) 0 (by omega)).trans k1
  have k4 := (hcc (w.heap.size + 1 + 1) 0 (by omega)).trans k2
  have z3 := (hff (w.heap.size + 1) 0 (by omega)).trans z1
  have z4 := (hff (w.heap.size + 1 + 1) 0 (by omega)).trans z2
  obtain ⟨a, c, c0, c1, cf, hrow, hlt, hne⟩ := h2.cells
  have hcv := conv_bytes hrow
  have hbf : Below w.heap.size w ((w2.setCell ⟨w.heap.size + 1, 0, none⟩ (.string ⟨out.toArray⟩)).setCell ⟨w.heap.size + 1 + 1, 0, none⟩ (.int .i64 0)) := ((hb1.trans (hb2.mono (by omega))).setCell (p := ⟨w.heap.size + 1, 0, none⟩) (by simp) _).setCell (p := ⟨w.heap.size + 1 + 1, 0, none⟩) (by simp; omega) _
  have Hbf : Hid (Below w.heap.size w ((w2.setCell ⟨w.heap.size + 1, 0, none⟩ (.string ⟨out.toArray⟩)).setCell ⟨w.heap.size + 1 + 1, 0, none⟩ (.int .i64 0))) := hbf
  have hl2 : w.heap.size + 1 + 1 < w2.heap.size := by omega
  clear hcc hff hrow hne k1 k2 z1 z2 hbf hb1 hb2
  go_wp2_with fail
  refine leaves_cons (f := 53) (args := #[.pointer (some ⟨w.heap.size + 1, 0, none⟩), .pointer (some ⟨w.heap.size + 1 + 1, 0, none⟩)]) (by simp) (by simp [go_sem]) ?_
  refine (idle53 _ _ _).mono ?_
  rintro e u' w3 ⟨rfl, rfl, rfl⟩
  have r1 : ((w2.setCell ⟨w.heap.size + 1, 0, none⟩ (.string ⟨out.toArray⟩)).setCell ⟨w.heap.size + 1 + 1, 0, none⟩ (.int .i64 0)).cell? ⟨w.heap.size + 1, 0, none⟩ = some (.string ⟨out.toArray⟩) := by go_simp
  have r2 : ((w2.setCell ⟨w.heap.size + 1, 0, none⟩ (.string ⟨out.toArray⟩)).setCell ⟨w.heap.size + 1 + 1, 0, none⟩ (.int .i64 0)).cell? ⟨w.heap.size + 1 + 1, 0, none⟩ = some (.int .i64 0) := by go_simp
  simp [Leaves, settle, results, Try.results15, go_sem, r1, r2]
  exact Hbf.out

set_option maxRecDepth 100000 in
set_option maxHeartbeats 1000000 in
theorem encInt_no {fget v : Value} {w : World} (hin : ∀ w' p, Low w.heap.size w w' → w.heap.size ≤ p → WAt w' p [] 0 → Calls Try.prog 54 #[.pointer (some ⟨p, 0, none⟩), v] w' fun e w2 => e = .returned (.tuple #[]) ∧ (∃ out, WAt w2 p out 22) ∧ WFr p w' w2) :
    Calls Try.prog 15 #[.agg #[.func (.func 54) #[] #[], fget], v] w fun e w' => e = .returned (.tuple #[.string ⟨#[]⟩, .int .i64 22]) ∧ Below w.heap.size w w' := by
  have hmf : ∀ (fn : Fn) (first cap : Array Value) (w : World), (Instr.makeFunc fn first cap).run Try.prog w = .ok (.func fn first cap) w := fun _ _ _ _ => rfl
  go_enter_defers Try.func15, Try.ntmps15
  go_wp2_with fail
  obtain ⟨w1, hw1⟩ : ∃ w1, w1 = (((w.alloc (Obj.cells #[Value.func (Fn.func 54) #[] #[], fget] 34)).alloc (Obj.cells #[Value.string ⟨#[]⟩] 9)).alloc (Obj.cells #[Value.int IntKind.i64 0] 28)).alloc (Obj.cells #[Value.slice none 0 0, Value.int IntKind.i64 0] 127) := ⟨_, rfl⟩
  obtain ⟨q0, q1, q2, q3, hs1, hb1⟩ := four w (Obj.cells #[Value.func (Fn.func 54) #[] #[], fget] 34) (Obj.cells #[Value.string ⟨#[]⟩] 9) (Obj.cells #[Value.int IntKind.i64 0] 28) (Obj.cells #[Value.slice none 0 0, Value.int IntKind.i64 0] 127)
  rw [← hw1] at q0 q1 q2 q3 hs1 hb1
  have hW1 : WAt w1 (w.heap.size + 1 + 1 + 1) [] 0 := ⟨_, q3, World.ownsRow_nil _ _ _ _⟩
  have k1 : w1.cell? ⟨w.heap.size + 1, 0, none⟩ = some (.string ⟨#[]⟩) := by rw [cell_of_heap q1]; rfl
  have k2 : w1.cell? ⟨w.heap.size + 1 + 1, 0, none⟩ = some (.int .i64 0) := by rw [cell_of_heap q2]; rfl
  have z1 : w1.frozen? ⟨w.heap.size + 1, 0, none⟩ = false := frozen_of_heap q1 0
  have z2 : w1.frozen? ⟨w.heap.size + 1 + 1, 0, none⟩ = false := frozen_of_heap q2 0
  clear q0 q1 q2 q3
  rw [← hw1]
  clear hw1
  refine (hin w1 _ (fun k hk => hb1.block k hk) (by omega) hW1).mono ?_
  rintro e w2 ⟨rfl, ⟨out, h2⟩, f2⟩
  have hb2 := f2.below (by omega)
  obtain ⟨hcc, hff⟩ := bcell hb2
  have k3 := (hcc (w.heap.size + 1) 0 (by omega)).trans k1
  have k4 := (hcc (w.heap.size + 1 + 1) 0 (by omega)).trans k2
  have z3 := (hff (w.heap.size + 1) 0 (by omega)).trans z1
  have z4 := (hff (w.heap.size + 1 + 1) 0 (by omega)).trans z2
  obtain ⟨a, c, c0, c1, cf, hrow, hlt, hne⟩ := h2.cells
  have hb3 := hb1.trans (hb2.mono (by omega))
  have hl2 : w.heap.size + 1 + 1 < w2.heap.size := by omega
  clear hcc hff hrow hne k1 k2 z1 z2 hb1 hb2
  go_wp2_with fail
  go_region
  all_goals
    go_wp2_with fail
    refine leaves_cons (f := 53) (args := #[.pointer (some ⟨w.heap.size + 1, 0, none⟩), .pointer (some ⟨w.heap.size + 1 + 1, 0, none⟩)]) (by simp) (by simp [go_sem]) ?_
    refine (idle53 _ _ _).mono ?_
    rintro e u' w3 ⟨rfl, rfl, rfl⟩
    have r1 : ((w2.setCell ⟨w.heap.size + 1, 0, none⟩ (.string ⟨#[]⟩)).setCell ⟨w.heap.size + 1 + 1, 0, none⟩ (.int .i64 22)).cell? ⟨w.heap.size + 1, 0, none⟩ = some (.string ⟨#[]⟩) := by go_simp
    have r2 : ((w2.setCell ⟨w.heap.size + 1, 0, none⟩ (.string ⟨#[]⟩)).setCell ⟨w.heap.size + 1 + 1, 0, none⟩ (.int .i64 22)).cell? ⟨w.heap.size + 1 + 1, 0, none⟩ = some (.int .i64 22) := by go_simp
    simp [Leaves, settle, results, Try.results15, go_sem, r1, r2]
    exact ((hb3.setCell (p := ⟨w.heap.size + 1, 0, none⟩) (by simp) _).setCell (p := ⟨w.heap.size + 1 + 1, 0, none⟩) (by simp; omega) _).drew

theorem idle99 (a b : Nat) (w : World) :
    CallsD Try.prog 99 #[.pointer (some ⟨a, 0, none⟩), .pointer (some ⟨b, 0, none⟩)] .returning w fun e u' w' => e = .returned (.tuple #[]) ∧ u' = .returning ∧ w' = w := by
  refine callsD_of_wpS Try.func99 rfl fun c₀ cs hu => ?_
  apply wpS_seq
  apply wpS_region
  simp [wpOpsS, go_sem, recoverD, hu, Try.ntmps99, Exit.thenS]
  refine wpS_cond (t := false) (by simp [Act.eval, Array.replicate]) ?_
  simp only [Bool.false_eq_true, if_false]
  refine wpS_of_wp (wp_skip ?_)
  cases c₀
  simp_all [bodyPostS, results, Try.results99]

set_option maxRecDepth 100000 in
set_option maxHeartbeats 1000000 in
theorem encBool_ok {fget v : Value} {out : List UInt8} {w : World} (hin : ∀ w' p, Low w.heap.size w w' → w.heap.size ≤ p → WAt w' p [] 0 → Calls Try.prog 65 #[.pointer (some ⟨p, 0, none⟩), v] w' fun e w2 => e = .returned (.tuple #[]) ∧ WAt w2 p out 0 ∧ WFr p w' w2) :
    Calls Try.prog 51 #[.agg #[.func (.func 65) #[] #[], fget], v] w fun e w' => e = .returned (.tuple #[.string ⟨out.toArray⟩, .int .i64 0]) ∧ Below w.heap.size w w' := by
  have hmf : ∀ (fn : Fn) (first cap : Array Value) (w : World), (Instr.makeFunc fn first cap).run Try.prog w = .ok (.func fn first cap) w := fun _ _ _ _ => rfl
  go_enter_defers Try.func51, Try.ntmps51
  go_wp2_with fail
  obtain ⟨w1, hw1⟩ : ∃ w1, w1 = (((w.alloc (Obj.cells #[Value.func (Fn.func 65) #[] #[], fget] 52)).alloc (Obj.cells #[Value.string ⟨#[]⟩] 9)).alloc (Obj.cells #[Value.int IntKind.i64 0] 28)).alloc (Obj.cells #[Value.slice none 0 0, Value.int IntKind.i64 0] 127) := ⟨_, rfl⟩
  obtain ⟨q0, q1, q2, q3, hs1, hb1⟩ := four w (Obj.cells #[Value.func (Fn.func 65) #[] #[], fget] 52) (Obj.cells #[Value.string ⟨#[]⟩] 9) (Obj.cells #[Value.int IntKind.i64 0] 28) (Obj.cells #[Value.slice none 0 0, Value.int IntKind.i64 0] 127)
  rw [← hw1] at q0 q1 q2 q3 hs1 hb1
  have hW1 : WAt w1 (w.heap.size + 1 + 1 + 1) [] 0 := ⟨_, q3, World.ownsRow_nil _ _ _ _⟩
  have k1 : w1.cell? ⟨w.heap.size + 1, 0, none⟩ = some (.string ⟨#[]⟩) := by rw [cell_of_heap q1]; rfl
  have k2 : w1.cell? ⟨w.heap.size + 1 + 1, 0, none⟩ = some (.int .i64 0) := by rw [cell_of_heap q2]; rfl
  have z1 : w1.frozen? ⟨w.heap.size + 1, 0, none⟩ = false := frozen_of_heap q1 0
  have z2 : w1.frozen? ⟨w.heap.size + 1 + 1, 0, none⟩ = false := frozen_of_heap q2 0
  clear q0 q1 q2 q3
  rw [← hw1]
  clear hw1
  refine (hin w1 _ (fun k hk => hb1.block k hk) (by omega) hW1).mono ?_
  rintro e w2 ⟨rfl, h2, f2⟩
  have hb2 := f2.below (by omega)
  obtain ⟨hcc, hff⟩ := bcell hb2
  have k3 := (hcc (w.heap.size + 1) 0 (by omega)).trans k1
  have k4 := (hcc (w.heap.size + 1 + 1) 0 (by omega)).trans k2
  have z3 := (hff (w.heap.size + 1) 0 (by omega)).trans z1
  have z4 := (hff (w.heap.size + 1 + 1) 0 (by omega)).trans z2
  obtain ⟨a, c, c0, c1, cf, hrow, hlt, hne⟩ := h2.cells
  have hcv := conv_bytes hrow
  have hbf : Below w.heap.size w ((w2.setCell ⟨w.heap.size + 1, 0, none⟩ (.string ⟨out.toArray⟩)).setCell ⟨w.heap.size + 1 + 1, 0, none⟩ (.int .i64 0)) := ((hb1.trans (hb2.mono (by omega))).setCell (p := ⟨w.heap.size + 1, 0, none⟩) (by simp) _).setCell (p := ⟨w.heap.size + 1 + 1, 0, none⟩) (by simp; omega) _
  have Hbf : Hid (Below w.heap.size w ((w2.setCell ⟨w.heap.size + 1, 0, none⟩ (.string ⟨out.toArray⟩)).setCell ⟨w.heap.size + 1 + 1, 0, none⟩ (.int .i64 0))) := hbf
  have hl2 : w.heap.size + 1 + 1 < w2.heap.size := by omega
  clear hcc hff hrow hne k1 k2 z1 z2 hbf hb1 hb2
  go_wp2_with fail
  refine leaves_cons (f := 99) (args := #[.pointer (some ⟨w.heap.size + 1, 0, none⟩), .pointer (some ⟨w.heap.size + 1 + 1, 0, none⟩)]) (by simp) (by simp [go_sem]) ?_
  refine (idle99 _ _ _).mono ?_
  rintro e u' w3 ⟨rfl, rfl, rfl⟩
  have r1 : ((w2.setCell ⟨w.heap.size + 1, 0, none⟩ (.string ⟨out.toArray⟩)).setCell ⟨w.heap.size + 1 + 1, 0, none⟩ (.int .i64 0)).cell? ⟨w.heap.size + 1, 0, none⟩ = some (.string ⟨out.toArray⟩) := by go_simp
  have r2 : ((w2.setCell ⟨w.heap.size + 1, 0, none⟩ (.string ⟨out.toArray⟩)).setCell ⟨w.heap.size + 1 + 1, 0, none⟩ (.int .i64 0)).cell? ⟨w.heap.size + 1 + 1, 0, none⟩ = some (.int .i64 0) := by go_simp
  simp [Leaves, settle, results, Try.results51, go_sem, r1, r2]
  exact Hbf.out

set_option maxRecDepth 100000 in
set_option maxHeartbeats 1000000 in
theorem encBool_no {fget v : Value} {w : World} (hin : ∀ w' p, Low w.heap.size w w' → w.heap.size ≤ p → WAt w' p [] 0 → Calls Try.prog 65 #[.pointer (some ⟨p, 0, none⟩), v] w' fun e w2 => e = .returned (.tuple #[]) ∧ (∃ out, WAt w2 p out 22) ∧ WFr p w' w2) :
    Calls Try.prog 51 #[.agg #[.func (.func 65) #[] #[], fget], v] w fun e w' => e = .returned (.tuple #[.string ⟨#[]⟩, .int .i64 22]) ∧ Below w.heap.size w w' := by
  have hmf : ∀ (fn : Fn) (first cap : Array Value) (w : World), (Instr.makeFunc fn first cap).run Try.prog w = .ok (.func fn first cap) w := fun _ _ _ _ => rfl
  go_enter_defers Try.func51, Try.ntmps51
  go_wp2_with fail
  obtain ⟨w1, hw1⟩ : ∃ w1, w1 = (((w.alloc (Obj.cells #[Value.func (Fn.func 65) #[] #[], fget] 52)).alloc (Obj.cells #[Value.string ⟨#[]⟩] 9)).alloc (Obj.cells #[Value.int IntKind.i64 0] 28)).alloc (Obj.cells #[Value.slice none 0 0, Value.int IntKind.i64 0] 127) := ⟨_, rfl⟩
  obtain ⟨q0, q1, q2, q3, hs1, hb1⟩ := four w (Obj.cells #[Value.func (Fn.func 65) #[] #[], fget] 52) (Obj.cells #[Value.string ⟨#[]⟩] 9) (Obj.cells #[Value.int IntKind.i64 0] 28) (Obj.cells #[Value.slice none 0 0, Value.int IntKind.i64 0] 127)
  rw [← hw1] at q0 q1 q2 q3 hs1 hb1
  have hW1 : WAt w1 (w.heap.size + 1 + 1 + 1) [] 0 := ⟨_, q3, World.ownsRow_nil _ _ _ _⟩
  have k1 : w1.cell? ⟨w.heap.size + 1, 0, none⟩ = some (.string ⟨#[]⟩) := by rw [cell_of_heap q1]; rfl
  have k2 : w1.cell? ⟨w.heap.size + 1 + 1, 0, none⟩ = some (.int .i64 0) := by rw [cell_of_heap q2]; rfl
  have z1 : w1.frozen? ⟨w.heap.size + 1, 0, none⟩ = false := frozen_of_heap q1 0
  have z2 : w1.frozen? ⟨w.heap.size + 1 + 1, 0, none⟩ = false := frozen_of_heap q2 0
  clear q0 q1 q2 q3
  rw [← hw1]
  clear hw1
  refine (hin w1 _ (fun k hk => hb1.block k hk) (by omega) hW1).mono ?_
  rintro e w2 ⟨rfl, ⟨out, h2⟩, f2⟩
  have hb2 := f2.below (by omega)
  obtain ⟨hcc, hff⟩ := bcell hb2
  have k3 := (hcc (w.heap.size + 1) 0 (by omega)).trans k1
  have k4 := (hcc (w.heap.size + 1 + 1) 0 (by omega)).trans k2
  have z3 := (hff (w.heap.size + 1) 0 (by omega)).trans z1
  have z4 := (hff (w.heap.size + 1 + 1) 0 (by omega)).trans z2
  obtain ⟨a, c, c0, c1, cf, hrow, hlt, hne⟩ := h2.cells
  have hb3 := hb1.trans (hb2.mono (by omega))
  have hl2 : w.heap.size + 1 + 1 < w2.heap.size := by omega
  clear hcc hff hrow hne k1 k2 z1 z2 hb1 hb2
  go_wp2_with fail
  go_region
  all_goals
    go_wp2_with fail
    refine leaves_cons (f := 99) (args := #[.pointer (some ⟨w.heap.size + 1, 0, none⟩), .pointer (some ⟨w.heap.size + 1 + 1, 0, none⟩)]) (by simp) (by simp [go_sem]) ?_
    refine (idle99 _ _ _).mono ?_
    rintro e u' w3 ⟨rfl, rfl, rfl⟩
    have r1 : ((w2.setCell ⟨w.heap.size + 1, 0, none⟩ (.string ⟨#[]⟩)).setCell ⟨w.heap.size + 1 + 1, 0, none⟩ (.int .i64 22)).cell? ⟨w.heap.size + 1, 0, none⟩ = some (.string ⟨#[]⟩) := by go_simp
    have r2 : ((w2.setCell ⟨w.heap.size + 1, 0, none⟩ (.string ⟨#[]⟩)).setCell ⟨w.heap.size + 1 + 1, 0, none⟩ (.int .i64 22)).cell? ⟨w.heap.size + 1 + 1, 0, none⟩ = some (.int .i64 22) := by go_simp
    simp [Leaves, settle, results, Try.results51, go_sem, r1, r2]
    exact ((hb3.setCell (p := ⟨w.heap.size + 1, 0, none⟩) (by simp) _).setCell (p := ⟨w.heap.size + 1 + 1, 0, none⟩) (by simp; omega) _).drew

theorem idle86 (a b : Nat) (w : World) :
    CallsD Try.prog 86 #[.pointer (some ⟨a, 0, none⟩), .pointer (some ⟨b, 0, none⟩)] .returning w fun e u' w' => e = .returned (.tuple #[]) ∧ u' = .returning ∧ w' = w := by
  refine callsD_of_wpS Try.func86 rfl fun c₀ cs hu => ?_
  apply wpS_seq
  apply wpS_region
  simp [wpOpsS, go_sem, recoverD, hu, Try.ntmps86, Exit.thenS]
  refine wpS_cond (t := false) (by simp [Act.eval, Array.replicate]) ?_
  simp only [Bool.false_eq_true, if_false]
  refine wpS_of_wp (wp_skip ?_)
  cases c₀
  simp_all [bodyPostS, results, Try.results86]

set_option maxRecDepth 100000 in
set_option maxHeartbeats 1000000 in
theorem encStr_ok {tb : Nat} {fget v : Value} {out : List UInt8} {w : World} (hin : ∀ w' p, Low w.heap.size w w' → w.heap.size ≤ p → WAt w' p [] 0 → Calls Try.prog 68 #[.pointer (some ⟨p, 0, none⟩), v, .pointer (some ⟨tb, 0, none⟩)] w' fun e w2 => e = .returned (.tuple #[]) ∧ WAt w2 p out 0 ∧ WFr p w' w2) :
    Calls Try.prog 40 #[.agg #[.func (.func 68) #[] #[.pointer (some ⟨tb, 0, none⟩)], fget], v] w fun e w' => e = .returned (.tuple #[.string ⟨out.toArray⟩, .int .i64 0]) ∧ Below w.heap.size w w' := by
  have hmf : ∀ (fn : Fn) (first cap : Array Value) (w : World), (Instr.makeFunc fn first cap).run Try.prog w = .ok (.func fn first cap) w := fun _ _ _ _ => rfl
  go_enter_defers Try.func40, Try.ntmps40
  go_wp2_with fail
  obtain ⟨w1, hw1⟩ : ∃ w1, w1 = (((w.alloc (Obj.cells #[Value.func (Fn.func 68) #[] #[.pointer (some ⟨tb, 0, none⟩)], fget] 58)).alloc (Obj.cells #[Value.string ⟨#[]⟩] 9)).alloc (Obj.cells #[Value.int IntKind.i64 0] 28)).alloc (Obj.cells #[Value.slice none 0 0, Value.int IntKind.i64 0] 127) := ⟨_, rfl⟩
  obtain ⟨q0, q1, q2, q3, hs1, hb1⟩ := four w (Obj.cells #[Value.func (Fn.func 68) #[] #[.pointer (some ⟨tb, 0, none⟩)], fget] 58) (Obj.cells #[Value.string ⟨#[]⟩] 9) (Obj.cells #[Value.int IntKind.i64 0] 28) (Obj.cells #[Value.slice none 0 0, Value.int IntKind.i64 0] 127)
  rw [← hw1] at q0 q1 q2 q3 hs1 hb1
  have hW1 : WAt w1 (w.heap.size + 1 + 1 + 1) [] 0 := ⟨_, q3, World.ownsRow_nil _ _ _ _⟩
  have k1 : w1.cell? ⟨w.heap.size + 1, 0, none⟩ = some (.string ⟨#[]⟩) := by rw [cell_of_heap q1]; rfl
  have k2 : w1.cell? ⟨w.heap.size + 1 + 1, 0, none⟩ = some (.int .i64 0) := by rw [cell_of_heap q2]; rfl
  have z1 : w1.frozen? ⟨w.heap.size + 1, 0, none⟩ = false := frozen_of_heap q1 0
  have z2 : w1.frozen? ⟨w.heap.size + 1 + 1, 0, none⟩ = false := frozen_of_heap q2 0
  clear q0 q1 q2 q3
  rw [← hw1]
  clear hw1
  refine (hin w1 _ (fun k hk => hb1.block k hk) (by omega) hW1).mono ?_
  rintro e w2 ⟨rfl, h2, f2⟩
  have hb2 := f2.below (by omega)
  obtain ⟨hcc, hff⟩ := bcell hb2
  have k3 := (hcc (w.heap.size + 1) 0 (by omega)).trans k1
  have k4 := (hcc (w.heap.size + 1 + 1) 0 (by omega)).trans k2
  have z3 := (hff (w.heap.size + 1) 0 (by omega)).trans z1
  have z4 := (hff (w.heap.size + 1 + 1) 0 (by omega)).trans z2
  obtain ⟨a, c, c0, c1, cf, hrow, hlt, hne⟩ := h2.cells
  have hcv := conv_bytes hrow
  have hbf : Below w.heap.size w ((w2.setCell ⟨w.heap.size + 1, 0, none⟩ (.string ⟨out.toArray⟩)).setCell ⟨w.heap.size + 1 + 1, 0, none⟩ (.int .i64 0)) := ((hb1.trans (hb2.mono (by omega))).setCell (p := ⟨w.heap.size + 1, 0, none⟩) (by simp) _).setCell (p := ⟨w.heap.size + 1 + 1, 0, none⟩) (by simp; omega) _
  have Hbf : Hid (Below w.heap.size w ((w2.setCell ⟨w.heap.size + 1, 0, none⟩ (.string ⟨out.toArray⟩)).setCell ⟨w.heap.size + 1 + 1, 0, none⟩ (.int .i64 0))) := hbf
  have hl2 : w.heap.size + 1 + 1 < w2.heap.size := by omega
  clear hcc hff hrow hne k1 k2 z1 z2 hbf hb1 hb2
  go_wp2_with fail
  refine leaves_cons (f := 86) (args := #[.pointer (some ⟨w.heap.size + 1, 0, none⟩), .pointer (some ⟨w.heap.size + 1 + 1, 0, none⟩)]) (by simp) (by simp [go_sem]) ?_
  refine (idle86 _ _ _).mono ?_
  rintro e u' w3 ⟨rfl, rfl, rfl⟩
  have r1 : ((w2.setCell ⟨w.heap.size + 1, 0, none⟩ (.string ⟨out.toArray⟩)).setCell ⟨w.heap.size + 1 + 1, 0, none⟩ (.int .i64 0)).cell? ⟨w.heap.size + 1, 0, none⟩ = some (.string ⟨out.toArray⟩) := by go_simp
  have r2 : ((w2.setCell ⟨w.heap.size + 1, 0, none⟩ (.string ⟨out.toArray⟩)).setCell ⟨w.heap.size + 1 + 1, 0, none⟩ (.int .i64 0)).cell? ⟨w.heap.size + 1 + 1, 0, none⟩ = some (.int .i64 0) := by go_simp
  simp [Leaves, settle, results, Try.results40, go_sem, r1, r2]
  exact Hbf.out

set_option maxRecDepth 100000 in
set_option maxHeartbeats 1000000 in
theorem encStr_no {tb : Nat} {fget v : Value} {w : World} (hin : ∀ w' p, Low w.heap.size w w' → w.heap.size ≤ p → WAt w' p [] 0 → Calls Try.prog 68 #[.pointer (some ⟨p, 0, none⟩), v, .pointer (some ⟨tb, 0, none⟩)] w' fun e w2 => e = .returned (.tuple #[]) ∧ (∃ out, WAt w2 p out 22) ∧ WFr p w' w2) :
    Calls Try.prog 40 #[.agg #[.func (.func 68) #[] #[.pointer (some ⟨tb, 0, none⟩)], fget], v] w fun e w' => e = .returned (.tuple #[.string ⟨#[]⟩, .int .i64 22]) ∧ Below w.heap.size w w' := by
  have hmf : ∀ (fn : Fn) (first cap : Array Value) (w : World), (Instr.makeFunc fn first cap).run Try.prog w = .ok (.func fn first cap) w := fun _ _ _ _ => rfl
  go_enter_defers Try.func40, Try.ntmps40
  go_wp2_with fail
  obtain ⟨w1, hw1⟩ : ∃ w1, w1 = (((w.alloc (Obj.cells #[Value.func (Fn.func 68) #[] #[.pointer (some ⟨tb, 0, none⟩)], fget] 58)).alloc (Obj.cells #[Value.string ⟨#[]⟩] 9)).alloc (Obj.cells #[Value.int IntKind.i64 0] 28)).alloc (Obj.cells #[Value.slice none 0 0, Value.int IntKind.i64 0] 127) := ⟨_, rfl⟩
  obtain ⟨q0, q1, q2, q3, hs1, hb1⟩ := four w (Obj.cells #[Value.func (Fn.func 68) #[] #[.pointer (some ⟨tb, 0, none⟩)], fget] 58) (Obj.cells #[Value.string ⟨#[]⟩] 9) (Obj.cells #[Value.int IntKind.i64 0] 28) (Obj.cells #[Value.slice none 0 0, Value.int IntKind.i64 0] 127)
  rw [← hw1] at q0 q1 q2 q3 hs1 hb1
  have hW1 : WAt w1 (w.heap.size + 1 + 1 + 1) [] 0 := ⟨_, q3, World.ownsRow_nil _ _ _ _⟩
  have k1 : w1.cell? ⟨w.heap.size + 1, 0, none⟩ = some (.string ⟨#[]⟩) := by rw [cell_of_heap q1]; rfl
  have k2 : w1.cell? ⟨w.heap.size + 1 + 1, 0, none⟩ = some (.int .i64 0) := by rw [cell_of_heap q2]; rfl
  have z1 : w1.frozen? ⟨w.heap.size + 1, 0, none⟩ = false := frozen_of_heap q1 0
  have z2 : w1.frozen? ⟨w.heap.size + 1 + 1, 0, none⟩ = false := frozen_of_heap q2 0
  clear q0 q1 q2 q3
  rw [← hw1]
  clear hw1
  refine (hin w1 _ (fun k hk => hb1.block k hk) (by omega) hW1).mono ?_
  rintro e w2 ⟨rfl, ⟨out, h2⟩, f2⟩
  have hb2 := f2.below (by omega)
  obtain ⟨hcc, hff⟩ := bcell hb2
  have k3 := (hcc (w.heap.size + 1) 0 (by omega)).trans k1
  have k4 := (hcc (w.heap.size + 1 + 1) 0 (by omega)).trans k2
  have z3 := (hff (w.heap.size + 1) 0 (by omega)).trans z1
  have z4 := (hff (w.heap.size + 1 + 1) 0 (by omega)).trans z2
  obtain ⟨a, c, c0, c1, cf, hrow, hlt, hne⟩ := h2.cells
  have hb3 := hb1.trans (hb2.mono (by omega))
  have hl2 : w.heap.size + 1 + 1 < w2.heap.size := by omega
  clear hcc hff hrow hne k1 k2 z1 z2 hb1 hb2
  go_wp2_with fail
  go_region
  all_goals
    go_wp2_with fail
    refine leaves_cons (f := 86) (args := #[.pointer (some ⟨w.heap.size + 1, 0, none⟩), .pointer (some ⟨w.heap.size + 1 + 1, 0, none⟩)]) (by simp) (by simp [go_sem]) ?_
    refine (idle86 _ _ _).mono ?_
    rintro e u' w3 ⟨rfl, rfl, rfl⟩
    have r1 : ((w2.setCell ⟨w.heap.size + 1, 0, none⟩ (.string ⟨#[]⟩)).setCell ⟨w.heap.size + 1 + 1, 0, none⟩ (.int .i64 22)).cell? ⟨w.heap.size + 1, 0, none⟩ = some (.string ⟨#[]⟩) := by go_simp
    have r2 : ((w2.setCell ⟨w.heap.size + 1, 0, none⟩ (.string ⟨#[]⟩)).setCell ⟨w.heap.size + 1 + 1, 0, none⟩ (.int .i64 22)).cell? ⟨w.heap.size + 1 + 1, 0, none⟩ = some (.int .i64 22) := by go_simp
    simp [Leaves, settle, results, Try.results40, go_sem, r1, r2]
    exact ((hb3.setCell (p := ⟨w.heap.size + 1, 0, none⟩) (by simp) _).setCell (p := ⟨w.heap.size + 1 + 1, 0, none⟩) (by simp; omega) _).drew

theorem idle56 (a b : Nat) (w : World) :
    CallsD Try.prog 56 #[.pointer (some ⟨a, 0, none⟩), .pointer (some ⟨b, 0, none⟩)] .returning w fun e u' w' => e = .returned (.tuple #[]) ∧ u' = .returning ∧ w' = w := by
  refine callsD_of_wpS Try.func56 rfl fun c₀ cs hu => ?_
  apply wpS_seq
  apply wpS_region
  simp [wpOpsS, go_sem, recoverD, hu, Try.ntmps56, Exit.thenS]
  refine wpS_cond (t := false) (by simp [Act.eval, Array.replicate]) ?_
  simp only [Bool.false_eq_true, if_false]
  refine wpS_of_wp (wp_skip ?_)
  cases c₀
  simp_all [bodyPostS, results, Try.results56]

set_option maxRecDepth 100000 in
set_option maxHeartbeats 1000000 in
theorem encInts_ok {mb cb : Nat} {fget v : Value} {out : List UInt8} {w : World} (hin : ∀ w' p, Low w.heap.size w w' → w.heap.size ≤ p → WAt w' p [] 0 → Calls Try.prog 58 #[.pointer (some ⟨p, 0, none⟩), v, .pointer (some ⟨mb, 0, none⟩), .pointer (some ⟨cb, 0, none⟩)] w' fun e w2 => e = .returned (.tuple #[]) ∧ WAt w2 p out 0 ∧ WFr p w' w2) :
    Calls Try.prog 17 #[.agg #[.func (.func 58) #[] #[.pointer (some ⟨mb, 0, none⟩), .pointer (some ⟨cb, 0, none⟩)], fget], v] w fun e w' => e = .returned (.tuple #[.string ⟨out.toArray⟩, .int .i64 0]) ∧ Below w.heap.size w w' := by
  have hmf : ∀ (fn : Fn) (first cap : Array Value) (w : World), (Instr.makeFunc fn first cap).run Try.prog w = .ok (.func fn first cap) w := fun _ _ _ _ => rfl
  go_enter_defers Try.func17, Try.ntmps17
  go_wp2_with fail
  obtain ⟨w1, hw1⟩ : ∃ w1, w1 = (((w.alloc (Obj.cells #[Value.func (Fn.func 58) #[] #[.pointer (some ⟨mb, 0, none⟩), .pointer (some ⟨cb, 0, none⟩)], fget] 40)).alloc (Obj.cells #[Value.string ⟨#[]⟩] 9)).alloc (Obj.cells #[Value.int IntKind.i64 0] 28)).alloc (Obj.cells #[Value.slice none 0 0, Value.int IntKind.i64 0] 127) := ⟨_, rfl⟩
  obtain ⟨q0, q1, q2, q3, hs1, hb1⟩ := four w (Obj.cells #[Value.func (Fn.func 58) #[] #[.pointer (some ⟨mb, 0, none⟩), .pointer (some ⟨cb, 0, none⟩)], fget] 40) (Obj.cells #[Value.string ⟨#[]⟩] 9) (Obj.cells #[Value.int IntKind.i64 0] 28) (Obj.cells #[Value.slice none 0 0, Value.int IntKind.i64 0] 127)
  rw [← hw1] at q0 q1 q2 q3 hs1 hb1
  have hW1 : WAt w1 (w.heap.size + 1 + 1 + 1) [] 0 := ⟨_, q3, World.ownsRow_nil _ _ _ _⟩
  have k1 : w1.cell? ⟨w.heap.size + 1, 0, none⟩ = some (.string ⟨#[]⟩) := by rw [cell_of_heap q1]; rfl
  have k2 : w1.cell? ⟨w.heap.size + 1 + 1, 0, none⟩ = some (.int .i64 0) := by rw [cell_of_heap q2]; rfl
  have z1 : w1.frozen? ⟨w.heap.size + 1, 0, none⟩ = false := frozen_of_heap q1 0
  have z2 : w1.frozen? ⟨w.heap.size + 1 + 1, 0, none⟩ = false := frozen_of_heap q2 0
  clear q0 q1 q2 q3
  rw [← hw1]
  clear hw1
  refine (hin w1 _ (fun k hk => hb1.block k hk) (by omega) hW1).mono ?_
  rintro e w2 ⟨rfl, h2, f2⟩
  have hb2 := f2.below (by omega)
  obtain ⟨hcc, hff⟩ := bcell hb2
  have k3 := (hcc (w.heap.size + 1) 0 (by omega)).trans k1
  have k4 := (hcc (w.heap.size + 1 + 1) 0 (by omega)).trans k2
  have z3 := (hff (w.heap.size + 1) 0 (by omega)).trans z1
  have z4 := (hff (w.heap.size + 1 + 1) 0 (by omega)).trans z2
  obtain ⟨a, c, c0, c1, cf, hrow, hlt, hne⟩ := h2.cells
  have hcv := conv_bytes hrow
  have hbf : Below w.heap.size w ((w2.setCell ⟨w.heap.size + 1, 0, none⟩ (.string ⟨out.toArray⟩)).setCell ⟨w.heap.size + 1 + 1, 0, none⟩ (.int .i64 0)) := ((hb1.trans (hb2.mono (by omega))).setCell (p := ⟨w.heap.size + 1, 0, none⟩) (by simp) _).setCell (p := ⟨w.heap.size + 1 + 1, 0, none⟩) (by simp; omega) _
  have Hbf : Hid (Below w.heap.size w ((w2.setCell ⟨w.heap.size + 1, 0, none⟩ (.string ⟨out.toArray⟩)).setCell ⟨w.heap.size + 1 + 1, 0, none⟩ (.int .i64 0))) := hbf
  have hl2 : w.heap.size + 1 + 1 < w2.heap.size := by omega
  clear hcc hff hrow hne k1 k2 z1 z2 hbf hb1 hb2
  go_wp2_with fail
  refine leaves_cons (f := 56) (args := #[.pointer (some ⟨w.heap.size + 1, 0, none⟩), .pointer (some ⟨w.heap.size + 1 + 1, 0, none⟩)]) (by simp) (by simp [go_sem]) ?_
  refine (idle56 _ _ _).mono ?_
  rintro e u' w3 ⟨rfl, rfl, rfl⟩
  have r1 : ((w2.setCell ⟨w.heap.size + 1, 0, none⟩ (.string ⟨out.toArray⟩)).setCell ⟨w.heap.size + 1 + 1, 0, none⟩ (.int .i64 0)).cell? ⟨w.heap.size + 1, 0, none⟩ = some (.string ⟨out.toArray⟩) := by go_simp
  have r2 : ((w2.setCell ⟨w.heap.size + 1, 0, none⟩ (.string ⟨out.toArray⟩)).setCell ⟨w.heap.size + 1 + 1, 0, none⟩ (.int .i64 0)).cell? ⟨w.heap.size + 1 + 1, 0, none⟩ = some (.int .i64 0) := by go_simp
  simp [Leaves, settle, results, Try.results17, go_sem, r1, r2]
  exact Hbf.out

set_option maxRecDepth 100000 in
set_option maxHeartbeats 1000000 in
theorem encInts_no {mb cb : Nat} {fget v : Value} {w : World} (hin : ∀ w' p, Low w.heap.size w w' → w.heap.size ≤ p → WAt w' p [] 0 → Calls Try.prog 58 #[.pointer (some ⟨p, 0, none⟩), v, .pointer (some ⟨mb, 0, none⟩), .pointer (some ⟨cb, 0, none⟩)] w' fun e w2 => e = .returned (.tuple #[]) ∧ (∃ out, WAt w2 p out 22) ∧ WFr p w' w2) :
    Calls Try.prog 17 #[.agg #[.func (.func 58) #[] #[.pointer (some ⟨mb, 0, none⟩), .pointer (some ⟨cb, 0, none⟩)], fget], v] w fun e w' => e = .returned (.tuple #[.string ⟨#[]⟩, .int .i64 22]) ∧ Below w.heap.size w w' := by
  have hmf : ∀ (fn : Fn) (first cap : Array Value) (w : World), (Instr.makeFunc fn first cap).run Try.prog w = .ok (.func fn first cap) w := fun _ _ _ _ => rfl
  go_enter_defers Try.func17, Try.ntmps17
  go_wp2_with fail
  obtain ⟨w1, hw1⟩ : ∃ w1, w1 = (((w.alloc (Obj.cells #[Value.func (Fn.func 58) #[] #[.pointer (some ⟨mb, 0, none⟩), .pointer (some ⟨cb, 0, none⟩)], fget] 40)).alloc (Obj.cells #[Value.string ⟨#[]⟩] 9)).alloc (Obj.cells #[Value.int IntKind.i64 0] 28)).alloc (Obj.cells #[Value.slice none 0 0, Value.int IntKind.i64 0] 127) := ⟨_, rfl⟩
  obtain ⟨q0, q1, q2, q3, hs1, hb1⟩ := four w (Obj.cells #[Value.func (Fn.func 58) #[] #[.pointer (some ⟨mb, 0, none⟩), .pointer (some ⟨cb, 0, none⟩)], fget] 40) (Obj.cells #[Value.string ⟨#[]⟩] 9) (Obj.cells #[Value.int IntKind.i64 0] 28) (Obj.cells #[Value.slice none 0 0, Value.int IntKind.i64 0] 127)
  rw [← hw1] at q0 q1 q2 q3 hs1 hb1
  have hW1 : WAt w1 (w.heap.size + 1 + 1 + 1) [] 0 := ⟨_, q3, World.ownsRow_nil _ _ _ _⟩
  have k1 : w1.cell? ⟨w.heap.size + 1, 0, none⟩ = some (.string ⟨#[]⟩) := by rw [cell_of_heap q1]; rfl
  have k2 : w1.cell? ⟨w.heap.size + 1 + 1, 0, none⟩ = some (.int .i64 0) := by rw [cell_of_heap q2]; rfl
  have z1 : w1.frozen? ⟨w.heap.size + 1, 0, none⟩ = false := frozen_of_heap q1 0
  have z2 : w1.frozen? ⟨w.heap.size + 1 + 1, 0, none⟩ = false := frozen_of_heap q2 0
  clear q0 q1 q2 q3
  rw [← hw1]
  clear hw1
  refine (hin w1 _ (fun k hk => hb1.block k hk) (by omega) hW1).mono ?_
  rintro e w2 ⟨rfl, ⟨out, h2⟩, f2⟩
  have hb2 := f2.below (by omega)
  obtain ⟨hcc, hff⟩ := bcell hb2
  have k3 := (hcc (w.heap.size + 1) 0 (by omega)).trans k1
  have k4 := (hcc (w.heap.size + 1 + 1) 0 (by omega)).trans k2
  have z3 := (hff (w.heap.size + 1) 0 (by omega)).trans z1
  have z4 := (hff (w.heap.size + 1 + 1) 0 (by omega)).trans z2
  obtain ⟨a, c, c0, c1, cf, hrow, hlt, hne⟩ := h2.cells
  have hb3 := hb1.trans (hb2.mono (by omega))
  have hl2 : w.heap.size + 1 + 1 < w2.heap.size := by omega
  clear hcc hff hrow hne k1 k2 z1 z2 hb1 hb2
  go_wp2_with fail
  go_region
  all_goals
    go_wp2_with fail
    refine leaves_cons (f := 56) (args := #[.pointer (some ⟨w.heap.size + 1, 0, none⟩), .pointer (some ⟨w.heap.size + 1 + 1, 0, none⟩)]) (by simp) (by simp [go_sem]) ?_
    refine (idle56 _ _ _).mono ?_
    rintro e u' w3 ⟨rfl, rfl, rfl⟩
    have r1 : ((w2.setCell ⟨w.heap.size + 1, 0, none⟩ (.string ⟨#[]⟩)).setCell ⟨w.heap.size + 1 + 1, 0, none⟩ (.int .i64 22)).cell? ⟨w.heap.size + 1, 0, none⟩ = some (.string ⟨#[]⟩) := by go_simp
    have r2 : ((w2.setCell ⟨w.heap.size + 1, 0, none⟩ (.string ⟨#[]⟩)).setCell ⟨w.heap.size + 1 + 1, 0, none⟩ (.int .i64 22)).cell? ⟨w.heap.size + 1 + 1, 0, none⟩ = some (.int .i64 22) := by go_simp
    simp [Leaves, settle, results, Try.results17, go_sem, r1, r2]
    exact ((hb3.setCell (p := ⟨w.heap.size + 1, 0, none⟩) (by simp) _).setCell (p := ⟨w.heap.size + 1 + 1, 0, none⟩) (by simp; omega) _).drew

theorem idle83 (a b : Nat) (w : World) :
    CallsD Try.prog 83 #[.pointer (some ⟨a, 0, none⟩), .pointer (some ⟨b, 0, none⟩)] .returning w fun e u' w' => e = .returned (.tuple #[]) ∧ u' = .returning ∧ w' = w := by
  refine callsD_of_wpS Try.func83 rfl fun c₀ cs hu => ?_
  apply wpS_seq
  apply wpS_region
  simp [wpOpsS, go_sem, recoverD, hu, Try.ntmps83, Exit.thenS]
  refine wpS_cond (t := false) (by simp [Act.eval, Array.replicate]) ?_
  simp only [Bool.false_eq_true, if_false]
  refine wpS_of_wp (wp_skip ?_)
  cases c₀
  simp_all [bodyPostS, results, Try.results83]

set_option maxRecDepth 100000 in
set_option maxHeartbeats 1000000 in
theorem encBools_ok {mb cb : Nat} {fget v : Value} {out : List UInt8} {w : World} (hin : ∀ w' p, Low w.heap.size w w' → w.heap.size ≤ p → WAt w' p [] 0 → Calls Try.prog 81 #[.pointer (some ⟨p, 0, none⟩), v, .pointer (some ⟨mb, 0, none⟩), .pointer (some ⟨cb, 0, none⟩)] w' fun e w2 => e = .returned (.tuple #[]) ∧ WAt w2 p out 0 ∧ WFr p w' w2) :
    Calls Try.prog 37 #[.agg #[.func (.func 81) #[] #[.pointer (some ⟨mb, 0, none⟩), .pointer (some ⟨cb, 0, none⟩)], fget], v] w fun e w' => e = .returned (.tuple #[.string ⟨out.toArray⟩, .int .i64 0]) ∧ Below w.heap.size w w' := by
  have hmf : ∀ (fn : Fn) (first cap : Array Value) (w : World), (Instr.makeFunc fn first cap).run Try.prog w = .ok (.func fn first cap) w := fun _ _ _ _ => rfl
  go_enter_defers Try.func37, Try.ntmps37
  go_wp2_with fail
  obtain ⟨w1, hw1⟩ : ∃ w1, w1 = (((w.alloc (Obj.cells #[Value.func (Fn.func 81) #[] #[.pointer (some ⟨mb, 0, none⟩), .pointer (some ⟨cb, 0, none⟩)], fget] 93)).alloc (Obj.cells #[Value.string ⟨#[]⟩] 9)).alloc (Obj.cells #[Value.int IntKind.i64 0] 28)).alloc (Obj.cells #[Value.slice none 0 0, Value.int IntKind.i64 0] 127) := ⟨_, rfl⟩
  obtain ⟨q0, q1, q2, q3, hs1, hb1⟩ := four w (Obj.cells #[Value.func (Fn.func 81) #[] #[.pointer (some ⟨mb, 0, none⟩), .pointer (some ⟨cb, 0, none⟩)], fget] 93) (Obj.cells #[Value.string ⟨#[]⟩] 9) (Obj.cells #[Value.int IntKind.i64 0] 28) (Obj.cells #[Value.slice none 0 0, Value.int IntKind.i64 0] 127)
  rw [← hw1] at q0 q1 q2 q3 hs1 hb1
  have hW1 : WAt w1 (w.heap.size + 1 + 1 + 1) [] 0 := ⟨_, q3, World.ownsRow_nil _ _ _ _⟩
  have k1 : w1.cell? ⟨w.heap.size + 1, 0, none⟩ = some (.string ⟨#[]⟩) := by rw [cell_of_heap q1]; rfl
  have k2 : w1.cell? ⟨w.heap.size + 1 + 1, 0, none⟩ = some (.int .i64 0) := by rw [cell_of_heap q2]; rfl
  have z1 : w1.frozen? ⟨w.heap.size + 1, 0, none⟩ = false := frozen_of_heap q1 0
  have z2 : w1.frozen? ⟨w.heap.size + 1 + 1, 0, none⟩ = false := frozen_of_heap q2 0
  clear q0 q1 q2 q3
  rw [← hw1]
  clear hw1
  refine (hin w1 _ (fun k hk => hb1.block k hk) (by omega) hW1).mono ?_
  rintro e w2 ⟨rfl, h2, f2⟩
  have hb2 := f2.below (by omega)
  obtain ⟨hcc, hff⟩ := bcell hb2
  have k3 := (hcc (w.heap.size + 1) 0 (by omega)).trans k1
  have k4 := (hcc (w.heap.size + 1 + 1) 0 (by omega)).trans k2
  have z3 := (hff (w.heap.size + 1) 0 (by omega)).trans z1
  have z4 := (hff (w.heap.size + 1 + 1) 0 (by omega)).trans z2
  obtain ⟨a, c, c0, c1, cf, hrow, hlt, hne⟩ := h2.cells
  have hcv := conv_bytes hrow
  have hbf : Below w.heap.size w ((w2.setCell ⟨w.heap.size + 1, 0, none⟩ (.string ⟨out.toArray⟩)).setCell ⟨w.heap.size + 1 + 1, 0, none⟩ (.int .i64 0)) := ((hb1.trans (hb2.mono (by omega))).setCell (p := ⟨w.heap.size + 1, 0, none⟩) (by simp) _).setCell (p := ⟨w.heap.size + 1 + 1, 0, none⟩) (by simp; omega) _
  have Hbf : Hid (Below w.heap.size w ((w2.setCell ⟨w.heap.size + 1, 0, none⟩ (.string ⟨out.toArray⟩)).setCell ⟨w.heap.size + 1 + 1, 0, none⟩ (.int .i64 0))) := hbf
  have hl2 : w.heap.size + 1 + 1 < w2.heap.size := by omega
  clear hcc hff hrow hne k1 k2 z1 z2 hbf hb1 hb2
  go_wp2_with fail
  refine leaves_cons (f := 83) (args := #[.pointer (some ⟨w.heap.size + 1, 0, none⟩), .pointer (some ⟨w.heap.size + 1 + 1, 0, none⟩)]) (by simp) (by simp [go_sem]) ?_
  refine (idle83 _ _ _).mono ?_
  rintro e u' w3 ⟨rfl, rfl, rfl⟩
  have r1 : ((w2.setCell ⟨w.heap.size + 1, 0, none⟩ (.string ⟨out.toArray⟩)).setCell ⟨w.heap.size + 1 + 1, 0, none⟩ (.int .i64 0)).cell? ⟨w.heap.size + 1, 0, none⟩ = some (.string ⟨out.toArray⟩) := by go_simp
  have r2 : ((w2.setCell ⟨w.heap.size + 1, 0, none⟩ (.string ⟨out.toArray⟩)).setCell ⟨w.heap.size + 1 + 1, 0, none⟩ (.int .i64 0)).cell? ⟨w.heap.size + 1 + 1, 0, none⟩ = some (.int .i64 0) := by go_simp
  simp [Leaves, settle, results, Try.results37, go_sem, r1, r2]
  exact Hbf.out

set_option maxRecDepth 100000 in
set_option maxHeartbeats 1000000 in
theorem encBools_no {mb cb : Nat} {fget v : Value} {w : World} (hin : ∀ w' p, Low w.heap.size w w' → w.heap.size ≤ p → WAt w' p [] 0 → Calls Try.prog 81 #[.pointer (some ⟨p, 0, none⟩), v, .pointer (some ⟨mb, 0, none⟩), .pointer (some ⟨cb, 0, none⟩)] w' fun e w2 => e = .returned (.tuple #[]) ∧ (∃ out, WAt w2 p out 22) ∧ WFr p w' w2) :
    Calls Try.prog 37 #[.agg #[.func (.func 81) #[] #[.pointer (some ⟨mb, 0, none⟩), .pointer (some ⟨cb, 0, none⟩)], fget], v] w fun e w' => e = .returned (.tuple #[.string ⟨#[]⟩, .int .i64 22]) ∧ Below w.heap.size w w' := by
  have hmf : ∀ (fn : Fn) (first cap : Array Value) (w : World), (Instr.makeFunc fn first cap).run Try.prog w = .ok (.func fn first cap) w := fun _ _ _ _ => rfl
  go_enter_defers Try.func37, Try.ntmps37
  go_wp2_with fail
  obtain ⟨w1, hw1⟩ : ∃ w1, w1 = (((w.alloc (Obj.cells #[Value.func (Fn.func 81) #[] #[.pointer (some ⟨mb, 0, none⟩), .pointer (some ⟨cb, 0, none⟩)], fget] 93)).alloc (Obj.cells #[Value.string ⟨#[]⟩] 9)).alloc (Obj.cells #[Value.int IntKind.i64 0] 28)).alloc (Obj.cells #[Value.slice none 0 0, Value.int IntKind.i64 0] 127) := ⟨_, rfl⟩
  obtain ⟨q0, q1, q2, q3, hs1, hb1⟩ := four w (Obj.cells #[Value.func (Fn.func 81) #[] #[.pointer (some ⟨mb, 0, none⟩), .pointer (some ⟨cb, 0, none⟩)], fget] 93) (Obj.cells #[Value.string ⟨#[]⟩] 9) (Obj.cells #[Value.int IntKind.i64 0] 28) (Obj.cells #[Value.slice none 0 0, Value.int IntKind.i64 0] 127)
  rw [← hw1] at q0 q1 q2 q3 hs1 hb1
  have hW1 : WAt w1 (w.heap.size + 1 + 1 + 1) [] 0 := ⟨_, q3, World.ownsRow_nil _ _ _ _⟩
  have k1 : w1.cell? ⟨w.heap.size + 1, 0, none⟩ = some (.string ⟨#[]⟩) := by rw [cell_of_heap q1]; rfl
  have k2 : w1.cell? ⟨w.heap.size + 1 + 1, 0, none⟩ = some (.int .i64 0) := by rw [cell_of_heap q2]; rfl
  have z1 : w1.frozen? ⟨w.heap.size + 1, 0, none⟩ = false := frozen_of_heap q1 0
  have z2 : w1.frozen? ⟨w.heap.size + 1 + 1, 0, none⟩ = false := frozen_of_heap q2 0
  clear q0 q1 q2 q3
  rw [← hw1]
  clear hw1
  refine (hin w1 _ (fun k hk => hb1.block k hk) (by omega) hW1).mono ?_
  rintro e w2 ⟨rfl, ⟨out, h2⟩, f2⟩
  have hb2 := f2.below (by omega)
  obtain ⟨hcc, hff⟩ := bcell hb2
  have k3 := (hcc (w.heap.size + 1) 0 (by omega)).trans k1
  have k4 := (hcc (w.heap.size + 1 + 1) 0 (by omega)).trans k2
  have z3 := (hff (w.heap.size + 1) 0 (by omega)).trans z1
  have z4 := (hff (w.heap.size + 1 + 1) 0 (by omega)).trans z2
  obtain ⟨a, c, c0, c1, cf, hrow, hlt, hne⟩ := h2.cells
  have hb3 := hb1.trans (hb2.mono (by omega))
  have hl2 : w.heap.size + 1 + 1 < w2.heap.size := by omega
  clear hcc hff hrow hne k1 k2 z1 z2 hb1 hb2
  go_wp2_with fail
  go_region
  all_goals
    go_wp2_with fail
    refine leaves_cons (f := 83) (args := #[.pointer (some ⟨w.heap.size + 1, 0, none⟩), .pointer (some ⟨w.heap.size + 1 + 1, 0, none⟩)]) (by simp) (by simp [go_sem]) ?_
    refine (idle83 _ _ _).mono ?_
    rintro e u' w3 ⟨rfl, rfl, rfl⟩
    have r1 : ((w2.setCell ⟨w.heap.size + 1, 0, none⟩ (.string ⟨#[]⟩)).setCell ⟨w.heap.size + 1 + 1, 0, none⟩ (.int .i64 22)).cell? ⟨w.heap.size + 1, 0, none⟩ = some (.string ⟨#[]⟩) := by go_simp
    have r2 : ((w2.setCell ⟨w.heap.size + 1, 0, none⟩ (.string ⟨#[]⟩)).setCell ⟨w.heap.size + 1 + 1, 0, none⟩ (.int .i64 22)).cell? ⟨w.heap.size + 1 + 1, 0, none⟩ = some (.int .i64 22) := by go_simp
    simp [Leaves, settle, results, Try.results37, go_sem, r1, r2]
    exact ((hb3.setCell (p := ⟨w.heap.size + 1, 0, none⟩) (by simp) _).setCell (p := ⟨w.heap.size + 1 + 1, 0, none⟩) (by simp; omega) _).drew

theorem idle85 (a b : Nat) (w : World) :
    CallsD Try.prog 85 #[.pointer (some ⟨a, 0, none⟩), .pointer (some ⟨b, 0, none⟩)] .returning w fun e u' w' => e = .returned (.tuple #[]) ∧ u' = .returning ∧ w' = w := by
  refine callsD_of_wpS Try.func85 rfl fun c₀ cs hu => ?_
  apply wpS_seq
  apply wpS_region
  simp [wpOpsS, go_sem, recoverD, hu, Try.ntmps85, Exit.thenS]
  refine wpS_cond (t := false) (by simp [Act.eval, Array.replicate]) ?_
  simp only [Bool.false_eq_true, if_false]
  refine wpS_of_wp (wp_skip ?_)
  cases c₀
  simp_all [bodyPostS, results, Try.results85]

set_option maxRecDepth 100000 in
set_option maxHeartbeats 1000000 in
theorem encStrs_ok {mb cb : Nat} {fget v : Value} {out : List UInt8} {w : World} (hin : ∀ w' p, Low w.heap.size w w' → w.heap.size ≤ p → WAt w' p [] 0 → Calls Try.prog 75 #[.pointer (some ⟨p, 0, none⟩), v, .pointer (some ⟨mb, 0, none⟩), .pointer (some ⟨cb, 0, none⟩)] w' fun e w2 => e = .returned (.tuple #[]) ∧ WAt w2 p out 0 ∧ WFr p w' w2) :
    Calls Try.prog 39 #[.agg #[.func (.func 75) #[] #[.pointer (some ⟨mb, 0, none⟩), .pointer (some ⟨cb, 0, none⟩)], fget], v] w fun e w' => e = .returned (.tuple #[.string ⟨out.toArray⟩, .int .i64 0]) ∧ Below w.heap.size w w' := by
  have hmf : ∀ (fn : Fn) (first cap : Array Value) (w : World), (Instr.makeFunc fn first cap).run Try.prog w = .ok (.func fn first cap) w := fun _ _ _ _ => rfl
  go_enter_defers Try.func39, Try.ntmps39
  go_wp2_with fail
  obtain ⟨w1, hw1⟩ : ∃ w1, w1 = (((w.alloc (Obj.cells #[Value.func (Fn.func 75) #[] #[.pointer (some ⟨mb, 0, none⟩), .pointer (some ⟨cb, 0, none⟩)], fget] 73)).alloc (Obj.cells #[Value.string ⟨#[]⟩] 9)).alloc (Obj.cells #[Value.int IntKind.i64 0] 28)).alloc (Obj.cells #[Value.slice none 0 0, Value.int IntKind.i64 0] 127) := ⟨_, rfl⟩
  obtain ⟨q0, q1, q2, q3, hs1, hb1⟩ := four w (Obj.cells #[Value.func (Fn.func 75) #[] #[.pointer (some ⟨mb, 0, none⟩), .pointer (some ⟨cb, 0, none⟩)], fget] 73) (Obj.cells #[Value.string ⟨#[]⟩] 9) (Obj.cells #[Value.int IntKind.i64 0] 28) (Obj.cells #[Value.slice none 0 0, Value.int IntKind.i64 0] 127)
  rw [← hw1] at q0 q1 q2 q3 hs1 hb1
  have hW1 : WAt w1 (w.heap.size + 1 + 1 + 1) [] 0 := ⟨_, q3, World.ownsRow_nil _ _ _ _⟩
  have k1 : w1.cell? ⟨w.heap.size + 1, 0, none⟩ = some (.string ⟨#[]⟩) := by rw [cell_of_heap q1]; rfl
  have k2 : w1.cell? ⟨w.heap.size + 1 + 1, 0, none⟩ = some (.int .i64 0) := by rw [cell_of_heap q2]; rfl
  have z1 : w1.frozen? ⟨w.heap.size + 1, 0, none⟩ = false := frozen_of_heap q1 0
  have z2 : w1.frozen? ⟨w.heap.size + 1 + 1, 0, none⟩ = false := frozen_of_heap q2 0
  clear q0 q1 q2 q3
  rw [← hw1]
  clear hw1
  refine (hin w1 _ (fun k hk => hb1.block k hk) (by omega) hW1).mono ?_
  rintro e w2 ⟨rfl, h2, f2⟩
  have hb2 := f2.below (by omega)
  obtain ⟨hcc, hff⟩ := bcell hb2
  have k3 := (hcc (w.heap.size + 1) 0 (by omega)).trans k1
  have k4 := (hcc (w.heap.size + 1 + 1) 0 (by omega)).trans k2
  have z3 := (hff (w.heap.size + 1) 0 (by omega)).trans z1
  have z4 := (hff (w.heap.size + 1 + 1) 0 (by omega)).trans z2
  obtain ⟨a, c, c0, c1, cf, hrow, hlt, hne⟩ := h2.cells
  have hcv := conv_bytes hrow
  have hbf : Below w.heap.size w ((w2.setCell ⟨w.heap.size + 1, 0, none⟩ (.string ⟨out.toArray⟩)).setCell ⟨w.heap.size + 1 + 1, 0, none⟩ (.int .i64 0)) := ((hb1.trans (hb2.mono (by omega))).setCell (p := ⟨w.heap.size + 1, 0, none⟩) (by simp) _).setCell (p := ⟨w.heap.size + 1 + 1, 0, none⟩) (by simp; omega) _
  have Hbf : Hid (Below w.heap.size w ((w2.setCell ⟨w.heap.size + 1, 0, none⟩ (.string ⟨out.toArray⟩)).setCell ⟨w.heap.size + 1 + 1, 0, none⟩ (.int .i64 0))) := hbf
  have hl2 : w.heap.size + 1 + 1 < w2.heap.size := by omega
  clear hcc hff hrow hne k1 k2 z1 z2 hbf hb1 hb2
  go_wp2_with fail
  refine leaves_cons (f := 85) (args := #[.pointer (some ⟨w.heap.size + 1, 0, none⟩), .pointer (some ⟨w.heap.size + 1 + 1, 0, none⟩)]) (by simp) (by simp [go_sem]) ?_
  refine (idle85 _ _ _).mono ?_
  rintro e u' w3 ⟨rfl, rfl, rfl⟩
  have r1 : ((w2.setCell ⟨w.heap.size + 1, 0, none⟩ (.string ⟨out.toArray⟩)).setCell ⟨w.heap.size + 1 + 1, 0, none⟩ (.int .i64 0)).cell? ⟨w.heap.size + 1, 0, none⟩ = some (.string ⟨out.toArray⟩) := by go_simp
  have r2 : ((w2.setCell ⟨w.heap.size + 1, 0, none⟩ (.string ⟨out.toArray⟩)).setCell ⟨w.heap.size + 1 + 1, 0, none⟩ (.int .i64 0)).cell? ⟨w.heap.size + 1 + 1, 0, none⟩ = some (.int .i64 0) := by go_simp
  simp [Leaves, settle, results, Try.results39, go_sem, r1, r2]
  exact Hbf.out

set_option maxRecDepth 100000 in
set_option maxHeartbeats 1000000 in
theorem encStrs_no {mb cb : Nat} {fget v : Value} {w : World} (hin : ∀ w' p, Low w.heap.size w w' → w.heap.size ≤ p → WAt w' p [] 0 → Calls Try.prog 75 #[.pointer (some ⟨p, 0, none⟩), v, .pointer (some ⟨mb, 0, none⟩), .pointer (some ⟨cb, 0, none⟩)] w' fun e w2 => e = .returned (.tuple #[]) ∧ (∃ out, WAt w2 p out 22) ∧ WFr p w' w2) :
    Calls Try.prog 39 #[.agg #[.func (.func 75) #[] #[.pointer (some ⟨mb, 0, none⟩), .pointer (some ⟨cb, 0, none⟩)], fget], v] w fun e w' => e = .returned (.tuple #[.string ⟨#[]⟩, .int .i64 22]) ∧ Below w.heap.size w w' := by
  have hmf : ∀ (fn : Fn) (first cap : Array Value) (w : World), (Instr.makeFunc fn first cap).run Try.prog w = .ok (.func fn first cap) w := fun _ _ _ _ => rfl
  go_enter_defers Try.func39, Try.ntmps39
  go_wp2_with fail
  obtain ⟨w1, hw1⟩ : ∃ w1, w1 = (((w.alloc (Obj.cells #[Value.func (Fn.func 75) #[] #[.pointer (some ⟨mb, 0, none⟩), .pointer (some ⟨cb, 0, none⟩)], fget] 73)).alloc (Obj.cells #[Value.string ⟨#[]⟩] 9)).alloc (Obj.cells #[Value.int IntKind.i64 0] 28)).alloc (Obj.cells #[Value.slice none 0 0, Value.int IntKind.i64 0] 127) := ⟨_, rfl⟩
  obtain ⟨q0, q1, q2, q3, hs1, hb1⟩ := four w (Obj.cells #[Value.func (Fn.func 75) #[] #[.pointer (some ⟨mb, 0, none⟩), .pointer (some ⟨cb, 0, none⟩)], fget] 73) (Obj.cells #[Value.string ⟨#[]⟩] 9) (Obj.cells #[Value.int IntKind.i64 0] 28) (Obj.cells #[Value.slice none 0 0, Value.int IntKind.i64 0] 127)
  rw [← hw1] at q0 q1 q2 q3 hs1 hb1
  have hW1 : WAt w1 (w.heap.size + 1 + 1 + 1) [] 0 := ⟨_, q3, World.ownsRow_nil _ _ _ _⟩
  have k1 : w1.cell? ⟨w.heap.size + 1, 0, none⟩ = some (.string ⟨#[]⟩) := by rw [cell_of_heap q1]; rfl
  have k2 : w1.cell? ⟨w.heap.size + 1 + 1, 0, none⟩ = some (.int .i64 0) := by rw [cell_of_heap q2]; rfl
  have z1 : w1.frozen? ⟨w.heap.size + 1, 0, none⟩ = false := frozen_of_heap q1 0
  have z2 : w1.frozen? ⟨w.heap.size + 1 + 1, 0, none⟩ = false := frozen_of_heap q2 0
  clear q0 q1 q2 q3
  rw [← hw1]
  clear hw1
  refine (hin w1 _ (fun k hk => hb1.block k hk) (by omega) hW1).mono ?_
  rintro e w2 ⟨rfl, ⟨out, h2⟩, f2⟩
  have hb2 := f2.below (by omega)
  obtain ⟨hcc, hff⟩ := bcell hb2
  have k3 := (hcc (w.heap.size + 1) 0 (by omega)).trans k1
  have k4 := (hcc (w.heap.size + 1 + 1) 0 (by omega)).trans k2
  have z3 := (hff (w.heap.size + 1) 0 (by omega)).trans z1
  have z4 := (hff (w.heap.size + 1 + 1) 0 (by omega)).trans z2
  obtain ⟨a, c, c0, c1, cf, hrow, hlt, hne⟩ := h2.cells
  have hb3 := hb1.trans (hb2.mono (by omega))
  have hl2 : w.heap.size + 1 + 1 < w2.heap.size := by omega
  clear hcc hff hrow hne k1 k2 z1 z2 hb1 hb2
  go_wp2_with fail
  go_region
  all_goals
    go_wp2_with fail
    refine leaves_cons (f := 85) (args := #[.pointer (some ⟨w.heap.size + 1, 0, none⟩), .pointer (some ⟨w.heap.size + 1 + 1, 0, none⟩)]) (by simp) (by simp [go_sem]) ?_
    refine (idle85 _ _ _).mono ?_
    rintro e u' w3 ⟨rfl, rfl, rfl⟩
    have r1 : ((w2.setCell ⟨w.heap.size + 1, 0, none⟩ (.string ⟨#[]⟩)).setCell ⟨w.heap.size + 1 + 1, 0, none⟩ (.int .i64 22)).cell? ⟨w.heap.size + 1, 0, none⟩ = some (.string ⟨#[]⟩) := by go_simp
    have r2 : ((w2.setCell ⟨w.heap.size + 1, 0, none⟩ (.string ⟨#[]⟩)).setCell ⟨w.heap.size + 1 + 1, 0, none⟩ (.int .i64 22)).cell? ⟨w.heap.size + 1 + 1, 0, none⟩ = some (.int .i64 22) := by go_simp
    simp [Leaves, settle, results, Try.results39, go_sem, r1, r2]
    exact ((hb3.setCell (p := ⟨w.heap.size + 1, 0, none⟩) (by simp) _).setCell (p := ⟨w.heap.size + 1 + 1, 0, none⟩) (by simp; omega) _).drew

theorem idle80 (a b : Nat) (w : World) :
    CallsD Try.prog 80 #[.pointer (some ⟨a, 0, none⟩), .pointer (some ⟨b, 0, none⟩)] .returning w fun e u' w' => e = .returned (.tuple #[]) ∧ u' = .returning ∧ w' = w := by
  refine callsD_of_wpS Try.func80 rfl fun c₀ cs hu => ?_
  apply wpS_seq
  apply wpS_region
  simp [wpOpsS, go_sem, recoverD, hu, Try.ntmps80, Exit.thenS]
  refine wpS_cond (t := false) (by simp [Act.eval, Array.replicate]) ?_
  simp only [Bool.false_eq_true, if_false]
  refine wpS_of_wp (wp_skip ?_)
  cases c₀
  simp_all [bodyPostS, results, Try.results80]

set_option maxRecDepth 100000 in
set_option maxHeartbeats 1000000 in
theorem encStrss_ok {mb cb : Nat} {fget v : Value} {out : List UInt8} {w : World} (hin : ∀ w' p, Low w.heap.size w w' → w.heap.size ≤ p → WAt w' p [] 0 → Calls Try.prog 77 #[.pointer (some ⟨p, 0, none⟩), v, .pointer (some ⟨mb, 0, none⟩), .pointer (some ⟨cb, 0, none⟩)] w' fun e w2 => e = .returned (.tuple #[]) ∧ WAt w2 p out 0 ∧ WFr p w' w2) :
    Calls Try.prog 35 #[.agg #[.func (.func 77) #[] #[.pointer (some ⟨mb, 0, none⟩), .pointer (some ⟨cb, 0, none⟩)], fget], v] w fun e w' => e = .returned (.tuple #[.string ⟨out.toArray⟩, .int .i64 0]) ∧ Below w.heap.size w w' := by
  have hmf : ∀ (fn : Fn) (first cap : Array Value) (w : World), (Instr.makeFunc fn first cap).run Try.prog w = .ok (.func fn first cap) w := fun _ _ _ _ => rfl
  go_enter_defers Try.func35, Try.ntmps35
  go_wp2_with fail
  obtain ⟨w1, hw1⟩ : ∃ w1, w1 = (((w.alloc (Obj.cells #[Value.func (Fn.func 77) #[] #[.pointer (some ⟨mb, 0, none⟩), .pointer (some ⟨cb, 0, none⟩)], fget] 82)).alloc (Obj.cells #[Value.string ⟨#[]⟩] 9)).alloc (Obj.cells #[Value.int IntKind.i64 0] 28)).alloc (Obj.cells #[Value.slice none 0 0, Value.int IntKind.i64 0] 127) := ⟨_, rfl⟩
  obtain ⟨q0, q1, q2, q3, hs1, hb1⟩ := four w (Obj.cells #[Value.func (Fn.func 77) #[] #[.pointer (some ⟨mb, 0, none⟩), .pointer (some ⟨cb, 0, none⟩)], fget] 82) (Obj.cells #[Value.string ⟨#[]⟩] 9) (Obj.cells #[Value.int IntKind.i64 0] 28) (Obj.cells #[Value.slice none 0 0, Value.int IntKind.i64 0] 127)
  rw [← hw1] at q0 q1 q2 q3 hs1 hb1
  have hW1 : WAt w1 (w.heap.size + 1 + 1 + 1) [] 0 := ⟨_, q3, World.ownsRow_nil _ _ _ _⟩
  have k1 : w1.cell? ⟨w.heap.size + 1, 0, none⟩ = some (.string ⟨#[]⟩) := by rw [cell_of_heap q1]; rfl
  have k2 : w1.cell? ⟨w.heap.size + 1 + 1, 0, none⟩ = some (.int .i64 0) := by rw [cell_of_heap q2]; rfl
  have z1 : w1.frozen? ⟨w.heap.size + 1, 0, none⟩ = false := frozen_of_heap q1 0
  have z2 : w1.frozen? ⟨w.heap.size + 1 + 1, 0, none⟩ = false := frozen_of_heap q2 0
  clear q0 q1 q2 q3
  rw [← hw1]
  clear hw1
  refine (hin w1 _ (fun k hk => hb1.block k hk) (by omega) hW1).mono ?_
  rintro e w2 ⟨rfl, h2, f2⟩
  have hb2 := f2.below (by omega)
  obtain ⟨hcc, hff⟩ := bcell hb2
  have k3 := (hcc (w.heap.size + 1) 0 (by omega)).trans k1
  have k4 := (hcc (w.heap.size + 1 + 1) 0 (by omega)).trans k2
  have z3 := (hff (w.heap.size + 1) 0 (by omega)).trans z1
  have z4 := (hff (w.heap.size + 1 + 1) 0 (by omega)).trans z2
  obtain ⟨a, c, c0, c1, cf, hrow, hlt, hne⟩ := h2.cells
  have hcv := conv_bytes hrow
  have hbf : Below w.heap.size w ((w2.setCell ⟨w.heap.size + 1, 0, none⟩ (.string ⟨out.toArray⟩)).setCell ⟨w.heap.size + 1 + 1, 0, none⟩ (.int .i64 0)) := ((hb1.trans (hb2.mono (by omega))).setCell (p := ⟨w.heap.size + 1, 0, none⟩) (by simp) _).setCell (p := ⟨w.heap.size + 1 + 1, 0, none⟩) (by simp; omega) _
  have Hbf : Hid (Below w.heap.size w ((w2.setCell ⟨w.heap.size + 1, 0, none⟩ (.string ⟨out.toArray⟩)).setCell ⟨w.heap.size + 1 + 1, 0, none⟩ (.int .i64 0))) := hbf
  have hl2 : w.heap.size + 1 + 1 < w2.heap.size := by omega
  clear hcc hff hrow hne k1 k2 z1 z2 hbf hb1 hb2
  go_wp2_with fail
  refine leaves_cons (f := 80) (args := #[.pointer (some ⟨w.heap.size + 1, 0, none⟩), .pointer (some ⟨w.heap.size + 1 + 1, 0, none⟩)]) (by simp) (by simp [go_sem]) ?_
  refine (idle80 _ _ _).mono ?_
  rintro e u' w3 ⟨rfl, rfl, rfl⟩
  have r1 : ((w2.setCell ⟨w.heap.size + 1, 0, none⟩ (.string ⟨out.toArray⟩)).setCell ⟨w.heap.size + 1 + 1, 0, none⟩ (.int .i64 0)).cell? ⟨w.heap.size + 1, 0, none⟩ = some (.string ⟨out.toArray⟩) := by go_simp
  have r2 : ((w2.setCell ⟨w.heap.size + 1, 0, none⟩ (.string ⟨out.toArray⟩)).setCell ⟨w.heap.size + 1 + 1, 0, none⟩ (.int .i64 0)).cell? ⟨w.heap.size + 1 + 1, 0, none⟩ = some (.int .i64 0) := by go_simp
  simp [Leaves, settle, results, Try.results35, go_sem, r1, r2]
  exact Hbf.out

set_option maxRecDepth 100000 in
set_option maxHeartbeats 1000000 in
theorem encStrss_no {mb cb : Nat} {fget v : Value} {w : World} (hin : ∀ w' p, Low w.heap.size w w' → w.heap.size ≤ p → WAt w' p [] 0 → Calls Try.prog 77 #[.pointer (some ⟨p, 0, none⟩), v, .pointer (some ⟨mb, 0, none⟩), .pointer (some ⟨cb, 0, none⟩)] w' fun e w2 => e = .returned (.tuple #[]) ∧ (∃ out, WAt w2 p out 22) ∧ WFr p w' w2) :
    Calls Try.prog 35 #[.agg #[.func (.func 77) #[] #[.pointer (some ⟨mb, 0, none⟩), .pointer (some ⟨cb, 0, none⟩)], fget], v] w fun e w' => e = .returned (.tuple #[.string ⟨#[]⟩, .int .i64 22]) ∧ Below w.heap.size w w' := by
  have hmf : ∀ (fn : Fn) (first cap : Array Value) (w : World), (Instr.makeFunc fn first cap).run Try.prog w = .ok (.func fn first cap) w := fun _ _ _ _ => rfl
  go_enter_defers Try.func35, Try.ntmps35
  go_wp2_with fail
  obtain ⟨w1, hw1⟩ : ∃ w1, w1 = (((w.alloc (Obj.cells #[Value.func (Fn.func 77) #[] #[.pointer (some ⟨mb, 0, none⟩), .pointer (some ⟨cb, 0, none⟩)], fget] 82)).alloc (Obj.cells #[Value.string ⟨#[]⟩] 9)).alloc (Obj.cells #[Value.int IntKind.i64 0] 28)).alloc (Obj.cells #[Value.slice none 0 0, Value.int IntKind.i64 0] 127) := ⟨_, rfl⟩
  obtain ⟨q0, q1, q2, q3, hs1, hb1⟩ := four w (Obj.cells #[Value.func (Fn.func 77) #[] #[.pointer (some ⟨mb, 0, none⟩), .pointer (some ⟨cb, 0, none⟩)], fget] 82) (Obj.cells #[Value.string ⟨#[]⟩] 9) (Obj.cells #[Value.int IntKind.i64 0] 28) (Obj.cells #[Value.slice none 0 0, Value.int IntKind.i64 0] 127)
  rw [← hw1] at q0 q1 q2 q3 hs1 hb1
  have hW1 : WAt w1 (w.heap.size + 1 + 1 + 1) [] 0 := ⟨_, q3, World.ownsRow_nil _ _ _ _⟩
  have k1 : w1.cell? ⟨w.heap.size + 1, 0, none⟩ = some (.string ⟨#[]⟩) := by rw [cell_of_heap q1]; rfl
  have k2 : w1.cell? ⟨w.heap.size + 1 + 1, 0, none⟩ = some (.int .i64 0) := by rw [cell_of_heap q2]; rfl
  have z1 : w1.frozen? ⟨w.heap.size + 1, 0, none⟩ = false := frozen_of_heap q1 0
  have z2 : w1.frozen? ⟨w.heap.size + 1 + 1, 0, none⟩ = false := frozen_of_heap q2 0
  clear q0 q1 q2 q3
  rw [← hw1]
  clear hw1
  refine (hin w1 _ (fun k hk => hb1.block k hk) (by omega) hW1).mono ?_
  rintro e w2 ⟨rfl, ⟨out, h2⟩, f2⟩
  have hb2 := f2.below (by omega)
  obtain ⟨hcc, hff⟩ := bcell hb2
  have k3 := (hcc (w.heap.size + 1) 0 (by omega)).trans k1
  have k4 := (hcc (w.heap.size + 1 + 1) 0 (by omega)).trans k2
  have z3 := (hff (w.heap.size + 1) 0 (by omega)).trans z1
  have z4 := (hff (w.heap.size + 1 + 1) 0 (by omega)).trans z2
  obtain ⟨a, c, c0, c1, cf, hrow, hlt, hne⟩ := h2.cells
  have hb3 := hb1.trans (hb2.mono (by omega))
  have hl2 : w.heap.size + 1 + 1 < w2.heap.size := by omega
  clear hcc hff hrow hne k1 k2 z1 z2 hb1 hb2
  go_wp2_with fail
  go_region
  all_goals
    go_wp2_with fail
    refine leaves_cons (f := 80) (args := #[.pointer (some ⟨w.heap.size + 1, 0, none⟩), .pointer (some ⟨w.heap.size + 1 + 1, 0, none⟩)]) (by simp) (by simp [go_sem]) ?_
    refine (idle80 _ _ _).mono ?_
    rintro e u' w3 ⟨rfl, rfl, rfl⟩
    have r1 : ((w2.setCell ⟨w.heap.size + 1, 0, none⟩ (.string ⟨#[]⟩)).setCell ⟨w.heap.size + 1 + 1, 0, none⟩ (.int .i64 22)).cell? ⟨w.heap.size + 1, 0, none⟩ = some (.string ⟨#[]⟩) := by go_simp
    have r2 : ((w2.setCell ⟨w.heap.size + 1, 0, none⟩ (.string ⟨#[]⟩)).setCell ⟨w.heap.size + 1 + 1, 0, none⟩ (.int .i64 22)).cell? ⟨w.heap.size + 1 + 1, 0, none⟩ = some (.int .i64 22) := by go_simp
    simp [Leaves, settle, results, Try.results35, go_sem, r1, r2]
    exact ((hb3.setCell (p := ⟨w.heap.size + 1, 0, none⟩) (by simp) _).setCell (p := ⟨w.heap.size + 1 + 1, 0, none⟩) (by simp; omega) _).drew

end Go.Proofs.Ytjajgllkbchapaa
