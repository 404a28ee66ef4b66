/-
  Encode and Decode of a record.
-/
import Derived.Test.YtjajgllkbchapaaRecB
namespace Go.Proofs.Ytjajgllkbchapaa
open Go.RowKit
set_option linter.unusedSimpArgs false
set_option linter.unusedVariables false

theorem idle98 (a b : Nat) (w : World) :
    CallsD Try.prog 98 #[.pointer (some ⟨a, 0, none⟩), .pointer (some ⟨b, 0, none⟩)] .returning w fun e u' w' => e = .returned (.tuple #[]) ∧ u' = .returning ∧ w' = w := by
  refine callsD_of_wpS Try.func98 rfl fun c₀ cs hu => ?_
  apply wpS_seq
  apply wpS_region
  simp [wpOpsS, go_sem, recoverD, hu, Try.ntmps98, Exit.thenS]
  refine wpS_cond (t := false) (by simp [Act.eval, Array.replicate]) ?_
  simp only [Bool.false_eq_true, if_false]
  refine wpS_of_wp (wp_skip ?_)
  cases c₀
  simp_all [bodyPostS, results, Try.results98]

set_option maxRecDepth 100000 in
set_option maxHeartbeats 1000000 in
theorem encRec_ok {pb : Nat} {fget : Value} {A : Int} {S : ByteArray} {va : Option Addr} {vn vc : Nat} {F : Bool} {out : List UInt8} {w : World} (hin : ∀ w' p, Low w.heap.size w w' → w.heap.size ≤ p → WAt w' p [] 0 → Calls Try.prog 88 #[.pointer (some ⟨p, 0, none⟩), .agg #[.int .i64 A, .string S, .slice va vn vc, .bool F], .pointer (some ⟨pb, 0, none⟩)] w' fun e w2 => e = .returned (.tuple #[]) ∧ WAt w2 p out 0 ∧ WFr p w' w2) :
    Calls Try.prog 50 #[.agg #[.func (.func 88) #[] #[.pointer (some ⟨pb, 0, none⟩)], fget], .agg #[.int .i64 A, .string S, .slice va vn vc, .bool F]] w fun e w' => e = .returned (.tuple #[.string ⟨out.toArray⟩, .int .i64 0]) ∧ Below w.heap.size w w' := by
  have hmf : ∀ (fn : Fn) (first cap : Array Value) (w : World), (Instr.makeFunc fn first cap).run Try.prog w = .ok (.func fn first cap) w := fun _ _ _ _ => rfl
  go_enter_defers Try.func50, Try.ntmps50
  go_wp2_with fail
  obtain ⟨w1, hw1⟩ : ∃ w1, w1 = ((((w.alloc (Obj.cells #[Value.func (Fn.func 88) #[] #[Value.pointer (some ⟨pb, 0, none⟩)], fget] 107)).alloc (Obj.cells #[Value.int .i64 A, Value.string S, Value.slice va vn vc, Value.bool F] 103)).alloc (Obj.cells #[Value.string ⟨#[]⟩] 9)).alloc (Obj.cells #[Value.int IntKind.i64 0] 28)).alloc (Obj.cells #[Value.slice none 0 0, Value.int IntKind.i64 0] 127) := ⟨_, rfl⟩
  obtain ⟨q0, qr, q1, q2, q3, hs1, hb1⟩ := five w (Obj.cells #[Value.func (Fn.func 88) #[] #[Value.pointer (some ⟨pb, 0, none⟩)], fget] 107) (Obj.cells #[Value.int .i64 A, Value.string S, Value.slice va vn vc, Value.bool F] 103) (Obj.cells #[Value.string ⟨#[]⟩] 9) (Obj.cells #[Value.int IntKind.i64 0] 28) (Obj.cells #[Value.slice none 0 0, Value.int IntKind.i64 0] 127)
  rw [← hw1] at q0 qr q1 q2 q3 hs1 hb1
  have hW1 : WAt w1 (w.heap.size + 1 + 1 + 1 + 1) [] 0 := ⟨_, q3, World.ownsRow_nil _ _ _ _⟩
  have k1 : w1.cell? ⟨w.heap.size + 1 + 1, 0, none⟩ = some (.string ⟨#[]⟩) := by rw [cell_of_heap q1]; rfl
  have k2 : w1.cell? ⟨w.heap.size + 1 + 1 + 1, 0, none⟩ = some (.int .i64 0) := by rw [cell_of_heap q2]; rfl
  have z1 : w1.frozen? ⟨w.heap.size + 1 + 1, 0, none⟩ = false := frozen_of_heap q1 0
  have z2 : w1.frozen? ⟨w.heap.size + 1 + 1 + 1, 0, none⟩ = false := frozen_of_heap q2 0
  clear q0 qr q1 q2 q3
  rw [← hw1]
  clear hw1
  refine (hin w1 _ (fun k hk => hb1.block k hk) (by omega) hW1).mono ?_
  rintro e w2 ⟨rfl, h2, f2⟩
  have hb2 := f2.below (by omega)
  obtain ⟨hcc, hff⟩ := bcell hb2
  have k3 := (hcc (w.heap.size + 1 + 1) 0 (by omega)).trans k1
  have k4 := (hcc (w.heap.size + 1 + 1 + 1) 0 (by omega)).trans k2
  have z3 := (hff (w.heap.size + 1 + 1) 0 (by omega)).trans z1
  have z4 := (hff (w.heap.size + 1 + 1 + 1) 0 (by omega)).trans z2
  obtain ⟨a, c, c0, c1, cf, hrow, hlt, hne⟩ := h2.cells
  have hcv := conv_bytes hrow
  have hbf : Below w.heap.size w ((w2.setCell ⟨w.heap.size + 1 + 1, 0, none⟩ (.string ⟨out.toArray⟩)).setCell ⟨w.heap.size + 1 + 1 + 1, 0, none⟩ (.int .i64 0)) := ((hb1.trans (hb2.mono (by omega))).setCell (p := ⟨w.heap.size + 1 + 1, 0, none⟩) (by simp; omega) _).setCell (p := ⟨w.heap.size + 1 + 1 + 1, 0, none⟩) (by simp; omega) _
  have Hbf : Hid (Below w.heap.size w ((w2.setCell ⟨w.heap.size + 1 + 1, 0, none⟩ (.string ⟨out.toArray⟩)).setCell ⟨w.heap.size + 1 + 1 + 1, 0, none⟩ (.int .i64 0))) := hbf
  have hl2 : w.heap.size + 1 + 1 + 1 < w2.heap.size := by omega
  clear hcc hff hrow hne k1 k2 z1 z2 hbf hb1 hb2
  go_wp2_with fail
  refine leaves_cons (f := 98) (args := #[.pointer (some ⟨w.heap.size + 1 + 1, 0, none⟩), .pointer (some ⟨w.heap.size + 1 + 1 + 1, 0, none⟩)]) (by simp) (by simp [go_sem]) ?_
  refine (idle98 _ _ _).mono ?_
  rintro e u' w3 ⟨rfl, rfl, rfl⟩
  have r1 : ((w2.setCell ⟨w.heap.size + 1 + 1, 0, none⟩ (.string ⟨out.toArray⟩)).setCell ⟨w.heap.size + 1 + 1 + 1, 0, none⟩ (.int .i64 0)).cell? ⟨w.heap.size + 1 + 1, 0, none⟩ = some (.string ⟨out.toArray⟩) := by go_simp
  have r2 : ((w2.setCell ⟨w.heap.size + 1 + 1, 0, none⟩ (.string ⟨out.toArray⟩)).setCell ⟨w.heap.size + 1 + 1 + 1, 0, none⟩ (.int .i64 0)).cell? ⟨w.heap.size + 1 + 1 + 1, 0, none⟩ = some (.int .i64 0) := by go_simp
  simp [Leaves, settle, results, Try.results50, go_sem, r1, r2]
  exact Hbf.out

set_option maxRecDepth 100000 in
set_option maxHeartbeats 1000000 in
theorem encRec_no {pb : Nat} {fget : Value} {A : Int} {S : ByteArray} {va : Option Addr} {vn vc : Nat} {F : Bool} {w : World} (hin : ∀ w' p, Low w.heap.size w w' → w.heap.size ≤ p → WAt w' p [] 0 → Calls Try.prog 88 #[.pointer (some ⟨p, 0, none⟩), .agg #[.int .i64 A, .string S, .slice va vn vc, .bool F], .pointer (some ⟨pb, 0, none⟩)] w' fun e w2 => e = .returned (.tuple #[]) ∧ (∃ out, WAt w2 p out 22) ∧ WFr p w' w2) :
    Calls Try.prog 50 #[.agg #[.func (.func 88) #[] #[.pointer (some ⟨pb, 0, none⟩)], fget], .agg #[.int .i64 A, .string S, .slice va vn vc, .bool F]] w fun e w' => e = .returned (.tuple #[.string ⟨#[]⟩, .int .i64 22]) ∧ Below w.heap.size w w' := by
  have hmf : ∀ (fn : Fn) (first cap : Array Value) (w : World), (Instr.makeFunc fn first cap).run Try.prog w = .ok (.func fn first cap) w := fun _ _ _ _ => rfl
  go_enter_defers Try.func50, Try.ntmps50
  go_wp2_with fail
  obtain ⟨w1, hw1⟩ : ∃ w1, w1 = ((((w.alloc (Obj.cells #[Value.func (Fn.func 88) #[] #[Value.pointer (some ⟨pb, 0, none⟩)], fget] 107)).alloc (Obj.cells #[Value.int .i64 A, Value.string S, Value.slice va vn vc, Value.bool F] 103)).alloc (Obj.cells #[Value.string ⟨#[]⟩] 9)).alloc (Obj.cells #[Value.int IntKind.i64 0] 28)).alloc (Obj.cells #[Value.slice none 0 0, Value.int IntKind.i64 0] 127) := ⟨_, rfl⟩
  obtain ⟨q0, qr, q1, q2, q3, hs1, hb1⟩ := five w (Obj.cells #[Value.func (Fn.func 88) #[] #[Value.pointer (some ⟨pb, 0, none⟩)], fget] 107) (Obj.cells #[Value.int .i64 A, Value.string S, Value.slice va vn vc, Value.bool F] 103) (Obj.cells #[Value.string ⟨#[]⟩] 9) (Obj.cells #[Value.int IntKind.i64 0] 28) (Obj.cells #[Value.slice none 0 0, Value.int IntKind.i64 0] 127)
  rw [← hw1] at q0 qr q1 q2 q3 hs1 hb1
  have hW1 : WAt w1 (w.heap.size + 1 + 1 + 1 + 1) [] 0 := ⟨_, q3, World.ownsRow_nil _ _ _ _⟩
  have k1 : w1.cell? ⟨w.heap.size + 1 + 1, 0, none⟩ = some (.string ⟨#[]⟩) := by rw [cell_of_heap q1]; rfl
  have k2 : w1.cell? ⟨w.heap.size + 1 + 1 + 1, 0, none⟩ = some (.int .i64 0) := by rw [cell_of_heap q2]; rfl
  have z1 : w1.frozen? ⟨w.heap.size + 1 + 1, 0, none⟩ = false := frozen_of_heap q1 0
  have z2 : w1.frozen? ⟨w.heap.size + 1 + 1 + 1, 0, none⟩ = false := frozen_of_heap q2 0
  clear q0 qr q1 q2 q3
  rw [← hw1]
  clear hw1
  refine (hin w1 _ (fun k hk => hb1.block k hk) (by omega) hW1).mono ?_
  rintro e w2 ⟨rfl, ⟨out, h2⟩, f2⟩
  have hb2 := f2.below (by omega)
  obtain ⟨hcc, hff⟩ := bcell hb2
  have k3 := (hcc (w.heap.size + 1 + 1) 0 (by omega)).trans k1
  have k4 := (hcc (w.heap.size + 1 + 1 + 1) 0 (by omega)).trans k2
  have z3 := (hff (w.heap.size + 1 + 1) 0 (by omega)).trans z1
  have z4 := (hff (w.heap.size + 1 + 1 + 1) 0 (by omega)).trans z2
  obtain ⟨a, c, c0, c1, cf, hrow, hlt, hne⟩ := h2.cells
  have hb3 := hb1.trans (hb2.mono (by omega))
  have hl2 : w.heap.size + 1 + 1 + 1 < w2.heap.size := by omega
  clear hcc hff hrow hne k1 k2 z1 z2 hb1 hb2
  go_wp2_with fail
  go_region
  all_goals
    go_wp2_with fail
    refine leaves_cons (f := 98) (args := #[.pointer (some ⟨w.heap.size + 1 + 1, 0, none⟩), .pointer (some ⟨w.heap.size + 1 + 1 + 1, 0, none⟩)]) (by simp) (by simp [go_sem]) ?_
    refine (idle98 _ _ _).mono ?_
    rintro e u' w3 ⟨rfl, rfl, rfl⟩
    have r1 : ((w2.setCell ⟨w.heap.size + 1 + 1, 0, none⟩ (.string ⟨#[]⟩)).setCell ⟨w.heap.size + 1 + 1 + 1, 0, none⟩ (.int .i64 22)).cell? ⟨w.heap.size + 1 + 1, 0, none⟩ = some (.string ⟨#[]⟩) := by go_simp
    have r2 : ((w2.setCell ⟨w.heap.size + 1 + 1, 0, none⟩ (.string ⟨#[]⟩)).setCell ⟨w.heap.size + 1 + 1 + 1, 0, none⟩ (.int .i64 22)).cell? ⟨w.heap.size + 1 + 1 + 1, 0, none⟩ = some (.int .i64 22) := by go_simp
    simp [Leaves, settle, results, Try.results50, go_sem, r1, r2]
    exact ((hb3.setCell (p := ⟨w.heap.size + 1 + 1, 0, none⟩) (by simp; omega) _).setCell (p := ⟨w.heap.size + 1 + 1 + 1, 0, none⟩) (by simp; omega) _).drew


end Go.Proofs.Ytjajgllkbchapaa
