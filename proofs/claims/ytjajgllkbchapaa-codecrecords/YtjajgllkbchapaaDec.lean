/-
  Decode.
-/
import Derived.Test.YtjajgllkbchapaaRdL
import Derived.Test.YtjajgllkbchapaaFour
import Derived.Defers
import Derived.Recover
namespace Go.Proofs.Ytjajgllkbchapaa
open Go.RowKit
set_option linter.unusedSimpArgs false
set_option linter.unusedVariables false

theorem five (w : World) (o0 o1 o2 o3 o4 : Obj) : (((((w.alloc o0).alloc o1).alloc o2).alloc o3).alloc o4).heap[w.heap.size]? = some o0 ∧ (((((w.alloc o0).alloc o1).alloc o2).alloc o3).alloc o4).heap[w.heap.size + 1]? = some o1 ∧
    (((((w.alloc o0).alloc o1).alloc o2).alloc o3).alloc o4).heap[w.heap.size + 1 + 1]? = some o2 ∧ (((((w.alloc o0).alloc o1).alloc o2).alloc o3).alloc o4).heap[w.heap.size + 1 + 1 + 1]? = some o3 ∧
    (((((w.alloc o0).alloc o1).alloc o2).alloc o3).alloc o4).heap[w.heap.size + 1 + 1 + 1 + 1]? = some o4 ∧
    (((((w.alloc o0).alloc o1).alloc o2).alloc o3).alloc o4).heap.size = w.heap.size + 5 ∧ Below w.heap.size w (((((w.alloc o0).alloc o1).alloc o2).alloc o3).alloc o4) := by
  obtain ⟨h0, h1, h2, h3, hs, hb⟩ := four w o0 o1 o2 o3
  refine ⟨?_, ?_, ?_, ?_, ?_, by simp, hb.alloc (by omega) _⟩
  · rw [Below.heap_alloc _ _ _ (by omega)]; exact h0
  · rw [Below.heap_alloc _ _ _ (by omega)]; exact h1
  · rw [Below.heap_alloc _ _ _ (by omega)]; exact h2
  · rw [Below.heap_alloc _ _ _ (by omega)]; exact h3
  · rw [show w.heap.size + 1 + 1 + 1 + 1 = ((((w.alloc o0).alloc o1).alloc o2).alloc o3).heap.size from by rw [hs]]
    exact heap_alloc_new _ o4

/-- Reading has failed by er, or something is left, which will be told so. -/
def Fell (w : World) (r : Nat) (er : Int) : Prop := RBad w r er ∨ (er = 21 ∧ ∃ b t, ROk w r (b :: t))

theorem Fell.grown {w w' : World} {r : Nat} {e : Int} {row : Option Nat} (h : Fell w r e) (hg : w.grownBy w' row) (hne : some r ≠ row) : Fell w' r e := by
  rcases h with h | ⟨h, b, t, h1⟩
  · exact Or.inl (h.grown hg hne)
  · exact Or.inr ⟨h, b, t, h1.grown hg hne⟩

theorem end_fell {w : World} {r : Nat} {er : Int} (h : Fell w r er) (he : er ≠ 0) :
    Calls Try.prog 63 #[.pointer (some ⟨r, 0, none⟩)] w fun e w' => e = .returned (.tuple #[]) ∧ RBad w' r er ∧ w.grownBy w' (some r) := by
  rcases h with h | ⟨rfl, b, t, h⟩
  · exact end_bad h he
  · exact end_more h (by simp)

theorem idle62 (a b c : Nat) (w : World) :
    CallsD Try.prog 62 #[.pointer (some ⟨a, 0, none⟩), .pointer (some ⟨b, 0, none⟩), .pointer (some ⟨c, 0, none⟩)] .returning w fun e u' w' => e = .returned (.tuple #[]) ∧ u' = .returning ∧ w' = w := by
  refine callsD_of_wpS Try.func62 rfl fun c₀ cs hu => ?_
  apply wpS_seq
  apply wpS_region
  simp [wpOpsS, go_sem, recoverD, hu, Try.ntmps62, Exit.thenS]
  refine wpS_cond (t := false) (by simp [Act.eval, Array.replicate]) ?_
  simp only [Bool.false_eq_true, if_false]
  refine wpS_of_wp (wp_skip ?_)
  cases c₀
  simp_all [bodyPostS, results, Try.results62]

set_option maxRecDepth 100000 in
set_option maxHeartbeats 1000000 in
theorem decInt_ok {α : Type} {rep : World → Value → α → Prop} {fput : Value} {s : ByteArray} {a : α} {w : World} (hsz : (s.size : Int) ≤ 1099511627776) (hr1 : ∀ w v a, rep w v a → v.oneCell' = true) (hs1 : Stable rep 134) (hs2 : Stable rep 28) (hs3 : Stable rep 3)
    (hin : ∀ w' r, Low w.heap.size w w' → w.heap.size ≤ r → ROk w' r s.data.toList → Calls Try.prog 55 #[.pointer (some ⟨r, 0, none⟩)] w' fun e w2 => ∃ v, e = .returned v ∧ rep w2 v a ∧ ROk w2 r [] ∧ w'.grownBy w2 (some r)) :
    Calls Try.prog 19 #[.agg #[fput, .func (.func 55) #[] #[]], .string s] w fun e w' => (∃ v, e = .returned (.tuple #[v, .int .i64 0]) ∧ rep w' v a) ∧ Below w.heap.size w w' := by
  have hmf : ∀ (fn : Fn) (first cap : Array Value) (w : World), (Instr.makeFunc fn first cap).run Try.prog w = .ok (.func fn first cap) w := fun _ _ _ _ => rfl
  go_enter_defers Try.func19, Try.ntmps19
  go_wp2_with fail
  obtain ⟨w1, hw1⟩ : ∃ w1, w1 = ((((w.alloc (Obj.cells #[fput, Value.func (Fn.func 55) #[] #[]] 34)).alloc (Obj.cells #[.int .i64 0] 3)).alloc (Obj.cells #[Value.int IntKind.i64 0] 28)).alloc (Obj.cells #[.int .i64 0] 3)).alloc (Obj.cells #[Value.string s, Value.int IntKind.i64 0, Value.int IntKind.i64 0] 134) := ⟨_, rfl⟩
  obtain ⟨q0, q1, q2, q3, q4, hn1, hb1⟩ := five w (Obj.cells #[fput, Value.func (Fn.func 55) #[] #[]] 34) (Obj.cells #[.int .i64 0] 3) (Obj.cells #[Value.int IntKind.i64 0] 28) (Obj.cells #[.int .i64 0] 3) (Obj.cells #[Value.string s, Value.int IntKind.i64 0, Value.int IntKind.i64 0] 134)
  rw [← hw1] at q0 q1 q2 q3 q4 hn1 hb1
  have hR1 : ROk w1 (w.heap.size + 1 + 1 + 1 + 1) s.data.toList := ⟨s, 0, ⟨q4, Nat.zero_le _, hsz⟩, rfl⟩
  have k1 : w1.cell? ⟨w.heap.size + 1, 0, none⟩ = some (.int .i64 0) := by rw [cell_of_heap q1]; rfl
  have k2 : w1.cell? ⟨w.heap.size + 1 + 1, 0, none⟩ = some (.int .i64 0) := by rw [cell_of_heap q2]; rfl
  have k3 : w1.cell? ⟨w.heap.size + 1 + 1 + 1, 0, none⟩ = some (.int .i64 0) := by rw [cell_of_heap q3]; rfl
  have z1 : w1.frozen? ⟨w.heap.size + 1, 0, none⟩ = false := frozen_of_heap q1 0
  have z2 : w1.frozen? ⟨w.heap.size + 1 + 1, 0, none⟩ = false := frozen_of_heap q2 0
  rw [← hw1]
  clear hw1
  refine (hin w1 _ (fun k hk => hb1.block k hk) (by omega) hR1).mono ?_
  rintro e w2 ⟨v, rfl, hv, h2, g2⟩
  have hv1 := hr1 _ _ _ hv
  have hvc := cells_one hv1
  unfold Value.cells at hvc
  obtain ⟨m1, f1⟩ := gcell g2 (b := w.heap.size + 1) (by omega) (by simp)
  obtain ⟨m2, f2⟩ := gcell g2 (b := w.heap.size + 1 + 1) (by omega) (by simp)
  have k4 := (m1 0).trans k1
  have k5 := (m2 0).trans k2
  have z3 := (f1 0).trans z1
  have z4 := (f2 0).trans z2
  have hl2 : w.heap.size + 1 + 1 + 1 + 1 < w2.heap.size := by have := g2.size; omega
  have p1 := (g2.block (w.heap.size + 1) (by omega) (by simp)).trans q1
  have p2 := (g2.block (w.heap.size + 1 + 1) (by omega) (by simp)).trans q2
  clear m1 m2 f1 f2 k1 k2 k3 z1 z2 q0 q1 q2 q3 q4
  have hst : ∀ (wx : World) (u : Value), wx.cell? ⟨w.heap.size + 1, 0, none⟩ = some u → wx.frozen? ⟨w.heap.size + 1, 0, none⟩ = false → (store ⟨w.heap.size + 1, 0, none⟩ v).run Try.prog wx = .ok () (wx.setCell ⟨w.heap.size + 1, 0, none⟩ v) := by
    intro wx u hu hz
    rw [run_store _ _ _ _ _ hv1, hu]
    simp [hz]
  have hst1 := hst w2 _ k4 z3
  have h3 := h2.grown (Lib.grownBy_setCell w2 (w.heap.size + 1) 0 v) (by simp; omega)
  have g3 := Lib.grownBy_setCell w2 (w.heap.size + 1) 0 v
  have hv3 := hs3 _ _ _ _ _ hv g3 (fun k hk _ => by simp at hk; subst hk; exact ⟨_, _, p1⟩)
  have p3 : (w2.setCell ⟨w.heap.size + 1, 0, none⟩ v).heap[w.heap.size + 1]? = some (.cells #[v] 3) := by rw [heap_setCell_at p1]; simp
  have p4 : (w2.setCell ⟨w.heap.size + 1, 0, none⟩ v).heap[w.heap.size + 1 + 1]? = some (.cells #[.int .i64 0] 28) := by rw [Below.heap_setCell _ _ _ _ (by simp)]; exact p2
  have hb3 : Below w.heap.size w (w2.setCell ⟨w.heap.size + 1, 0, none⟩ v) := (hb1.grown g2 (by omega) (fun k hk => by simp at hk; omega)).setCell (p := ⟨w.heap.size + 1, 0, none⟩) (by simp) _
  have hl3 : w.heap.size + 1 + 1 + 1 + 1 < (w2.setCell ⟨w.heap.size + 1, 0, none⟩ v).heap.size := by simpa [World.setCell] using hl2
  go_wp2_with fail
  clear hst1 k4 k5 z3 z4 p1 p2 hb1 hl2 g3 h2 g2 hv
  generalize w2.setCell ⟨w.heap.size + 1, 0, none⟩ v = wA at *
  refine (end_nil h3).mono ?_
  rintro e w4 ⟨rfl, h4, g4⟩
  obtain ⟨c2, cf, hlt4⟩ := h4.cells
  obtain ⟨s4, kk4, hr4, _⟩ := id h3
  have hv4 := hs1 _ _ _ _ _ hv3 g4 (fun k hk _ => by simp at hk; subst hk; exact ⟨_, _, hr4.1⟩)
  have p5 := (g4.block (w.heap.size + 1) (by omega) (by simp)).trans p3
  have p6 := (g4.block (w.heap.size + 1 + 1) (by omega) (by simp)).trans p4
  have k5 : w4.cell? ⟨w.heap.size + 1, 0, none⟩ = some v := by rw [cell_of_heap p5]; rfl
  have k6 : w4.cell? ⟨w.heap.size + 1 + 1, 0, none⟩ = some (.int .i64 0) := by rw [cell_of_heap p6]; rfl
  have z5 := frozen_of_heap p5 0
  have z6 := frozen_of_heap p6 0
  have hst4 := hst w4 _ k5 z5
  have g5 := Lib.grownBy_setCell w4 (w.heap.size + 1) 0 v
  have hv5 := hs3 _ _ _ _ _ hv4 g5 (fun k hk _ => by simp at hk; subst hk; exact ⟨_, _, p5⟩)
  have p7 : (w4.setCell ⟨w.heap.size + 1, 0, none⟩ v).heap[w.heap.size + 1 + 1]? = some (.cells #[.int .i64 0] 28) := by rw [Below.heap_setCell _ _ _ _ (by simp)]; exact p6
  have g6 := Lib.grownBy_setCell (w4.setCell ⟨w.heap.size + 1, 0, none⟩ v) (w.heap.size + 1 + 1) 0 (.int .i64 0)
  have hv6 := hs2 _ _ _ _ _ hv5 g6 (fun k hk _ => by simp at hk; subst hk; exact ⟨_, _, p7⟩)
  have hb6 : Below w.heap.size w ((w4.setCell ⟨w.heap.size + 1, 0, none⟩ v).setCell ⟨w.heap.size + 1 + 1, 0, none⟩ (.int .i64 0)) := ((hb3.grown g4 (by omega) (fun k hk => by simp at hk; omega)).setCell (p := ⟨w.heap.size + 1, 0, none⟩) (by simp) _).setCell (p := ⟨w.heap.size + 1 + 1, 0, none⟩) (by simp; omega) _
  have Hfin : Hid (rep ((w4.setCell ⟨w.heap.size + 1, 0, none⟩ v).setCell ⟨w.heap.size + 1 + 1, 0, none⟩ (.int .i64 0)) v a ∧ Below w.heap.size w ((w4.setCell ⟨w.heap.size + 1, 0, none⟩ v).setCell ⟨w.heap.size + 1 + 1, 0, none⟩ (.int .i64 0))) := ⟨hv6, hb6⟩
  clear hst p7 g6 hv6 hb6 g5 hv5 p5 p6 hv4 hr4 p3 p4
  go_wp2_with fail
  refine leaves_cons (f := 62) (args := #[.pointer (some ⟨w.heap.size + 1 + 1 + 1, 0, none⟩), .pointer (some ⟨w.heap.size + 1, 0, none⟩), .pointer (some ⟨w.heap.size + 1 + 1, 0, none⟩)]) (by simp) (by simp [go_sem]) ?_
  refine (idle62 _ _ _ _).mono ?_
  rintro e u' w5 ⟨rfl, rfl, rfl⟩
  have r1 : ((w4.setCell ⟨w.heap.size + 1, 0, none⟩ v).setCell ⟨w.heap.size + 1 + 1, 0, none⟩ (.int .i64 0)).cell? ⟨w.heap.size + 1, 0, none⟩ = some v := by go_simp
  have r2 : ((w4.setCell ⟨w.heap.size + 1, 0, none⟩ v).setCell ⟨w.heap.size + 1 + 1, 0, none⟩ (.int .i64 0)).cell? ⟨w.heap.size + 1 + 1, 0, none⟩ = some (.int .i64 0) := by go_simp
  simp [Leaves, settle, results, Try.results19, go_sem, r1, r2]
  exact Hfin.out

set_option maxRecDepth 100000 in
set_option maxHeartbeats 1000000 in
theorem decInt_no {fput : Value} {s : ByteArray} {er : Int} {w : World} (hsz : (s.size : Int) ≤ 1099511627776) (her : er ≠ 0)
    (hin : ∀ w' r, Low w.heap.size w w' → w.heap.size ≤ r → ROk w' r s.data.toList → Calls Try.prog 55 #[.pointer (some ⟨r, 0, none⟩)] w' fun e w2 => ∃ v, e = .returned v ∧ v.oneCell' = true ∧ Fell w2 r er ∧ w'.grownBy w2 (some r)) :
    Calls Try.prog 19 #[.agg #[fput, .func (.func 55) #[] #[]], .string s] w fun e w' => e = .returned (.tuple #[.int .i64 0, .int .i64 er]) ∧ Below w.heap.size w w' := by
  have hmf : ∀ (fn : Fn) (first cap : Array Value) (w : World), (Instr.makeFunc fn first cap).run Try.prog w = .ok (.func fn first cap) w := fun _ _ _ _ => rfl
  go_enter_defers Try.func19, Try.ntmps19
  go_wp2_with fail
  obtain ⟨w1, hw1⟩ : ∃ w1, w1 = ((((w.alloc (Obj.cells #[fput, Value.func (Fn.func 55) #[] #[]] 34)).alloc (Obj.cells #[.int .i64 0] 3)).alloc (Obj.cells #[Value.int IntKind.i64 0] 28)).alloc (Obj.cells #[.int .i64 0] 3)).alloc (Obj.cells #[Value.string s, Value.int IntKind.i64 0, Value.int IntKind.i64 0] 134) := ⟨_, rfl⟩
  obtain ⟨q0, q1, q2, q3, q4, hn1, hb1⟩ := five w (Obj.cells #[fput, Value.func (Fn.func 55) #[] #[]] 34) (Obj.cells #[.int .i64 0] 3) (Obj.cells #[Value.int IntKind.i64 0] 28) (Obj.cells #[.int .i64 0] 3) (Obj.cells #[Value.string s, Value.int IntKind.i64 0, Value.int IntKind.i64 0] 134)
  rw [← hw1] at q0 q1 q2 q3 q4 hn1 hb1
  have hR1 : ROk w1 (w.heap.size + 1 + 1 + 1 + 1) s.data.toList := ⟨s, 0, ⟨q4, Nat.zero_le _, hsz⟩, rfl⟩
  have k1 : w1.cell? ⟨w.heap.size + 1, 0, none⟩ = some (.int .i64 0) := by rw [cell_of_heap q1]; rfl
  have k2 : w1.cell? ⟨w.heap.size + 1 + 1, 0, none⟩ = some (.int .i64 0) := by rw [cell_of_heap q2]; rfl
  have k3 : w1.cell? ⟨w.heap.size + 1 + 1 + 1, 0, none⟩ = some (.int .i64 0) := by rw [cell_of_heap q3]; rfl
  have z1 : w1.frozen? ⟨w.heap.size + 1, 0, none⟩ = false := frozen_of_heap q1 0
  have z2 : w1.frozen? ⟨w.heap.size + 1 + 1, 0, none⟩ = false := frozen_of_heap q2 0
  rw [← hw1]
  clear hw1
  refine (hin w1 _ (fun k hk => hb1.block k hk) (by omega) hR1).mono ?_
  rintro e w2 ⟨v, rfl, hv1, h2, g2⟩
  have hvc := cells_one hv1
  unfold Value.cells at hvc
  obtain ⟨m1, f1⟩ := gcell g2 (b := w.heap.size + 1) (by omega) (by simp)
  have k4 := (m1 0).trans k1
  have z3 := (f1 0).trans z1
  have hl2 : w.heap.size + 1 + 1 + 1 + 1 < w2.heap.size := by have := g2.size; omega
  have p1 := (g2.block (w.heap.size + 1) (by omega) (by simp)).trans q1
  have p2 := (g2.block (w.heap.size + 1 + 1) (by omega) (by simp)).trans q2
  have p2b := (g2.block (w.heap.size + 1 + 1 + 1) (by omega) (by simp)).trans q3
  clear m1 f1 k1 k2 k3 z1 z2 q0 q1 q2 q3 q4
  have hst1 : (store ⟨w.heap.size + 1, 0, none⟩ v).run Try.prog w2 = .ok () (w2.setCell ⟨w.heap.size + 1, 0, none⟩ v) := by
    rw [run_store _ _ _ _ _ hv1, k4]
    simp [z3]
  have h3 := h2.grown (Lib.grownBy_setCell w2 (w.heap.size + 1) 0 v) (by simp; omega)
  have p3 : (w2.setCell ⟨w.heap.size + 1, 0, none⟩ v).heap[w.heap.size + 1]? = some (.cells #[v] 3) := by rw [heap_setCell_at p1]; simp
  have p4 : (w2.setCell ⟨w.heap.size + 1, 0, none⟩ v).heap[w.heap.size + 1 + 1]? = some (.cells #[.int .i64 0] 28) := by rw [Below.heap_setCell _ _ _ _ (by simp)]; exact p2
  have p4b : (w2.setCell ⟨w.heap.size + 1, 0, none⟩ v).heap[w.heap.size + 1 + 1 + 1]? = some (.cells #[.int .i64 0] 3) := by rw [Below.heap_setCell _ _ _ _ (by simp; omega)]; exact p2b
  have hb3 : Below w.heap.size w (w2.setCell ⟨w.heap.size + 1, 0, none⟩ v) := (hb1.grown g2 (by omega) (fun k hk => by simp at hk; omega)).setCell (p := ⟨w.heap.size + 1, 0, none⟩) (by simp) _
  have hl3 : w.heap.size + 1 + 1 + 1 + 1 < (w2.setCell ⟨w.heap.size + 1, 0, none⟩ v).heap.size := by simpa [World.setCell] using hl2
  go_wp2_with fail
  clear hst1 k4 z3 p1 p2 p2b hb1 hl2 h2 g2 hvc
  generalize w2.setCell ⟨w.heap.size + 1, 0, none⟩ v = wA at *
  refine (end_fell h3 her).mono ?_
  rintro e w4 ⟨rfl, h4, g4⟩
  obtain ⟨c2, cf, hlt4⟩ := h4.cells
  have p5 := (g4.block (w.heap.size + 1) (by omega) (by simp)).trans p3
  have p6 := (g4.block (w.heap.size + 1 + 1) (by omega) (by simp)).trans p4
  have p6b := (g4.block (w.heap.size + 1 + 1 + 1) (by omega) (by simp)).trans p4b
  have k5 : w4.cell? ⟨w.heap.size + 1, 0, none⟩ = some v := by rw [cell_of_heap p5]; rfl
  have k6 : w4.cell? ⟨w.heap.size + 1 + 1, 0, none⟩ = some (.int .i64 0) := by rw [cell_of_heap p6]; rfl
  have k7 : w4.cell? ⟨w.heap.size + 1 + 1 + 1, 0, none⟩ = some (.int .i64 0) := by rw [cell_of_heap p6b]; rfl
  have z5 := frozen_of_heap p5 0
  have z6 := frozen_of_heap p6 0
  have hb6 := hb3.grown g4 (by omega) (fun k hk => by simp at hk; omega)
  have hne : (er != 0) = true := by simpa using her
  clear p5 p6 p6b p3 p4 p4b
  go_wp2_with fail
  go_region
  all_goals
    go_wp2_with fail
    refine leaves_cons (f := 62) (args := #[.pointer (some ⟨w.heap.size + 1 + 1 + 1, 0, none⟩), .pointer (some ⟨w.heap.size + 1, 0, none⟩), .pointer (some ⟨w.heap.size + 1 + 1, 0, none⟩)]) (by simp) (by simp [go_sem]) ?_
    refine (idle62 _ _ _ _).mono ?_
    rintro e u' w5 ⟨rfl, rfl, rfl⟩
    have r1 : ((w4.setCell ⟨w.heap.size + 1, 0, none⟩ (.int .i64 0)).setCell ⟨w.heap.size + 1 + 1, 0, none⟩ (.int .i64 er)).cell? ⟨w.heap.size + 1, 0, none⟩ = some (.int .i64 0) := by go_simp
    have r2 : ((w4.setCell ⟨w.heap.size + 1, 0, none⟩ (.int .i64 0)).setCell ⟨w.heap.size + 1 + 1, 0, none⟩ (.int .i64 er)).cell? ⟨w.heap.size + 1 + 1, 0, none⟩ = some (.int .i64 er) := by go_simp
    simp [Leaves, settle, results, Try.results19, go_sem, r1, r2]
    exact ((hb6.setCell (p := ⟨w.heap.size + 1, 0, none⟩) (by simp) _).setCell (p := ⟨w.heap.size + 1 + 1, 0, none⟩) (by simp; omega) _).drew

theorem idle64 (a b c : Nat) (w : World) :
    CallsD Try.prog 64 #[.pointer (some ⟨a, 0, none⟩), .pointer (some ⟨b, 0, none⟩), .pointer (some ⟨c, 0, none⟩)] .returning w fun e u' w' => e = .returned (.tuple #[]) ∧ u' = .returning ∧ w' = w := by
  refine callsD_of_wpS Try.func64 rfl fun c₀ cs hu => ?_
  apply wpS_seq
  apply wpS_region
  simp [wpOpsS, go_sem, recoverD, hu, Try.ntmps64, Exit.thenS]
  refine wpS_cond (t := false) (by simp [Act.eval, Array.replicate]) ?_
  simp only [Bool.false_eq_true, if_false]
  refine wpS_of_wp (wp_skip ?_)
  cases c₀
  simp_all [bodyPostS, results, Try.results64]

set_option maxRecDepth 100000 in
set_option maxHeartbeats 1000000 in
theorem decBool_ok {α : Type} {rep : World → Value → α → Prop} {fput : Value} {s : ByteArray} {a : α} {w : World} (hsz : (s.size : Int) ≤ 1099511627776) (hr1 : ∀ w v a, rep w v a → v.oneCell' = true) (hs1 : Stable rep 134) (hs2 : Stable rep 28) (hs3 : Stable rep 4)
    (hin : ∀ w' r, Low w.heap.size w w' → w.heap.size ≤ r → ROk w' r s.data.toList → Calls Try.prog 66 #[.pointer (some ⟨r, 0, none⟩)] w' fun e w2 => ∃ v, e = .returned v ∧ rep w2 v a ∧ ROk w2 r [] ∧ w'.grownBy w2 (some r)) :
    Calls Try.prog 21 #[.agg #[fput, .func (.func 66) #[] #[]], .string s] w fun e w' => (∃ v, e = .returned (.tuple #[v, .int .i64 0]) ∧ rep w' v a) ∧ Below w.heap.size w w' := by
  have hmf : ∀ (fn : Fn) (first cap : Array Value) (w : World), (Instr.makeFunc fn first cap).run Try.prog w = .ok (.func fn first cap) w := fun _ _ _ _ => rfl
  go_enter_defers Try.func21, Try.ntmps21
  go_wp2_with fail
  obtain ⟨w1, hw1⟩ : ∃ w1, w1 = ((((w.alloc (Obj.cells #[fput, Value.func (Fn.func 66) #[] #[]] 52)).alloc (Obj.cells #[.bool false] 4)).alloc (Obj.cells #[Value.int IntKind.i64 0] 28)).alloc (Obj.cells #[.bool false] 4)).alloc (Obj.cells #[Value.string s, Value.int IntKind.i64 0, Value.int IntKind.i64 0] 134) := ⟨_, rfl⟩
  obtain ⟨q0, q1, q2, q3, q4, hn1, hb1⟩ := five w (Obj.cells #[fput, Value.func (Fn.func 66) #[] #[]] 52) (Obj.cells #[.bool false] 4) (Obj.cells #[Value.int IntKind.i64 0] 28) (Obj.cells #[.bool false] 4) (Obj.cells #[Value.string s, Value.int IntKind.i64 0, Value.int IntKind.i64 0] 134)
  rw [← hw1] at q0 q1 q2 q3 q4 hn1 hb1
  have hR1 : ROk w1 (w.heap.size + 1 + 1 + 1 + 1) s.data.toList := ⟨s, 0, ⟨q4, Nat.zero_le _, hsz⟩, rfl⟩
  have k1 : w1.cell? ⟨w.heap.size + 1, 0, none⟩ = some (.bool false) := by rw [cell_of_heap q1]; rfl
  have k2 : w1.cell? ⟨w.heap.size + 1 + 1, 0, none⟩ = some (.int .i64 0) := by rw [cell_of_heap q2]; rfl
  have k3 : w1.cell? ⟨w.heap.size + 1 + 1 + 1, 0, none⟩ = some (.bool false) := by rw [cell_of_heap q3]; rfl
  have z1 : w1.frozen? ⟨w.heap.size + 1, 0, none⟩ = false := frozen_of_heap q1 0
  have z2 : w1.frozen? ⟨w.heap.size + 1 + 1, 0, none⟩ = false := frozen_of_heap q2 0
  rw [← hw1]
  clear hw1
  refine (hin w1 _ (fun k hk => hb1.block k hk) (by omega) hR1).mono ?_
  rintro e w2 ⟨v, rfl, hv, h2, g2⟩
  have hv1 := hr1 _ _ _ hv
  have hvc := cells_one hv1
  unfold Value.cells at hvc
  obtain ⟨m1, f1⟩ := gcell g2 (b := w.heap.size + 1) (by omega) (by simp)
  obtain ⟨m2, f2⟩ := gcell g2 (b := w.heap.size + 1 + 1) (by omega) (by simp)
  have k4 := (m1 0).trans k1
  have k5 := (m2 0).trans k2
  have z3 := (f1 0).trans z1
  have z4 := (f2 0).trans z2
  have hl2 : w.heap.size + 1 + 1 + 1 + 1 < w2.heap.size := by have := g2.size; omega
  have p1 := (g2.block (w.heap.size + 1) (by omega) (by simp)).trans q1
  have p2 := (g2.block (w.heap.size + 1 + 1) (by omega) (by simp)).trans q2
  clear m1 m2 f1 f2 k1 k2 k3 z1 z2 q0 q1 q2 q3 q4
  have hst : ∀ (wx : World) (u : Value), wx.cell? ⟨w.heap.size + 1, 0, none⟩ = some u → wx.frozen? ⟨w.heap.size + 1, 0, none⟩ = false → (store ⟨w.heap.size + 1, 0, none⟩ v).run Try.prog wx = .ok () (wx.setCell ⟨w.heap.size + 1, 0, none⟩ v) := by
    intro wx u hu hz
    rw [run_store _ _ _ _ _ hv1, hu]
    simp [hz]
  have hst1 := hst w2 _ k4 z3
  have h3 := h2.grown (Lib.grownBy_setCell w2 (w.heap.size + 1) 0 v) (by simp; omega)
  have g3 := Lib.grownBy_setCell w2 (w.heap.size + 1) 0 v
  have hv3 := hs3 _ _ _ _ _ hv g3 (fun k hk _ => by simp at hk; subst hk; exact ⟨_, _, p1⟩)
  have p3 : (w2.setCell ⟨w.heap.size + 1, 0, none⟩ v).heap[w.heap.size + 1]? = some (.cells #[v] 4) := by rw [heap_setCell_at p1]; simp
  have p4 : (w2.setCell ⟨w.heap.size + 1, 0, none⟩ v).heap[w.heap.size + 1 + 1]? = some (.cells #[.int .i64 0] 28) := by rw [Below.heap_setCell _ _ _ _ (by simp)]; exact p2
  have hb3 : Below w.heap.size w (w2.setCell ⟨w.heap.size + 1, 0, none⟩ v) := (hb1.grown g2 (by omega) (fun k hk => by simp at hk; omega)).setCell (p := ⟨w.heap.size + 1, 0, none⟩) (by simp) _
  have hl3 : w.heap.size + 1 + 1 + 1 + 1 < (w2.setCell ⟨w.heap.size + 1, 0, none⟩ v).heap.size := by simpa [World.setCell] using hl2
  go_wp2_with fail
  clear hst1 k4 k5 z3 z4 p1 p2 hb1 hl2 g3 h2 g2 hv
  generalize w2.setCell ⟨w.heap.size + 1, 0, none⟩ v = wA at *
  refine (end_nil h3).mono ?_
  rintro e w4 ⟨rfl, h4, g4⟩
  obtain ⟨c2, cf, hlt4⟩ := h4.cells
  obtain ⟨s4, kk4, hr4, _⟩ := id h3
  have hv4 := hs1 _ _ _ _ _ hv3 g4 (fun k hk _ => by simp at hk; subst hk; exact ⟨_, _, hr4.1⟩)
  have p5 := (g4.block (w.heap.size + 1) (by omega) (by simp)).trans p3
  have p6 := (g4.block (w.heap.size + 1 + 1) (by omega) (by simp)).trans p4
  have k5 : w4.cell? ⟨w.heap.size + 1, 0, none⟩ = some v := by rw [cell_of_heap p5]; rfl
  have k6 : w4.cell? ⟨w.heap.size + 1 + 1, 0, none⟩ = some (.int .i64 0) := by rw [cell_of_heap p6]; rfl
  have z5 := frozen_of_heap p5 0
  have z6 := frozen_of_heap p6 0
  have hst4 := hst w4 _ k5 z5
  have g5 := Lib.grownBy_setCell w4 (w.heap.size + 1) 0 v
  have hv5 := hs3 _ _ _ _ _ hv4 g5 (fun k hk _ => by simp at hk; subst hk; exact ⟨_, _, p5⟩)
  have p7 : (w4.setCell ⟨w.heap.size + 1, 0, none⟩ v).heap[w.heap.size + 1 + 1]? = some (.cells #[.int .i64 0] 28) := by rw [Below.heap_setCell _ _ _ _ (by simp)]; exact p6
  have g6 := Lib.grownBy_setCell (w4.setCell ⟨w.heap.size + 1, 0, none⟩ v) (w.heap.size + 1 + 1) 0 (.int .i64 0)
  have hv6 := hs2 _ _ _ _ _ hv5 g6 (fun k hk _ => by simp at hk; subst hk; exact ⟨_, _, p7⟩)
  have hb6 : Below w.heap.size w ((w4.setCell ⟨w.heap.size + 1, 0, none⟩ v).setCell ⟨w.heap.size + 1 + 1, 0, none⟩ (.int .i64 0)) := ((hb3.grown g4 (by omega) (fun k hk => by simp at hk; omega)).setCell (p := ⟨w.heap.size + 1, 0, none⟩) (by simp) _).setCell (p := ⟨w.heap.size + 1 + 1, 0, none⟩) (by simp; omega) _
  have Hfin : Hid (rep ((w4.setCell ⟨w.heap.size + 1, 0, none⟩ v).setCell ⟨w.heap.size + 1 + 1, 0, none⟩ (.int .i64 0)) v a ∧ Below w.heap.size w ((w4.setCell ⟨w.heap.size + 1, 0, none⟩ v).setCell ⟨w.heap.size + 1 + 1, 0, none⟩ (.int .i64 0))) := ⟨hv6, hb6⟩
  clear hst p7 g6 hv6 hb6 g5 hv5 p5 p6 hv4 hr4 p3 p4
  go_wp2_with fail
  refine leaves_cons (f := 64) (args := #[.pointer (some ⟨w.heap.size + 1 + 1 + 1, 0, none⟩), .pointer (some ⟨w.heap.size + 1, 0, none⟩), .pointer (some ⟨w.heap.size + 1 + 1, 0, none⟩)]) (by simp) (by simp [go_sem]) ?_
  refine (idle64 _ _ _ _).mono ?_
  rintro e u' w5 ⟨rfl, rfl, rfl⟩
  have r1 : ((w4.setCell ⟨w.heap.size + 1, 0, none⟩ v).setCell ⟨w.heap.size + 1 + 1, 0, none⟩ (.int .i64 0)).cell? ⟨w.heap.size + 1, 0, none⟩ = some v := by go_simp
  have r2 : ((w4.setCell ⟨w.heap.size + 1, 0, none⟩ v).setCell ⟨w.heap.size + 1 + 1, 0, none⟩ (.int .i64 0)).cell? ⟨w.heap.size + 1 + 1, 0, none⟩ = some (.int .i64 0) := by go_simp
  simp [Leaves, settle, results, Try.results21, go_sem, r1, r2]
  exact Hfin.out

set_option maxRecDepth 100000 in
set_option maxHeartbeats 1000000 in
theorem decBool_no {fput : Value} {s : ByteArray} {er : Int} {w : World} (hsz : (s.size : Int) ≤ 1099511627776) (her : er ≠ 0)
    (hin : ∀ w' r, Low w.heap.size w w' → w.heap.size ≤ r → ROk w' r s.data.toList → Calls Try.prog 66 #[.pointer (some ⟨r, 0, none⟩)] w' fun e w2 => ∃ v, e = .returned v ∧ v.oneCell' = true ∧ Fell w2 r er ∧ w'.grownBy w2 (some r)) :
    Calls Try.prog 21 #[.agg #[fput, .func (.func 66) #[] #[]], .string s] w fun e w' => e = .returned (.tuple #[.bool false, .int .i64 er]) ∧ Below w.heap.size w w' := by
  have hmf : ∀ (fn : Fn) (first cap : Array Value) (w : World), (Instr.makeFunc fn first cap).run Try.prog w = .ok (.func fn first cap) w := fun _ _ _ _ => rfl
  go_enter_defers Try.func21, Try.ntmps21
  go_wp2_with fail
  obtain ⟨w1, hw1⟩ : ∃ w1, w1 = ((((w.alloc (Obj.cells #[fput, Value.func (Fn.func 66) #[] #[]] 52)).alloc (Obj.cells #[.bool false] 4)).alloc (Obj.cells #[Value.int IntKind.i64 0] 28)).alloc (Obj.cells #[.bool false] 4)).alloc (Obj.cells #[Value.string s, Value.int IntKind.i64 0, Value.int IntKind.i64 0] 134) := ⟨_, rfl⟩
  obtain ⟨q0, q1, q2, q3, q4, hn1, hb1⟩ := five w (Obj.cells #[fput, Value.func (Fn.func 66) #[] #[]] 52) (Obj.cells #[.bool false] 4) (Obj.cells #[Value.int IntKind.i64 0] 28) (Obj.cells #[.bool false] 4) (Obj.cells #[Value.string s, Value.int IntKind.i64 0, Value.int IntKind.i64 0] 134)
  rw [← hw1] at q0 q1 q2 q3 q4 hn1 hb1
  have hR1 : ROk w1 (w.heap.size + 1 + 1 + 1 + 1) s.data.toList := ⟨s, 0, ⟨q4, Nat.zero_le _, hsz⟩, rfl⟩
  have k1 : w1.cell? ⟨w.heap.size + 1, 0, none⟩ = some (.bool false) := by rw [cell_of_heap q1]; rfl
  have k2 : w1.cell? ⟨w.heap.size + 1 + 1, 0, none⟩ = some (.int .i64 0) := by rw [cell_of_heap q2]; rfl
  have k3 : w1.cell? ⟨w.heap.size + 1 + 1 + 1, 0, none⟩ = some (.bool false) := by rw [cell_of_heap q3]; rfl
  have z1 : w1.frozen? ⟨w.heap.size + 1, 0, none⟩ = false := frozen_of_heap q1 0
  have z2 : w1.frozen? ⟨w.heap.size + 1 + 1, 0, none⟩ = false := frozen_of_heap q2 0
  rw [← hw1]
  clear hw1
  refine (hin w1 _ (fun k hk => hb1.block k hk) (by omega) hR1).mono ?_
  rintro e w2 ⟨v, rfl, hv1, h2, g2⟩
  have hvc := cells_one hv1
  unfold Value.cells at hvc
  obtain ⟨m1, f1⟩ := gcell g2 (b := w.heap.size + 1) (by omega) (by simp)
  have k4 := (m1 0).trans k1
  have z3 := (f1 0).trans z1
  have hl2 : w.heap.size + 1 + 1 + 1 + 1 < w2.heap.size := by have := g2.size; omega
  have p1 := (g2.block (w.heap.size + 1) (by omega) (by simp)).trans q1
  have p2 := (g2.block (w.heap.size + 1 + 1) (by omega) (by simp)).trans q2
  have p2b := (g2.block (w.heap.size + 1 + 1 + 1) (by omega) (by simp)).trans q3
  clear m1 f1 k1 k2 k3 z1 z2 q0 q1 q2 q3 q4
  have hst1 : (store ⟨w.heap.size + 1, 0, none⟩ v).run Try.prog w2 = .ok () (w2.setCell ⟨w.heap.size + 1, 0, none⟩ v) := by
    rw [run_store _ _ _ _ _ hv1, k4]
    simp [z3]
  have h3 := h2.grown (Lib.grownBy_setCell w2 (w.heap.size + 1) 0 v) (by simp; omega)
  have p3 : (w2.setCell ⟨w.heap.size + 1, 0, none⟩ v).heap[w.heap.size + 1]? = some (.cells #[v] 4) := by rw [heap_setCell_at p1]; simp
  have p4 : (w2.setCell ⟨w.heap.size + 1, 0, none⟩ v).heap[w.heap.size + 1 + 1]? = some (.cells #[.int .i64 0] 28) := by rw [Below.heap_setCell _ _ _ _ (by simp)]; exact p2
  have p4b : (w2.setCell ⟨w.heap.size + 1, 0, none⟩ v).heap[w.heap.size + 1 + 1 + 1]? = some (.cells #[.bool false] 4) := by rw [Below.heap_setCell _ _ _ _ (by simp; omega)]; exact p2b
  have hb3 : Below w.heap.size w (w2.setCell ⟨w.heap.size + 1, 0, none⟩ v) := (hb1.grown g2 (by omega) (fun k hk => by simp at hk; omega)).setCell (p := ⟨w.heap.size + 1, 0, none⟩) (by simp) _
  have hl3 : w.heap.size + 1 + 1 + 1 + 1 < (w2.setCell ⟨w.heap.size + 1, 0, none⟩ v).heap.size := by simpa [World.setCell] using hl2
  go_wp2_with fail
  clear hst1 k4 z3 p1 p2 p2b hb1 hl2 h2 g2 hvc
  generalize w2.setCell ⟨w.heap.size + 1, 0, none⟩ v = wA at *
  refine (end_fell h3 her).mono ?_
  rintro e w4 ⟨rfl, h4, g4⟩
  obtain ⟨c2, cf, hlt4⟩ := h4.cells
  have p5 := (g4.block (w.heap.size + 1) (by omega) (by simp)).trans p3
  have p6 := (g4.block (w.heap.size + 1 + 1) (by omega) (by simp)).trans p4
  have p6b := (g4.block (w.heap.size + 1 + 1 + 1) (by omega) (by simp)).trans p4b
  have k5 : w4.cell? ⟨w.heap.size + 1, 0, none⟩ = some v := by rw [cell_of_heap p5]; rfl
  have k6 : w4.cell? ⟨w.heap.size + 1 + 1, 0, none⟩ = some (.int .i64 0) := by rw [cell_of_heap p6]; rfl
  have k7 : w4.cell? ⟨w.heap.size + 1 + 1 + 1, 0, none⟩ = some (.bool false) := by rw [cell_of_heap p6b]; rfl
  have z5 := frozen_of_heap p5 0
  have z6 := frozen_of_heap p6 0
  have hb6 := hb3.grown g4 (by omega) (fun k hk => by simp at hk; omega)
  have hne : (er != 0) = true := by simpa using her
  clear p5 p6 p6b p3 p4 p4b
  go_wp2_with fail
  go_region
  all_goals
    go_wp2_with fail
    refine leaves_cons (f := 64) (args := #[.pointer (some ⟨w.heap.size + 1 + 1 + 1, 0, none⟩), .pointer (some ⟨w.heap.size + 1, 0, none⟩), .pointer (some ⟨w.heap.size + 1 + 1, 0, none⟩)]) (by simp) (by simp [go_sem]) ?_
    refine (idle64 _ _ _ _).mono ?_
    rintro e u' w5 ⟨rfl, rfl, rfl⟩
    have r1 : ((w4.setCell ⟨w.heap.size + 1, 0, none⟩ (.bool false)).setCell ⟨w.heap.size + 1 + 1, 0, none⟩ (.int .i64 er)).cell? ⟨w.heap.size + 1, 0, none⟩ = some (.bool false) := by go_simp
    have r2 : ((w4.setCell ⟨w.heap.size + 1, 0, none⟩ (.bool false)).setCell ⟨w.heap.size + 1 + 1, 0, none⟩ (.int .i64 er)).cell? ⟨w.heap.size + 1 + 1, 0, none⟩ = some (.int .i64 er) := by go_simp
    simp [Leaves, settle, results, Try.results21, go_sem, r1, r2]
    exact ((hb6.setCell (p := ⟨w.heap.size + 1, 0, none⟩) (by simp) _).setCell (p := ⟨w.heap.size + 1 + 1, 0, none⟩) (by simp; omega) _).drew

theorem idle67 (a b c : Nat) (w : World) :
    CallsD Try.prog 67 #[.pointer (some ⟨a, 0, none⟩), .pointer (some ⟨b, 0, none⟩), .pointer (some ⟨c, 0, none⟩)] .returning w fun e u' w' => e = .returned (.tuple #[]) ∧ u' = .returning ∧ w' = w := by
  refine callsD_of_wpS Try.func67 rfl fun c₀ cs hu => ?_
  apply wpS_seq
  apply wpS_region
  simp [wpOpsS, go_sem, recoverD, hu, Try.ntmps67, Exit.thenS]
  refine wpS_cond (t := false) (by simp [Act.eval, Array.replicate]) ?_
  simp only [Bool.false_eq_true, if_false]
  refine wpS_of_wp (wp_skip ?_)
  cases c₀
  simp_all [bodyPostS, results, Try.results67]

set_option maxRecDepth 100000 in
set_option maxHeartbeats 1000000 in
theorem decStr_ok {α : Type} {tb : Nat} {rep : World → Value → α → Prop} {fput : Value} {s : ByteArray} {a : α} {w : World} (hsz : (s.size : Int) ≤ 1099511627776) (hr1 : ∀ w v a, rep w v a → v.oneCell' = true) (hs1 : Stable rep 134) (hs2 : Stable rep 28) (hs3 : Stable rep 9)
    (hin : ∀ w' r, Low w.heap.size w w' → w.heap.size ≤ r → ROk w' r s.data.toList → Calls Try.prog 70 #[.pointer (some ⟨r, 0, none⟩), .pointer (some ⟨tb, 0, none⟩)] w' fun e w2 => ∃ v, e = .returned v ∧ rep w2 v a ∧ ROk w2 r [] ∧ w'.grownBy w2 (some r)) :
    Calls Try.prog 23 #[.agg #[fput, .func (.func 70) #[] #[.pointer (some ⟨tb, 0, none⟩)]], .string s] w fun e w' => (∃ v, e = .returned (.tuple #[v, .int .i64 0]) ∧ rep w' v a) ∧ Below w.heap.size w w' := by
  have hmf : ∀ (fn : Fn) (first cap : Array Value) (w : World), (Instr.makeFunc fn first cap).run Try.prog w = .ok (.func fn first cap) w := fun _ _ _ _ => rfl
  go_enter_defers Try.func23, Try.ntmps23
  go_wp2_with fail
  obtain ⟨w1, hw1⟩ : ∃ w1, w1 = ((((w.alloc (Obj.cells #[fput, Value.func (Fn.func 70) #[] #[.pointer (some ⟨tb, 0, none⟩)]] 58)).alloc (Obj.cells #[.string ⟨#[]⟩] 9)).alloc (Obj.cells #[Value.int IntKind.i64 0] 28)).alloc (Obj.cells #[.string ⟨#[]⟩] 9)).alloc (Obj.cells #[Value.string s, Value.int IntKind.i64 0, Value.int IntKind.i64 0] 134) := ⟨_, rfl⟩
  obtain ⟨q0, q1, q2, q3, q4, hn1, hb1⟩ := five w (Obj.cells #[fput, Value.func (Fn.func 70) #[] #[.pointer (some ⟨tb, 0, none⟩)]] 58) (Obj.cells #[.string ⟨#[]⟩] 9) (Obj.cells #[Value.int IntKind.i64 0] 28) (Obj.cells #[.string ⟨#[]⟩] 9) (Obj.cells #[Value.string s, Value.int IntKind.i64 0, Value.int IntKind.i64 0] 134)
  rw [← hw1] at q0 q1 q2 q3 q4 hn1 hb1
  have hR1 : ROk w1 (w.heap.size + 1 + 1 + 1 + 1) s.data.toList := ⟨s, 0, ⟨q4, Nat.zero_le _, hsz⟩, rfl⟩
  have k1 : w1.cell? ⟨w.heap.size + 1, 0, none⟩ = some (.string ⟨#[]⟩) := by rw [cell_of_heap q1]; rfl
  have k2 : w1.cell? ⟨w.heap.size + 1 + 1, 0, none⟩ = some (.int .i64 0) := by rw [cell_of_heap q2]; rfl
  have k3 : w1.cell? ⟨w.heap.size + 1 + 1 + 1, 0, none⟩ = some (.string ⟨#[]⟩) := by rw [cell_of_heap q3]; rfl
  have z1 : w1.frozen? ⟨w.heap.size + 1, 0, none⟩ = false := frozen_of_heap q1 0
  have z2 : w1.frozen? ⟨w.heap.size + 1 + 1, 0, none⟩ = false := frozen_of_heap q2 0
  rw [← hw1]
  clear hw1
  refine (hin w1 _ (fun k hk => hb1.block k hk) (by omega) hR1).mono ?_
  rintro e w2 ⟨v, rfl, hv, h2, g2⟩
  have hv1 := hr1 _ _ _ hv
  have hvc := cells_one hv1
  unfold Value.cells at hvc
  obtain ⟨m1, f1⟩ := gcell g2 (b := w.heap.size + 1) (by omega) (by simp)
  obtain ⟨m2, f2⟩ := gcell g2 (b := w.heap.size + 1 + 1) (by omega) (by simp)
  have k4 := (m1 0).trans k1
  have k5 := (m2 0).trans k2
  have z3 := (f1 0).trans z1
  have z4 := (f2 0).trans z2
  have hl2 : w.heap.size + 1 + 1 + 1 + 1 < w2.heap.size := by have := g2.size; omega
  have p1 := (g2.block (w.heap.size + 1) (by omega) (by simp)).trans q1
  have p2 := (g2.block (w.heap.size + 1 + 1) (by omega) (by simp)).trans q2
  clear m1 m2 f1 f2 k1 k2 k3 z1 z2 q0 q1 q2 q3 q4
  have hst : ∀ (wx : World) (u : Value), wx.cell? ⟨w.heap.size + 1, 0, none⟩ = some u → wx.frozen? ⟨w.heap.size + 1, 0, none⟩ = false → (store ⟨w.heap.size + 1, 0, none⟩ v).run Try.prog wx = .ok () (wx.setCell ⟨w.heap.size + 1, 0, none⟩ v) := by
    intro wx u hu hz
    rw [run_store _ _ _ _ _ hv1, hu]
    simp [hz]
  have hst1 := hst w2 _ k4 z3
  have h3 := h2.grown (Lib.grownBy_setCell w2 (w.heap.size + 1) 0 v) (by simp; omega)
  have g3 := Lib.grownBy_setCell w2 (w.heap.size + 1) 0 v
  have hv3 := hs3 _ _ _ _ _ hv g3 (fun k hk _ => by simp at hk; subst hk; exact ⟨_, _, p1⟩)
  have p3 : (w2.setCell ⟨w.heap.size + 1, 0, none⟩ v).heap[w.heap.size + 1]? = some (.cells #[v] 9) := by rw [heap_setCell_at p1]; simp
  have p4 : (w2.setCell ⟨w.heap.size + 1, 0, none⟩ v).heap[w.heap.size + 1 + 1]? = some (.cells #[.int .i64 0] 28) := by rw [Below.heap_setCell _ _ _ _ (by simp)]; exact p2
  have hb3 : Below w.heap.size w (w2.setCell ⟨w.heap.size + 1, 0, none⟩ v) := (hb1.grown g2 (by omega) (fun k hk => by simp at hk; omega)).setCell (p := ⟨w.heap.size + 1, 0, none⟩) (by simp) _
  have hl3 : w.heap.size + 1 + 1 + 1 + 1 < (w2.setCell ⟨w.heap.size + 1, 0, none⟩ v).heap.size := by simpa [World.setCell] using hl2
  go_wp2_with fail
  clear hst1 k4 k5 z3 z4 p1 p2 hb1 hl2 g3 h2 g2 hv
  generalize w2.setCell ⟨w.heap.size + 1, 0, none⟩ v = wA at *
  refine (end_nil h3).mono ?_
  rintro e w4 ⟨rfl, h4, g4⟩
  obtain ⟨c2, cf, hlt4⟩ := h4.cells
  obtain ⟨s4, kk4, hr4, _⟩ := id h3
  have hv4 := hs1 _ _ _ _ _ hv3 g4 (fun k hk _ => by simp at hk; subst hk; exact ⟨_, _, hr4.1⟩)
  have p5 := (g4.block (w.heap.size + 1) (by omega) (by simp)).trans p3
  have p6 := (g4.block (w.heap.size + 1 + 1) (by omega) (by simp)).trans p4
  have k5 : w4.cell? ⟨w.heap.size + 1, 0, none⟩ = some v := by rw [cell_of_heap p5]; rfl
  have k6 : w4.cell? ⟨w.heap.size + 1 + 1, 0, none⟩ = some (.int .i64 0) := by rw [cell_of_heap p6]; rfl
  have z5 := frozen_of_heap p5 0
  have z6 := frozen_of_heap p6 0
  have hst4 := hst w4 _ k5 z5
  have g5 := Lib.grownBy_setCell w4 (w.heap.size + 1) 0 v
  have hv5 := hs3 _ _ _ _ _ hv4 g5 (fun k hk _ => by simp at hk; subst hk; exact ⟨_, _, p5⟩)
  have p7 : (w4.setCell ⟨w.heap.size + 1, 0, none⟩ v).heap[w.heap.size + 1 + 1]? = some (.cells #[.int .i64 0] 28) := by rw [Below.heap_setCell _ _ _ _ (by simp)]; exact p6
  have g6 := Lib.grownBy_setCell (w4.setCell ⟨w.heap.size + 1, 0, none⟩ v) (w.heap.size + 1 + 1) 0 (.int .i64 0)
  have hv6 := hs2 _ _ _ _ _ hv5 g6 (fun k hk _ => by simp at hk; subst hk; exact ⟨_, _, p7⟩)
  have hb6 : Below w.heap.size w ((w4.setCell ⟨w.heap.size + 1, 0, none⟩ v).setCell ⟨w.heap.size + 1 + 1, 0, none⟩ (.int .i64 0)) := ((hb3.grown g4 (by omega) (fun k hk => by simp at hk; omega)).setCell (p := ⟨w.heap.size + 1, 0, none⟩) (by simp) _).setCell (p := ⟨w.heap.size + 1 + 1, 0, none⟩) (by simp; omega) _
  have Hfin : Hid (rep ((w4.setCell ⟨w.heap.size + 1, 0, none⟩ v).setCell ⟨w.heap.size + 1 + 1, 0, none⟩ (.int .i64 0)) v a ∧ Below w.heap.size w ((w4.setCell ⟨w.heap.size + 1, 0, none⟩ v).setCell ⟨w.heap.size + 1 + 1, 0, none⟩ (.int .i64 0))) := ⟨hv6, hb6⟩
  clear hst p7 g6 hv6 hb6 g5 hv5 p5 p6 hv4 hr4 p3 p4
  go_wp2_with fail
  refine leaves_cons (f := 67) (args := #[.pointer (some ⟨w.heap.size + 1 + 1 + 1, 0, none⟩), .pointer (some ⟨w.heap.size + 1, 0, none⟩), .pointer (some ⟨w.heap.size + 1 + 1, 0, none⟩)]) (by simp) (by simp [go_sem]) ?_
  refine (idle67 _ _ _ _).mono ?_
  rintro e u' w5 ⟨rfl, rfl, rfl⟩
  have r1 : ((w4.setCell ⟨w.heap.size + 1, 0, none⟩ v).setCell ⟨w.heap.size + 1 + 1, 0, none⟩ (.int .i64 0)).cell? ⟨w.heap.size + 1, 0, none⟩ = some v := by go_simp
  have r2 : ((w4.setCell ⟨w.heap.size + 1, 0, none⟩ v).setCell ⟨w.heap.size + 1 + 1, 0, none⟩ (.int .i64 0)).cell? ⟨w.heap.size + 1 + 1, 0, none⟩ = some (.int .i64 0) := by go_simp
  simp [Leaves, settle, results, Try.results23, go_sem, r1, r2]
  exact Hfin.out

set_option maxRecDepth 100000 in
set_option maxHeartbeats 1000000 in
theorem decStr_no {tb : Nat} {fput : Value} {s : ByteArray} {er : Int} {w : World} (hsz : (s.size : Int) ≤ 1099511627776) (her : er ≠ 0)
    (hin : ∀ w' r, Low w.heap.size w w' → w.heap.size ≤ r → ROk w' r s.data.toList → Calls Try.prog 70 #[.pointer (some ⟨r, 0, none⟩), .pointer (some ⟨tb, 0, none⟩)] w' fun e w2 => ∃ v, e = .returned v ∧ v.oneCell' = true ∧ Fell w2 r er ∧ w'.grownBy w2 (some r)) :
    Calls Try.prog 23 #[.agg #[fput, .func (.func 70) #[] #[.pointer (some ⟨tb, 0, none⟩)]], .string s] w fun e w' => e = .returned (.tuple #[.string ⟨#[]⟩, .int .i64 er]) ∧ Below w.heap.size w w' := by
  have hmf : ∀ (fn : Fn) (first cap : Array Value) (w : World), (Instr.makeFunc fn first cap).run Try.prog w = .ok (.func fn first cap) w := fun _ _ _ _ => rfl
  go_enter_defers Try.func23, Try.ntmps23
  go_wp2_with fail
  obtain ⟨w1, hw1⟩ : ∃ w1, w1 = ((((w.alloc (Obj.cells #[fput, Value.func (Fn.func 70) #[] #[.pointer (some ⟨tb, 0, none⟩)]] 58)).alloc (Obj.cells #[.string ⟨#[]⟩] 9)).alloc (Obj.cells #[Value.int IntKind.i64 0] 28)).alloc (Obj.cells #[.string ⟨#[]⟩] 9)).alloc (Obj.cells #[Value.string s, Value.int IntKind.i64 0, Value.int IntKind.i64 0] 134) := ⟨_, rfl⟩
  obtain ⟨q0, q1, q2, q3, q4, hn1, hb1⟩ := five w (Obj.cells #[fput, Value.func (Fn.func 70) #[] #[.pointer (some ⟨tb, 0, none⟩)]] 58) (Obj.cells #[.string ⟨#[]⟩] 9) (Obj.cells #[Value.int IntKind.i64 0] 28) (Obj.cells #[.string ⟨#[]⟩] 9) (Obj.cells #[Value.string s, Value.int IntKind.i64 0, Value.int IntKind.i64 0] 134)
  rw [← hw1] at q0 q1 q2 q3 q4 hn1 hb1
  have hR1 : ROk w1 (w.heap.size + 1 + 1 + 1 + 1) s.data.toList := ⟨s, 0, ⟨q4, Nat.zero_le _, hsz⟩, rfl⟩
  have k1 : w1.cell? ⟨w.heap.size + 1, 0, none⟩ = some (.string ⟨#[]⟩) := by rw [cell_of_heap q1]; rfl
  have k2 : w1.cell? ⟨w.heap.size + 1 + 1, 0, none⟩ = some (.int .i64 0) := by rw [cell_of_heap q2]; rfl
  have k3 : w1.cell? ⟨w.heap.size + 1 + 1 + 1, 0, none⟩ = some (.string ⟨#[]⟩) := by rw [cell_of_heap q3]; rfl
  have z1 : w1.frozen? ⟨w.heap.size + 1, 0, none⟩ = false := frozen_of_heap q1 0
  have z2 : w1.frozen? ⟨w.heap.size + 1 + 1, 0, none⟩ = false := frozen_of_heap q2 0
  rw [← hw1]
  clear hw1
  refine (hin w1 _ (fun k hk => hb1.block k hk) (by omega) hR1).mono ?_
  rintro e w2 ⟨v, rfl, hv1, h2, g2⟩
  have hvc := cells_one hv1
  unfold Value.cells at hvc
  obtain ⟨m1, f1⟩ := gcell g2 (b := w.heap.size + 1) (by omega) (by simp)
  have k4 := (m1 0).trans k1
  have z3 := (f1 0).trans z1
  have hl2 : w.heap.size + 1 + 1 + 1 + 1 < w2.heap.size := by have := g2.size; omega
  have p1 := (g2.block (w.heap.size + 1) (by omega) (by simp)).trans q1
  have p2 := (g2.block (w.heap.size + 1 + 1) (by omega) (by simp)).trans q2
  have p2b := (g2.block (w.heap.size + 1 + 1 + 1) (by omega) (by simp)).trans q3
  clear m1 f1 k1 k2 k3 z1 z2 q0 q1 q2 q3 q4
  have hst1 : (store ⟨w.heap.size + 1, 0, none⟩ v).run Try.prog w2 = .ok () (w2.setCell ⟨w.heap.size + 1, 0, none⟩ v) := by
    rw [run_store _ _ _ _ _ hv1, k4]
    simp [z3]
  have h3 := h2.grown (Lib.grownBy_setCell w2 (w.heap.size + 1) 0 v) (by simp; omega)
  have p3 : (w2.setCell ⟨w.heap.size + 1, 0, none⟩ v).heap[w.heap.size + 1]? = some (.cells #[v] 9) := by rw [heap_setCell_at p1]; simp
  have p4 : (w2.setCell ⟨w.heap.size + 1, 0, none⟩ v).heap[w.heap.size + 1 + 1]? = some (.cells #[.int .i64 0] 28) := by rw [Below.heap_setCell _ _ _ _ (by simp)]; exact p2
  have p4b : (w2.setCell ⟨w.heap.size + 1, 0, none⟩ v).heap[w.heap.size + 1 + 1 + 1]? = some (.cells #[.string ⟨#[]⟩] 9) := by rw [Below.heap_setCell _ _ _ _ (by simp; omega)]; exact p2b
  have hb3 : Below w.heap.size w (w2.setCell ⟨w.heap.size + 1, 0, none⟩ v) := (hb1.grown g2 (by omega) (fun k hk => by simp at hk; omega)).setCell (p := ⟨w.heap.size + 1, 0, none⟩) (by simp) _
  have hl3 : w.heap.size + 1 + 1 + 1 + 1 < (w2.setCell ⟨w.heap.size + 1, 0, none⟩ v).heap.size := by simpa [World.setCell] using hl2
  go_wp2_with fail
  clear hst1 k4 z3 p1 p2 p2b hb1 hl2 h2 g2 hvc
  generalize w2.setCell ⟨w.heap.size + 1, 0, none⟩ v = wA at *
  refine (end_fell h3 her).mono ?_
  rintro e w4 ⟨rfl, h4, g4⟩
  obtain ⟨c2, cf, hlt4⟩ := h4.cells
  have p5 := (g4.block (w.heap.size + 1) (by omega) (by simp)).trans p3
  have p6 := (g4.block (w.heap.size + 1 + 1) (by omega) (by simp)).trans p4
  have p6b := (g4.block (w.heap.size + 1 + 1 + 1) (by omega) (by simp)).trans p4b
  have k5 : w4.cell? ⟨w.heap.size + 1, 0, none⟩ = some v := by rw [cell_of_heap p5]; rfl
  have k6 : w4.cell? ⟨w.heap.size + 1 + 1, 0, none⟩ = some (.int .i64 0) := by rw [cell_of_heap p6]; rfl
  have k7 : w4.cell? ⟨w.heap.size + 1 + 1 + 1, 0, none⟩ = some (.string ⟨#[]⟩) := by rw [cell_of_heap p6b]; rfl
  have z5 := frozen_of_heap p5 0
  have z6 := frozen_of_heap p6 0
  have hb6 := hb3.grown g4 (by omega) (fun k hk => by simp at hk; omega)
  have hne : (er != 0) = true := by simpa using her
  clear p5 p6 p6b p3 p4 p4b
  go_wp2_with fail
  go_region
  all_goals
    go_wp2_with fail
    refine leaves_cons (f := 67) (args := #[.pointer (some ⟨w.heap.size + 1 + 1 + 1, 0, none⟩), .pointer (some ⟨w.heap.size + 1, 0, none⟩), .pointer (some ⟨w.heap.size + 1 + 1, 0, none⟩)]) (by simp) (by simp [go_sem]) ?_
    refine (idle67 _ _ _ _).mono ?_
    rintro e u' w5 ⟨rfl, rfl, rfl⟩
    have r1 : ((w4.setCell ⟨w.heap.size + 1, 0, none⟩ (.string ⟨#[]⟩)).setCell ⟨w.heap.size + 1 + 1, 0, none⟩ (.int .i64 er)).cell? ⟨w.heap.size + 1, 0, none⟩ = some (.string ⟨#[]⟩) := by go_simp
    have r2 : ((w4.setCell ⟨w.heap.size + 1, 0, none⟩ (.string ⟨#[]⟩)).setCell ⟨w.heap.size + 1 + 1, 0, none⟩ (.int .i64 er)).cell? ⟨w.heap.size + 1 + 1, 0, none⟩ = some (.int .i64 er) := by go_simp
    simp [Leaves, settle, results, Try.results23, go_sem, r1, r2]
    exact ((hb6.setCell (p := ⟨w.heap.size + 1, 0, none⟩) (by simp) _).setCell (p := ⟨w.heap.size + 1 + 1, 0, none⟩) (by simp; omega) _).drew

theorem idle73 (a b c : Nat) (w : World) :
    CallsD Try.prog 73 #[.pointer (some ⟨a, 0, none⟩), .pointer (some ⟨b, 0, none⟩), .pointer (some ⟨c, 0, none⟩)] .returning w fun e u' w' => e = .returned (.tuple #[]) ∧ u' = .returning ∧ w' = w := by
  refine callsD_of_wpS Try.func73 rfl fun c₀ cs hu => ?_
  apply wpS_seq
  apply wpS_region
  simp [wpOpsS, go_sem, recoverD, hu, Try.ntmps73, Exit.thenS]
  refine wpS_cond (t := false) (by simp [Act.eval, Array.replicate]) ?_
  simp only [Bool.false_eq_true, if_false]
  refine wpS_of_wp (wp_skip ?_)
  cases c₀
  simp_all [bodyPostS, results, Try.results73]

set_option maxRecDepth 100000 in
set_option maxHeartbeats 1000000 in
theorem decInts_ok {α : Type} {mb cb : Nat} {rep : World → Value → α → Prop} {fput : Value} {s : ByteArray} {a : α} {w : World} (hsz : (s.size : Int) ≤ 1099511627776) (hr1 : ∀ w v a, rep w v a → v.oneCell' = true) (hs1 : Stable rep 134) (hs2 : Stable rep 28) (hs3 : Stable rep 22)
    (hin : ∀ w' r, Low w.heap.size w w' → w.heap.size ≤ r → ROk w' r s.data.toList → Calls Try.prog 60 #[.pointer (some ⟨r, 0, none⟩), .pointer (some ⟨mb, 0, none⟩), .pointer (some ⟨cb, 0, none⟩)] w' fun e w2 => ∃ v, e = .returned v ∧ rep w2 v a ∧ ROk w2 r [] ∧ w'.grownBy w2 (some r)) :
    Calls Try.prog 26 #[.agg #[fput, .func (.func 60) #[] #[.pointer (some ⟨mb, 0, none⟩), .pointer (some ⟨cb, 0, none⟩)]], .string s] w fun e w' => (∃ v, e = .returned (.tuple #[v, .int .i64 0]) ∧ rep w' v a) ∧ Below w.heap.size w w' := by
  have hmf : ∀ (fn : Fn) (first cap : Array Value) (w : World), (Instr.makeFunc fn first cap).run Try.prog w = .ok (.func fn first cap) w := fun _ _ _ _ => rfl
  go_enter_defers Try.func26, Try.ntmps26
  go_wp2_with fail
  obtain ⟨w1, hw1⟩ : ∃ w1, w1 = ((((w.alloc (Obj.cells #[fput, Value.func (Fn.func 60) #[] #[.pointer (some ⟨mb, 0, none⟩), .pointer (some ⟨cb, 0, none⟩)]] 40)).alloc (Obj.cells #[.slice none 0 0] 22)).alloc (Obj.cells #[Value.int IntKind.i64 0] 28)).alloc (Obj.cells #[.slice none 0 0] 22)).alloc (Obj.cells #[Value.string s, Value.int IntKind.i64 0, Value.int IntKind.i64 0] 134) := ⟨_, rfl⟩
  obtain ⟨q0, q1, q2, q3, q4, hn1, hb1⟩ := five w (Obj.cells #[fput, Value.func (Fn.func 60) #[] #[.pointer (some ⟨mb, 0, none⟩), .pointer (some ⟨cb, 0, none⟩)]] 40) (Obj.cells #[.slice none 0 0] 22) (Obj.cells #[Value.int IntKind.i64 0] 28) (Obj.cells #[.slice none 0 0] 22) (Obj.cells #[Value.string s, Value.int IntKind.i64 0, Value.int IntKind.i64 0] 134)
  rw [← hw1] at q0 q1 q2 q3 q4 hn1 hb1
  have hR1 : ROk w1 (w.heap.size + 1 + 1 + 1 + 1) s.data.toList := ⟨s, 0, ⟨q4, Nat.zero_le _, hsz⟩, rfl⟩
  have k1 : w1.cell? ⟨w.heap.size + 1, 0, none⟩ = some (.slice none 0 0) := by rw [cell_of_heap q1]; rfl
  have k2 : w1.cell? ⟨w.heap.size + 1 + 1, 0, none⟩ = some (.int .i64 0) := by rw [cell_of_heap q2]; rfl
  have k3 : w1.cell? ⟨w.heap.size + 1 + 1 + 1, 0, none⟩ = some (.slice none 0 0) := by rw [cell_of_heap q3]; rfl
  have z1 : w1.frozen? ⟨w.heap.size + 1, 0, none⟩ = false := frozen_of_heap q1 0
  have z2 : w1.frozen? ⟨w.heap.size + 1 + 1, 0, none⟩ = false := frozen_of_heap q2 0
  rw [← hw1]
  clear hw1
  refine (hin w1 _ (fun k hk => hb1.block k hk) (by omega) hR1).mono ?_
  rintro e w2 ⟨v, rfl, hv, h2, g2⟩
  have hv1 := hr1 _ _ _ hv
  have hvc := cells_one hv1
  unfold Value.cells at hvc
  obtain ⟨m1, f1⟩ := gcell g2 (b := w.heap.size + 1) (by omega) (by simp)
  obtain ⟨m2, f2⟩ := gcell g2 (b := w.heap.size + 1 + 1) (by omega) (by simp)
  have k4 := (m1 0).trans k1
  have k5 := (m2 0).trans k2
  have z3 := (f1 0).trans z1
  have z4 := (f2 0).trans z2
  have hl2 : w.heap.size + 1 + 1 + 1 + 1 < w2.heap.size := by have := g2.size; omega
  have p1 := (g2.block (w.heap.size + 1) (by omega) (by simp)).trans q1
  have p2 := (g2.block (w.heap.size + 1 + 1) (by omega) (by simp)).trans q2
  clear m1 m2 f1 f2 k1 k2 k3 z1 z2 q0 q1 q2 q3 q4
  have hst : ∀ (wx : World) (u : Value), wx.cell? ⟨w.heap.size + 1, 0, none⟩ = some u → wx.frozen? ⟨w.heap.size + 1, 0, none⟩ = false → (store ⟨w.heap.size + 1, 0, none⟩ v).run Try.prog wx = .ok () (wx.setCell ⟨w.heap.size + 1, 0, none⟩ v) := by
    intro wx u hu hz
    rw [run_store _ _ _ _ _ hv1, hu]
    simp [hz]
  have hst1 := hst w2 _ k4 z3
  have h3 := h2.grown (Lib.grownBy_setCell w2 (w.heap.size + 1) 0 v) (by simp; omega)
  have g3 := Lib.grownBy_setCell w2 (w.heap.size + 1) 0 v
  have hv3 := hs3 _ _ _ _ _ hv g3 (fun k hk _ => by simp at hk; subst hk; exact ⟨_, _, p1⟩)
  have p3 : (w2.setCell ⟨w.heap.size + 1, 0, none⟩ v).heap[w.heap.size + 1]? = some (.cells #[v] 22) := by rw [heap_setCell_at p1]; simp
  have p4 : (w2.setCell ⟨w.heap.size + 1, 0, none⟩ v).heap[w.heap.size + 1 + 1]? = some (.cells #[.int .i64 0] 28) := by rw [Below.heap_setCell _ _ _ _ (by simp)]; exact p2
  have hb3 : Below w.heap.size w (w2.setCell ⟨w.heap.size + 1, 0, none⟩ v) := (hb1.grown g2 (by omega) (fun k hk => by simp at hk; omega)).setCell (p := ⟨w.heap.size + 1, 0, none⟩) (by simp) _
  have hl3 : w.heap.size + 1 + 1 + 1 + 1 < (w2.setCell ⟨w.heap.size + 1, 0, none⟩ v).heap.size := by simpa [World.setCell] using hl2
  go_wp2_with fail
  clear hst1 k4 k5 z3 z4 p1 p2 hb1 hl2 g3 h2 g2 hv
  generalize w2.setCell ⟨w.heap.size + 1, 0, none⟩ v = wA at *
  refine (end_nil h3).mono ?_
  rintro e w4 ⟨rfl, h4, g4⟩
  obtain ⟨c2, cf, hlt4⟩ := h4.cells
  obtain ⟨s4, kk4, hr4, _⟩ := id h3
  have hv4 := hs1 _ _ _ _ _ hv3 g4 (fun k hk _ => by simp at hk; subst hk; exact ⟨_, _, hr4.1⟩)
  have p5 := (g4.block (w.heap.size + 1) (by omega) (by simp)).trans p3
  have p6 := (g4.block (w.heap.size + 1 + 1) (by omega) (by simp)).trans p4
  have k5 : w4.cell? ⟨w.heap.size + 1, 0, none⟩ = some v := by rw [cell_of_heap p5]; rfl
  have k6 : w4.cell? ⟨w.heap.size + 1 + 1, 0, none⟩ = some (.int .i64 0) := by rw [cell_of_heap p6]; rfl
  have z5 := frozen_of_heap p5 0
  have z6 := frozen_of_heap p6 0
  have hst4 := hst w4 _ k5 z5
  have g5 := Lib.grownBy_setCell w4 (w.heap.size + 1) 0 v
  have hv5 := hs3 _ _ _ _ _ hv4 g5 (fun k hk _ => by simp at hk; subst hk; exact ⟨_, _, p5⟩)
  have p7 : (w4.setCell ⟨w.heap.size + 1, 0, none⟩ v).heap[w.heap.size + 1 + 1]? = some (.cells #[.int .i64 0] 28) := by rw [Below.heap_setCell _ _ _ _ (by simp)]; exact p6
  have g6 := Lib.grownBy_setCell (w4.setCell ⟨w.heap.size + 1, 0, none⟩ v) (w.heap.size + 1 + 1) 0 (.int .i64 0)
  have hv6 := hs2 _ _ _ _ _ hv5 g6 (fun k hk _ => by simp at hk; subst hk; exact ⟨_, _, p7⟩)
  have hb6 : Below w.heap.size w ((w4.setCell ⟨w.heap.size + 1, 0, none⟩ v).setCell ⟨w.heap.size + 1 + 1, 0, none⟩ (.int .i64 0)) := ((hb3.grown g4 (by omega) (fun k hk => by simp at hk; omega)).setCell (p := ⟨w.heap.size + 1, 0, none⟩) (by simp) _).setCell (p := ⟨w.heap.size + 1 + 1, 0, none⟩) (by simp; omega) _
  have Hfin : Hid (rep ((w4.setCell ⟨w.heap.size + 1, 0, none⟩ v).setCell ⟨w.heap.size + 1 + 1, 0, none⟩ (.int .i64 0)) v a ∧ Below w.heap.size w ((w4.setCell ⟨w.heap.size + 1, 0, none⟩ v).setCell ⟨w.heap.size + 1 + 1, 0, none⟩ (.int .i64 0))) := ⟨hv6, hb6⟩
  clear hst p7 g6 hv6 hb6 g5 hv5 p5 p6 hv4 hr4 p3 p4
  go_wp2_with fail
  refine leaves_cons (f := 73) (args := #[.pointer (some ⟨w.heap.size + 1 + 1 + 1, 0, none⟩), .pointer (some ⟨w.heap.size + 1, 0, none⟩), .pointer (some ⟨w.heap.size + 1 + 1, 0, none⟩)]) (by simp) (by simp [go_sem]) ?_
  refine (idle73 _ _ _ _).mono ?_
  rintro e u' w5 ⟨rfl, rfl, rfl⟩
  have r1 : ((w4.setCell ⟨w.heap.size + 1, 0, none⟩ v).setCell ⟨w.heap.size + 1 + 1, 0, none⟩ (.int .i64 0)).cell? ⟨w.heap.size + 1, 0, none⟩ = some v := by go_simp
  have r2 : ((w4.setCell ⟨w.heap.size + 1, 0, none⟩ v).setCell ⟨w.heap.size + 1 + 1, 0, none⟩ (.int .i64 0)).cell? ⟨w.heap.size + 1 + 1, 0, none⟩ = some (.int .i64 0) := by go_simp
  simp [Leaves, settle, results, Try.results26, go_sem, r1, r2]
  exact Hfin.out

set_option maxRecDepth 100000 in
set_option maxHeartbeats 1000000 in
theorem decInts_no {mb cb : Nat} {fput : Value} {s : ByteArray} {er : Int} {w : World} (hsz : (s.size : Int) ≤ 1099511627776) (her : er ≠ 0)
    (hin : ∀ w' r, Low w.heap.size w w' → w.heap.size ≤ r → ROk w' r s.data.toList → Calls Try.prog 60 #[.pointer (some ⟨r, 0, none⟩), .pointer (some ⟨mb, 0, none⟩), .pointer (some ⟨cb, 0, none⟩)] w' fun e w2 => ∃ v, e = .returned v ∧ v.oneCell' = true ∧ Fell w2 r er ∧ w'.grownBy w2 (some r)) :
    Calls Try.prog 26 #[.agg #[fput, .func (.func 60) #[] #[.pointer (some ⟨mb, 0, none⟩), .pointer (some ⟨cb, 0, none⟩)]], .string s] w fun e w' => e = .returned (.tuple #[.slice none 0 0, .int .i64 er]) ∧ Below w.heap.size w w' := by
  have hmf : ∀ (fn : Fn) (first cap : Array Value) (w : World), (Instr.makeFunc fn first cap).run Try.prog w = .ok (.func fn first cap) w := fun _ _ _ _ => rfl
  go_enter_defers Try.func26, Try.ntmps26
  go_wp2_with fail
  obtain ⟨w1, hw1⟩ : ∃ w1, w1 = ((((w.alloc (Obj.cells #[fput, Value.func (Fn.func 60) #[] #[.pointer (some ⟨mb, 0, none⟩), .pointer (some ⟨cb, 0, none⟩)]] 40)).alloc (Obj.cells #[.slice none 0 0] 22)).alloc (Obj.cells #[Value.int IntKind.i64 0] 28)).alloc (Obj.cells #[.slice none 0 0] 22)).alloc (Obj.cells #[Value.string s, Value.int IntKind.i64 0, Value.int IntKind.i64 0] 134) := ⟨_, rfl⟩
  obtain ⟨q0, q1, q2, q3, q4, hn1, hb1⟩ := five w (Obj.cells #[fput, Value.func (Fn.func 60) #[] #[.pointer (some ⟨mb, 0, none⟩), .pointer (some ⟨cb, 0, none⟩)]] 40) (Obj.cells #[.slice none 0 0] 22) (Obj.cells #[Value.int IntKind.i64 0] 28) (Obj.cells #[.slice none 0 0] 22) (Obj.cells #[Value.string s, Value.int IntKind.i64 0, Value.int IntKind.i64 0] 134)
  rw [← hw1] at q0 q1 q2 q3 q4 hn1 hb1
  have hR1 : ROk w1 (w.heap.size + 1 + 1 + 1 + 1) s.data.toList := ⟨s, 0, ⟨q4, Nat.zero_le _, hsz⟩, rfl⟩
  have k1 : w1.cell? ⟨w.heap.size + 1, 0, none⟩ = some (.slice none 0 0) := by rw [cell_of_heap q1]; rfl
  have k2 : w1.cell? ⟨w.heap.size + 1 + 1, 0, none⟩ = some (.int .i64 0) := by rw [cell_of_heap q2]; rfl
  have k3 : w1.cell? ⟨w.heap.size + 1 + 1 + 1, 0, none⟩ = some (.slice none 0 0) := by rw [cell_of_heap q3]; rfl
  have z1 : w1.frozen? ⟨w.heap.size + 1, 0, none⟩ = false := frozen_of_heap q1 0
  have z2 : w1.frozen? ⟨w.heap.size + 1 + 1, 0, none⟩ = false := frozen_of_heap q2 0
  rw [← hw1]
  clear hw1
  refine (hin w1 _ (fun k hk => hb1.block k hk) (by omega) hR1).mono ?_
  rintro e w2 ⟨v, rfl, hv1, h2, g2⟩
  have hvc := cells_one hv1
  unfold Value.cells at hvc
  obtain ⟨m1, f1⟩ := gcell g2 (b := w.heap.size + 1) (by omega) (by simp)
  have k4 := (m1 0).trans k1
  have z3 := (f1 0).trans z1
  have hl2 : w.heap.size + 1 + 1 + 1 + 1 < w2.heap.size := by have := g2.size; omega
  have p1 := (g2.block (w.heap.size + 1) (by omega) (by simp)).trans q1
  have p2 := (g2.block (w.heap.size + 1 + 1) (by omega) (by simp)).trans q2
  have p2b := (g2.block (w.heap.size + 1 + 1 + 1) (by omega) (by simp)).trans q3
  clear m1 f1 k1 k2 k3 z1 z2 q0 q1 q2 q3 q4
  have hst1 : (store ⟨w.heap.size + 1, 0, none⟩ v).run Try.prog w2 = .ok () (w2.setCell ⟨w.heap.size + 1, 0, none⟩ v) := by
    rw [run_store _ _ _ _ _ hv1, k4]
    simp [z3]
  have h3 := h2.grown (Lib.grownBy_setCell w2 (w.heap.size + 1) 0 v) (by simp; omega)
  have p3 : (w2.setCell ⟨w.heap.size + 1, 0, none⟩ v).heap[w.heap.size + 1]? = some (.cells #[v] 22) := by rw [heap_setCell_at p1]; simp
  have p4 : (w2.setCell ⟨w.heap.size + 1, 0, none⟩ v).heap[w.heap.size + 1 + 1]? = some (.cells #[.int .i64 0] 28) := by rw [Below.heap_setCell _ _ _ _ (by simp)]; exact p2
  have p4b : (w2.setCell ⟨w.heap.size + 1, 0, none⟩ v).heap[w.heap.size + 1 + 1 + 1]? = some (.cells #[.slice none 0 0] 22) := by rw [Below.heap_setCell _ _ _ _ (by simp; omega)]; exact p2b
  have hb3 : Below w.heap.size w (w2.setCell ⟨w.heap.size + 1, 0, none⟩ v) := (hb1.grown g2 (by omega) (fun k hk => by simp at hk; omega)).setCell (p := ⟨w.heap.size + 1, 0, none⟩) (by simp) _
  have hl3 : w.heap.size + 1 + 1 + 1 + 1 < (w2.setCell ⟨w.heap.size + 1, 0, none⟩ v).heap.size := by simpa [World.setCell] using hl2
  go_wp2_with fail
  clear hst1 k4 z3 p1 p2 p2b hb1 hl2 h2 g2 hvc
  generalize w2.setCell ⟨w.heap.size + 1, 0, none⟩ v = wA at *
  refine (end_fell h3 her).mono ?_
  rintro e w4 ⟨rfl, h4, g4⟩
  obtain ⟨c2, cf, hlt4⟩ := h4.cells
  have p5 := (g4.block (w.heap.size + 1) (by omega) (by simp)).trans p3
  have p6 := (g4.block (w.heap.size + 1 + 1) (by omega) (by simp)).trans p4
  have p6b := (g4.block (w.heap.size + 1 + 1 + 1) (by omega) (by simp)).trans p4b
  have k5 : w4.cell? ⟨w.heap.size + 1, 0, none⟩ = some v := by rw [cell_of_heap p5]; rfl
  have k6 : w4.cell? ⟨w.heap.size + 1 + 1, 0, none⟩ = some (.int .i64 0) := by rw [cell_of_heap p6]; rfl
  have k7 : w4.cell? ⟨w.heap.size + 1 + 1 + 1, 0, none⟩ = some (.slice none 0 0) := by rw [cell_of_heap p6b]; rfl
  have z5 := frozen_of_heap p5 0
  have z6 := frozen_of_heap p6 0
  have hb6 := hb3.grown g4 (by omega) (fun k hk => by simp at hk; omega)
  have hne : (er != 0) = true := by simpa using her
  clear p5 p6 p6b p3 p4 p4b
  go_wp2_with fail
  go_region
  all_goals
    go_wp2_with fail
    refine leaves_cons (f := 73) (args := #[.pointer (some ⟨w.heap.size + 1 + 1 + 1, 0, none⟩), .pointer (some ⟨w.heap.size + 1, 0, none⟩), .pointer (some ⟨w.heap.size + 1 + 1, 0, none⟩)]) (by simp) (by simp [go_sem]) ?_
    refine (idle73 _ _ _ _).mono ?_
    rintro e u' w5 ⟨rfl, rfl, rfl⟩
    have r1 : ((w4.setCell ⟨w.heap.size + 1, 0, none⟩ (.slice none 0 0)).setCell ⟨w.heap.size + 1 + 1, 0, none⟩ (.int .i64 er)).cell? ⟨w.heap.size + 1, 0, none⟩ = some (.slice none 0 0) := by go_simp
    have r2 : ((w4.setCell ⟨w.heap.size + 1, 0, none⟩ (.slice none 0 0)).setCell ⟨w.heap.size + 1 + 1, 0, none⟩ (.int .i64 er)).cell? ⟨w.heap.size + 1 + 1, 0, none⟩ = some (.int .i64 er) := by go_simp
    simp [Leaves, settle, results, Try.results26, go_sem, r1, r2]
    exact ((hb6.setCell (p := ⟨w.heap.size + 1, 0, none⟩) (by simp) _).setCell (p := ⟨w.heap.size + 1 + 1, 0, none⟩) (by simp; omega) _).drew

theorem idle84 (a b c : Nat) (w : World) :
    CallsD Try.prog 84 #[.pointer (some ⟨a, 0, none⟩), .pointer (some ⟨b, 0, none⟩), .pointer (some ⟨c, 0, none⟩)] .returning w fun e u' w' => e = .returned (.tuple #[]) ∧ u' = .returning ∧ w' = w := by
  refine callsD_of_wpS Try.func84 rfl fun c₀ cs hu => ?_
  apply wpS_seq
  apply wpS_region
  simp [wpOpsS, go_sem, recoverD, hu, Try.ntmps84, Exit.thenS]
  refine wpS_cond (t := false) (by simp [Act.eval, Array.replicate]) ?_
  simp only [Bool.false_eq_true, if_false]
  refine wpS_of_wp (wp_skip ?_)
  cases c₀
  simp_all [bodyPostS, results, Try.results84]

set_option maxRecDepth 100000 in
set_option maxHeartbeats 1000000 in
theorem decBools_ok {α : Type} {mb cb : Nat} {rep : World → Value → α → Prop} {fput : Value} {s : ByteArray} {a : α} {w : World} (hsz : (s.size : Int) ≤ 1099511627776) (hr1 : ∀ w v a, rep w v a → v.oneCell' = true) (hs1 : Stable rep 134) (hs2 : Stable rep 28) (hs3 : Stable rep 89)
    (hin : ∀ w' r, Low w.heap.size w w' → w.heap.size ≤ r → ROk w' r s.data.toList → Calls Try.prog 82 #[.pointer (some ⟨r, 0, none⟩), .pointer (some ⟨mb, 0, none⟩), .pointer (some ⟨cb, 0, none⟩)] w' fun e w2 => ∃ v, e = .returned v ∧ rep w2 v a ∧ ROk w2 r [] ∧ w'.grownBy w2 (some r)) :
    Calls Try.prog 38 #[.agg #[fput, .func (.func 82) #[] #[.pointer (some ⟨mb, 0, none⟩), .pointer (some ⟨cb, 0, none⟩)]], .string s] w fun e w' => (∃ v, e = .returned (.tuple #[v, .int .i64 0]) ∧ rep w' v a) ∧ Below w.heap.size w w' := by
  have hmf : ∀ (fn : Fn) (first cap : Array Value) (w : World), (Instr.makeFunc fn first cap).run Try.prog w = .ok (.func fn first cap) w := fun _ _ _ _ => rfl
  go_enter_defers Try.func38, Try.ntmps38
  go_wp2_with fail
  obtain ⟨w1, hw1⟩ : ∃ w1, w1 = ((((w.alloc (Obj.cells #[fput, Value.func (Fn.func 82) #[] #[.pointer (some ⟨mb, 0, none⟩), .pointer (some ⟨cb, 0, none⟩)]] 93)).alloc (Obj.cells #[.slice none 0 0] 89)).alloc (Obj.cells #[Value.int IntKind.i64 0] 28)).alloc (Obj.cells #[.slice none 0 0] 89)).alloc (Obj.cells #[Value.string s, Value.int IntKind.i64 0, Value.int IntKind.i64 0] 134) := ⟨_, rfl⟩
  obtain ⟨q0, q1, q2, q3, q4, hn1, hb1⟩ := five w (Obj.cells #[fput, Value.func (Fn.func 82) #[] #[.pointer (some ⟨mb, 0, none⟩), .pointer (some ⟨cb, 0, none⟩)]] 93) (Obj.cells #[.slice none 0 0] 89) (Obj.cells #[Value.int IntKind.i64 0] 28) (Obj.cells #[.slice none 0 0] 89) (Obj.cells #[Value.string s, Value.int IntKind.i64 0, Value.int IntKind.i64 0] 134)
  rw [← hw1] at q0 q1 q2 q3 q4 hn1 hb1
  have hR1 : ROk w1 (w.heap.size + 1 + 1 + 1 + 1) s.data.toList := ⟨s, 0, ⟨q4, Nat.zero_le _, hsz⟩, rfl⟩
  have k1 : w1.cell? ⟨w.heap.size + 1, 0, none⟩ = some (.slice none 0 0) := by rw [cell_of_heap q1]; rfl
  have k2 : w1.cell? ⟨w.heap.size + 1 + 1, 0, none⟩ = some (.int .i64 0) := by rw [cell_of_heap q2]; rfl
  have k3 : w1.cell? ⟨w.heap.size + 1 + 1 + 1, 0, none⟩ = some (.slice none 0 0) := by rw [cell_of_heap q3]; rfl
  have z1 : w1.frozen? ⟨w.heap.size + 1, 0, none⟩ = false := frozen_of_heap q1 0
  have z2 : w1.frozen? ⟨w.heap.size + 1 + 1, 0, none⟩ = false := frozen_of_heap q2 0
  rw [← hw1]
  clear hw1
  refine (hin w1 _ (fun k hk => hb1.block k hk) (by omega) hR1).mono ?_
  rintro e w2 ⟨v, rfl, hv, h2, g2⟩
  have hv1 := hr1 _ _ _ hv
  have hvc := cells_one hv1
  unfold Value.cells at hvc
  obtain ⟨m1, f1⟩ := gcell g2 (b := w.heap.size + 1) (by omega) (by simp)
  obtain ⟨m2, f2⟩ := gcell g2 (b := w.heap.size + 1 + 1) (by omega) (by simp)
  have k4 := (m1 0).trans k1
  have k5 := (m2 0).trans k2
  have z3 := (f1 0).trans z1
  have z4 := (f2 0).trans z2
  have hl2 : w.heap.size + 1 + 1 + 1 + 1 < w2.heap.size := by have := g2.size; omega
  have p1 := (g2.block (w.heap.size + 1) (by omega) (by simp)).trans q1
  have p2 := (g2.block (w.heap.size + 1 + 1) (by omega) (by simp)).trans q2
  clear m1 m2 f1 f2 k1 k2 k3 z1 z2 q0 q1 q2 q3 q4
  have hst : ∀ (wx : World) (u : Value), wx.cell? ⟨w.heap.size + 1, 0, none⟩ = some u → wx.frozen? ⟨w.heap.size + 1, 0, none⟩ = false → (store ⟨w.heap.size + 1, 0, none⟩ v).run Try.prog wx = .ok () (wx.setCell ⟨w.heap.size + 1, 0, none⟩ v) := by
    intro wx u hu hz
    rw [run_store _ _ _ _ _ hv1, hu]
    simp [hz]
  have hst1 := hst w2 _ k4 z3
  have h3 := h2.grown (Lib.grownBy_setCell w2 (w.heap.size + 1) 0 v) (by simp; omega)
  have g3 := Lib.grownBy_setCell w2 (w.heap.size + 1) 0 v
  have hv3 := hs3 _ _ _ _ _ hv g3 (fun k hk _ => by simp at hk; subst hk; exact ⟨_, _, p1⟩)
  have p3 : (w2.setCell ⟨w.heap.size + 1, 0, none⟩ v).heap[w.heap.size + 1]? = some (.cells #[v] 89) := by rw [heap_setCell_at p1]; simp
  have p4 : (w2.setCell ⟨w.heap.size + 1, 0, none⟩ v).heap[w.heap.size + 1 + 1]? = some (.cells #[.int .i64 0] 28) := by rw [Below.heap_setCell _ _ _ _ (by simp)]; exact p2
  have hb3 : Below w.heap.size w (w2.setCell ⟨w.heap.size + 1, 0, none⟩ v) := (hb1.grown g2 (by omega) (fun k hk => by simp at hk; omega)).setCell (p := ⟨w.heap.size + 1, 0, none⟩) (by simp) _
  have hl3 : w.heap.size + 1 + 1 + 1 + 1 < (w2.setCell ⟨w.heap.size + 1, 0, none⟩ v).heap.size := by simpa [World.setCell] using hl2
  go_wp2_with fail
  clear hst1 k4 k5 z3 z4 p1 p2 hb1 hl2 g3 h2 g2 hv
  generalize w2.setCell ⟨w.heap.size + 1, 0, none⟩ v = wA at *
  refine (end_nil h3).mono ?_
  rintro e w4 ⟨rfl, h4, g4⟩
  obtain ⟨c2, cf, hlt4⟩ := h4.cells
  obtain ⟨s4, kk4, hr4, _⟩ := id h3
  have hv4 := hs1 _ _ _ _ _ hv3 g4 (fun k hk _ => by simp at hk; subst hk; exact ⟨_, _, hr4.1⟩)
  have p5 := (g4.block (w.heap.size + 1) (by omega) (by simp)).trans p3
  have p6 := (g4.block (w.heap.size + 1 + 1) (by omega) (by simp)).trans p4
  have k5 : w4.cell? ⟨w.heap.size + 1, 0, none⟩ = some v := by rw [cell_of_heap p5]; rfl
  have k6 : w4.cell? ⟨w.heap.size + 1 + 1, 0, none⟩ = some (.int .i64 0) := by rw [cell_of_heap p6]; rfl
  have z5 := frozen_of_heap p5 0
  have z6 := frozen_of_heap p6 0
  have hst4 := hst w4 _ k5 z5
  have g5 := Lib.grownBy_setCell w4 (w.heap.size + 1) 0 v
  have hv5 := hs3 _ _ _ _ _ hv4 g5 (fun k hk _ => by simp at hk; subst hk; exact ⟨_, _, p5⟩)
  have p7 : (w4.setCell ⟨w.heap.size + 1, 0, none⟩ v).heap[w.heap.size + 1 + 1]? = some (.cells #[.int .i64 0] 28) := by rw [Below.heap_setCell _ _ _ _ (by simp)]; exact p6
  have g6 := Lib.grownBy_setCell (w4.setCell ⟨w.heap.size + 1, 0, none⟩ v) (w.heap.size + 1 + 1) 0 (.int .i64 0)
  have hv6 := hs2 _ _ _ _ _ hv5 g6 (fun k hk _ => by simp at hk; subst hk; exact ⟨_, _, p7⟩)
  have hb6 : Below w.heap.size w ((w4.setCell ⟨w.heap.size + 1, 0, none⟩ v).setCell ⟨w.heap.size + 1 + 1, 0, none⟩ (.int .i64 0)) := ((hb3.grown g4 (by omega) (fun k hk => by simp at hk; omega)).setCell (p := ⟨w.heap.size + 1, 0, none⟩) (by simp) _).setCell (p := ⟨w.heap.size + 1 + 1, 0, none⟩) (by simp; omega) _
  have Hfin : Hid (rep ((w4.setCell ⟨w.heap.size + 1, 0, none⟩ v).setCell ⟨w.heap.size + 1 + 1, 0, none⟩ (.int .i64 0)) v a ∧ Below w.heap.size w ((w4.setCell ⟨w.heap.size + 1, 0, none⟩ v).setCell ⟨w.heap.size + 1 + 1, 0, none⟩ (.int .i64 0))) := ⟨hv6, hb6⟩
  clear hst p7 g6 hv6 hb6 g5 hv5 p5 p6 hv4 hr4 p3 p4
  go_wp2_with fail
  refine leaves_cons (f := 84) (args := #[.pointer (some ⟨w.heap.size + 1 + 1 + 1, 0, none⟩), .pointer (some ⟨w.heap.size + 1, 0, none⟩), .pointer (some ⟨w.heap.size + 1 + 1, 0, none⟩)]) (by simp) (by simp [go_sem]) ?_
  refine (idle84 _ _ _ _).mono ?_
  rintro e u' w5 ⟨rfl, rfl, rfl⟩
  have r1 : ((w4.setCell ⟨w.heap.size + 1, 0, none⟩ v).setCell ⟨w.heap.size + 1 + 1, 0, none⟩ (.int .i64 0)).cell? ⟨w.heap.size + 1, 0, none⟩ = some v := by go_simp
  have r2 : ((w4.setCell ⟨w.heap.size + 1, 0, none⟩ v).setCell ⟨w.heap.size + 1 + 1, 0, none⟩ (.int .i64 0)).cell? ⟨w.heap.size + 1 + 1, 0, none⟩ = some (.int .i64 0) := by go_simp
  simp [Leaves, settle, results, Try.results38, go_sem, r1, r2]
  exact Hfin.out

set_option maxRecDepth 100000 in
set_option maxHeartbeats 1000000 in
theorem decBools_no {mb cb : Nat} {fput : Value} {s : ByteArray} {er : Int} {w : World} (hsz : (s.size : Int) ≤ 1099511627776) (her : er ≠ 0)
    (hin : ∀ w' r, Low w.heap.size w w' → w.heap.size ≤ r → ROk w' r s.data.toList → Calls Try.prog 82 #[.pointer (some ⟨r, 0, none⟩), .pointer (some ⟨mb, 0, none⟩), .pointer (some ⟨cb, 0, none⟩)] w' fun e w2 => ∃ v, e = .returned v ∧ v.oneCell' = true ∧ Fell w2 r er ∧ w'.grownBy w2 (some r)) :
    Calls Try.prog 38 #[.agg #[fput, .func (.func 82) #[] #[.pointer (some ⟨mb, 0, none⟩), .pointer (some ⟨cb, 0, none⟩)]], .string s] w fun e w' => e = .returned (.tuple #[.slice none 0 0, .int .i64 er]) ∧ Below w.heap.size w w' := by
  have hmf : ∀ (fn : Fn) (first cap : Array Value) (w : World), (Instr.makeFunc fn first cap).run Try.prog w = .ok (.func fn first cap) w := fun _ _ _ _ => rfl
  go_enter_defers Try.func38, Try.ntmps38
  go_wp2_with fail
  obtain ⟨w1, hw1⟩ : ∃ w1, w1 = ((((w.alloc (Obj.cells #[fput, Value.func (Fn.func 82) #[] #[.pointer (some ⟨mb, 0, none⟩), .pointer (some ⟨cb, 0, none⟩)]] 93)).alloc (Obj.cells #[.slice none 0 0] 89)).alloc (Obj.cells #[Value.int IntKind.i64 0] 28)).alloc (Obj.cells #[.slice none 0 0] 89)).alloc (Obj.cells #[Value.string s, Value.int IntKind.i64 0, Value.int IntKind.i64 0] 134) := ⟨_, rfl⟩
  obtain ⟨q0, q1, q2, q3, q4, hn1, hb1⟩ := five w (Obj.cells #[fput, Value.func (Fn.func 82) #[] #[.pointer (some ⟨mb, 0, none⟩), .pointer (some ⟨cb, 0, none⟩)]] 93) (Obj.cells #[.slice none 0 0] 89) (Obj.cells #[Value.int IntKind.i64 0] 28) (Obj.cells #[.slice none 0 0] 89) (Obj.cells #[Value.string s, Value.int IntKind.i64 0, Value.int IntKind.i64 0] 134)
  rw [← hw1] at q0 q1 q2 q3 q4 hn1 hb1
  have hR1 : ROk w1 (w.heap.size + 1 + 1 + 1 + 1) s.data.toList := ⟨s, 0, ⟨q4, Nat.zero_le _, hsz⟩, rfl⟩
  have k1 : w1.cell? ⟨w.heap.size + 1, 0, none⟩ = some (.slice none 0 0) := by rw [cell_of_heap q1]; rfl
  have k2 : w1.cell? ⟨w.heap.size + 1 + 1, 0, none⟩ = some (.int .i64 0) := by rw [cell_of_heap q2]; rfl
  have k3 : w1.cell? ⟨w.heap.size + 1 + 1 + 1, 0, none⟩ = some (.slice none 0 0) := by rw [cell_of_heap q3]; rfl
  have z1 : w1.frozen? ⟨w.heap.size + 1, 0, none⟩ = false := frozen_of_heap q1 0
  have z2 : w1.frozen? ⟨w.heap.size + 1 + 1, 0, none⟩ = false := frozen_of_heap q2 0
  rw [← hw1]
  clear hw1
  refine (hin w1 _ (fun k hk => hb1.block k hk) (by omega) hR1).mono ?_
  rintro e w2 ⟨v, rfl, hv1, h2, g2⟩
  have hvc := cells_one hv1
  unfold Value.cells at hvc
  obtain ⟨m1, f1⟩ := gcell g2 (b := w.heap.size + 1) (by omega) (by simp)
  have k4 := (m1 0).trans k1
  have z3 := (f1 0).trans z1
  have hl2 : w.heap.size + 1 + 1 + 1 + 1 < w2.heap.size := by have := g2.size; omega
  have p1 := (g2.block (w.heap.size + 1) (by omega) (by simp)).trans q1
  have p2 := (g2.block (w.heap.size + 1 + 1) (by omega) (by simp)).trans q2
  have p2b := (g2.block (w.heap.size + 1 + 1 + 1) (by omega) (by simp)).trans q3
  clear m1 f1 k1 k2 k3 z1 z2 q0 q1 q2 q3 q4
  have hst1 : (store ⟨w.heap.size + 1, 0, none⟩ v).run Try.prog w2 = .ok () (w2.setCell ⟨w.heap.size + 1, 0, none⟩ v) := by
    rw [run_store _ _ _ _ _ hv1, k4]
    simp [z3]
  have h3 := h2.grown (Lib.grownBy_setCell w2 (w.heap.size + 1) 0 v) (by simp; omega)
  have p3 : (w2.setCell ⟨w.heap.size + 1, 0, none⟩ v).heap[w.heap.size + 1]? = some (.cells #[v] 89) := by rw [heap_setCell_at p1]; simp
  have p4 : (w2.setCell ⟨w.heap.size + 1, 0, none⟩ v).heap[w.heap.size + 1 + 1]? = some (.cells #[.int .i64 0] 28) := by rw [Below.heap_setCell _ _ _ _ (by simp)]; exact p2
  have p4b : (w2.setCell ⟨w.heap.size + 1, 0, none⟩ v).heap[w.heap.size + 1 + 1 + 1]? = some (.cells #[.slice none 0 0] 89) := by rw [Below.heap_setCell _ _ _ _ (by simp; omega)]; exact p2b
  have hb3 : Below w.heap.size w (w2.setCell ⟨w.heap.size + 1, 0, none⟩ v) := (hb1.grown g2 (by omega) (fun k hk => by simp at hk; omega)).setCell (p := ⟨w.heap.size + 1, 0, none⟩) (by simp) _
  have hl3 : w.heap.size + 1 + 1 + 1 + 1 < (w2.setCell ⟨w.heap.size + 1, 0, none⟩ v).heap.size := by simpa [World.setCell] using hl2
  go_wp2_with fail
  clear hst1 k4 z3 p1 p2 p2b hb1 hl2 h2 g2 hvc
  generalize w2.setCell ⟨w.heap.size + 1, 0, none⟩ v = wA at *
  refine (end_fell h3 her).mono ?_
  rintro e w4 ⟨rfl, h4, g4⟩
  obtain ⟨c2, cf, hlt4⟩ := h4.cells
  have p5 := (g4.block (w.heap.size + 1) (by omega) (by simp)).trans p3
  have p6 := (g4.block (w.heap.size + 1 + 1) (by omega) (by simp)).trans p4
  have p6b := (g4.block (w.heap.size + 1 + 1 + 1) (by omega) (by simp)).trans p4b
  have k5 : w4.cell? ⟨w.heap.size + 1, 0, none⟩ = some v := by rw [cell_of_heap p5]; rfl
  have k6 : w4.cell? ⟨w.heap.size + 1 + 1, 0, none⟩ = some (.int .i64 0) := by rw [cell_of_heap p6]; rfl
  have k7 : w4.cell? ⟨w.heap.size + 1 + 1 + 1, 0, none⟩ = some (.slice none 0 0) := by rw [cell_of_heap p6b]; rfl
  have z5 := frozen_of_heap p5 0
  have z6 := frozen_of_heap p6 0
  have hb6 := hb3.grown g4 (by omega) (fun k hk => by simp at hk; omega)
  have hne : (er != 0) = true := by simpa using her
  clear p5 p6 p6b p3 p4 p4b
  go_wp2_with fail
  go_region
  all_goals
    go_wp2_with fail
    refine leaves_cons (f := 84) (args := #[.pointer (some ⟨w.heap.size + 1 + 1 + 1, 0, none⟩), .pointer (some ⟨w.heap.size + 1, 0, none⟩), .pointer (some ⟨w.heap.size + 1 + 1, 0, none⟩)]) (by simp) (by simp [go_sem]) ?_
    refine (idle84 _ _ _ _).mono ?_
    rintro e u' w5 ⟨rfl, rfl, rfl⟩
    have r1 : ((w4.setCell ⟨w.heap.size + 1, 0, none⟩ (.slice none 0 0)).setCell ⟨w.heap.size + 1 + 1, 0, none⟩ (.int .i64 er)).cell? ⟨w.heap.size + 1, 0, none⟩ = some (.slice none 0 0) := by go_simp
    have r2 : ((w4.setCell ⟨w.heap.size + 1, 0, none⟩ (.slice none 0 0)).setCell ⟨w.heap.size + 1 + 1, 0, none⟩ (.int .i64 er)).cell? ⟨w.heap.size + 1 + 1, 0, none⟩ = some (.int .i64 er) := by go_simp
    simp [Leaves, settle, results, Try.results38, go_sem, r1, r2]
    exact ((hb6.setCell (p := ⟨w.heap.size + 1, 0, none⟩) (by simp) _).setCell (p := ⟨w.heap.size + 1 + 1, 0, none⟩) (by simp; omega) _).drew

theorem idle74 (a b c : Nat) (w : World) :
    CallsD Try.prog 74 #[.pointer (some ⟨a, 0, none⟩), .pointer (some ⟨b, 0, none⟩), .pointer (some ⟨c, 0, none⟩)] .returning w fun e u' w' => e = .returned (.tuple #[]) ∧ u' = .returning ∧ w' = w := by
  refine callsD_of_wpS Try.func74 rfl fun c₀ cs hu => ?_
  apply wpS_seq
  apply wpS_region
  simp [wpOpsS, go_sem, recoverD, hu, Try.ntmps74, Exit.thenS]
  refine wpS_cond (t := false) (by simp [Act.eval, Array.replicate]) ?_
  simp only [Bool.false_eq_true, if_false]
  refine wpS_of_wp (wp_skip ?_)
  cases c₀
  simp_all [bodyPostS, results, Try.results74]

set_option maxRecDepth 100000 in
set_option maxHeartbeats 1000000 in
theorem decStrs_ok {α : Type} {mb cb : Nat} {rep : World → Value → α → Prop} {fput : Value} {s : ByteArray} {a : α} {w : World} (hsz : (s.size : Int) ≤ 1099511627776) (hr1 : ∀ w v a, rep w v a → v.oneCell' = true) (hs1 : Stable rep 134) (hs2 : Stable rep 28) (hs3 : Stable rep 67)
    (hin : ∀ w' r, Low w.heap.size w w' → w.heap.size ≤ r → ROk w' r s.data.toList → Calls Try.prog 76 #[.pointer (some ⟨r, 0, none⟩), .pointer (some ⟨mb, 0, none⟩), .pointer (some ⟨cb, 0, none⟩)] w' fun e w2 => ∃ v, e = .returned v ∧ rep w2 v a ∧ ROk w2 r [] ∧ w'.grownBy w2 (some r)) :
    Calls Try.prog 29 #[.agg #[fput, .func (.func 76) #[] #[.pointer (some ⟨mb, 0, none⟩), .pointer (some ⟨cb, 0, none⟩)]], .string s] w fun e w' => (∃ v, e = .returned (.tuple #[v, .int .i64 0]) ∧ rep w' v a) ∧ Below w.heap.size w w' := by
  have hmf : ∀ (fn : Fn) (first cap : Array Value) (w : World), (Instr.makeFunc fn first cap).run Try.prog w = .ok (.func fn first cap) w := fun _ _ _ _ => rfl
  go_enter_defers Try.func29, Try.ntmps29
  go_wp2_with fail
  obtain ⟨w1, hw1⟩ : ∃ w1, w1 = ((((w.alloc (Obj.cells #[fput, Value.func (Fn.func 76) #[] #[.pointer (some ⟨mb, 0, none⟩), .pointer (some ⟨cb, 0, none⟩)]] 73)).alloc (Obj.cells #[.slice none 0 0] 67)).alloc (Obj.cells #[Value.int IntKind.i64 0] 28)).alloc (Obj.cells #[.slice none 0 0] 67)).alloc (Obj.cells #[Value.string s, Value.int IntKind.i64 0, Value.int IntKind.i64 0] 134) := ⟨_, rfl⟩
  obtain ⟨q0, q1, q2, q3, q4, hn1, hb1⟩ := five w (Obj.cells #[fput, Value.func (Fn.func 76) #[] #[.pointer (some ⟨mb, 0, none⟩), .pointer (some ⟨cb, 0, none⟩)]] 73) (Obj.cells #[.slice none 0 0] 67) (Obj.cells #[Value.int IntKind.i64 0] 28) (Obj.cells #[.slice none 0 0] 67) (Obj.cells #[Value.string s, Value.int IntKind.i64 0, Value.int IntKind.i64 0] 134)
  rw [← hw1] at q0 q1 q2 q3 q4 hn1 hb1
  have hR1 : ROk w1 (w.heap.size + 1 + 1 + 1 + 1) s.data.toList := ⟨s, 0, ⟨q4, Nat.zero_le _, hsz⟩, rfl⟩
  have k1 : w1.cell? ⟨w.heap.size + 1, 0, none⟩ = some (.slice none 0 0) := by rw [cell_of_heap q1]; rfl
  have k2 : w1.cell? ⟨w.heap.size + 1 + 1, 0, none⟩ = some (.int .i64 0) := by rw [cell_of_heap q2]; rfl
  have k3 : w1.cell? ⟨w.heap.size + 1 + 1 + 1, 0, none⟩ = some (.slice none 0 0) := by rw [cell_of_heap q3]; rfl
  have z1 : w1.frozen? ⟨w.heap.size + 1, 0, none⟩ = false := frozen_of_heap q1 0
  have z2 : w1.frozen? ⟨w.heap.size + 1 + 1, 0, none⟩ = false := frozen_of_heap q2 0
  rw [← hw1]
  clear hw1
  refine (hin w1 _ (fun k hk => hb1.block k hk) (by omega) hR1).mono ?_
  rintro e w2 ⟨v, rfl, hv, h2, g2⟩
  have hv1 := hr1 _ _ _ hv
  have hvc := cells_one hv1
  unfold Value.cells at hvc
  obtain ⟨m1, f1⟩ := gcell g2 (b := w.heap.size + 1) (by omega) (by simp)
  obtain ⟨m2, f2⟩ := gcell g2 (b := w.heap.size + 1 + 1) (by omega) (by simp)
  have k4 := (m1 0).trans k1
  have k5 := (m2 0).trans k2
  have z3 := (f1 0).trans z1
  have z4 := (f2 0).trans z2
  have hl2 : w.heap.size + 1 + 1 + 1 + 1 < w2.heap.size := by have := g2.size; omega
  have p1 := (g2.block (w.heap.size + 1) (by omega) (by simp)).trans q1
  have p2 := (g2.block (w.heap.size + 1 + 1) (by omega) (by simp)).trans q2
  clear m1 m2 f1 f2 k1 k2 k3 z1 z2 q0 q1 q2 q3 q4
  have hst : ∀ (wx : World) (u : Value), wx.cell? ⟨w.heap.size + 1, 0, none⟩ = some u → wx.frozen? ⟨w.heap.size + 1, 0, none⟩ = false → (store ⟨w.heap.size + 1, 0, none⟩ v).run Try.prog wx = .ok () (wx.setCell ⟨w.heap.size + 1, 0, none⟩ v) := by
    intro wx u hu hz
    rw [run_store _ _ _ _ _ hv1, hu]
    simp [hz]
  have hst1 := hst w2 _ k4 z3
  have h3 := h2.grown (Lib.grownBy_setCell w2 (w.heap.size + 1) 0 v) (by simp; omega)
  have g3 := Lib.grownBy_setCell w2 (w.heap.size + 1) 0 v
  have hv3 := hs3 _ _ _ _ _ hv g3 (fun k hk _ => by simp at hk; subst hk; exact ⟨_, _, p1⟩)
  have p3 : (w2.setCell ⟨w.heap.size + 1, 0, none⟩ v).heap[w.heap.size + 1]? = some (.cells #[v] 67) := by rw [heap_setCell_at p1]; simp
  have p4 : (w2.setCell ⟨w.heap.size + 1, 0, none⟩ v).heap[w.heap.size + 1 + 1]? = some (.cells #[.int .i64 0] 28) := by rw [Below.heap_setCell _ _ _ _ (by simp)]; exact p2
  have hb3 : Below w.heap.size w (w2.setCell ⟨w.heap.size + 1, 0, none⟩ v) := (hb1.grown g2 (by omega) (fun k hk => by simp at hk; omega)).setCell (p := ⟨w.heap.size + 1, 0, none⟩) (by simp) _
  have hl3 : w.heap.size + 1 + 1 + 1 + 1 < (w2.setCell ⟨w.heap.size + 1, 0, none⟩ v).heap.size := by simpa [World.setCell] using hl2
  go_wp2_with fail
  clear hst1 k4 k5 z3 z4 p1 p2 hb1 hl2 g3 h2 g2 hv
  generalize w2.setCell ⟨w.heap.size + 1, 0, none⟩ v = wA at *
  refine (end_nil h3).mono ?_
  rintro e w4 ⟨rfl, h4, g4⟩
  obtain ⟨c2, cf, hlt4⟩ := h4.cells
  obtain ⟨s4, kk4, hr4, _⟩ := id h3
  have hv4 := hs1 _ _ _ _ _ hv3 g4 (fun k hk _ => by simp at hk; subst hk; exact ⟨_, _, hr4.1⟩)
  have p5 := (g4.block (w.heap.size + 1) (by omega) (by simp)).trans p3
  have p6 := (g4.block (w.heap.size + 1 + 1) (by omega) (by simp)).trans p4
  have k5 : w4.cell? ⟨w.heap.size + 1, 0, none⟩ = some v := by rw [cell_of_heap p5]; rfl
  have k6 : w4.cell? ⟨w.heap.size + 1 + 1, 0, none⟩ = some (.int .i64 0) := by rw [cell_of_heap p6]; rfl
  have z5 := frozen_of_heap p5 0
  have z6 := frozen_of_heap p6 0
  have hst4 := hst w4 _ k5 z5
  have g5 := Lib.grownBy_setCell w4 (w.heap.size + 1) 0 v
  have hv5 := hs3 _ _ _ _ _ hv4 g5 (fun k hk _ => by simp at hk; subst hk; exact ⟨_, _, p5⟩)
  have p7 : (w4.setCell ⟨w.heap.size + 1, 0, none⟩ v).heap[w.heap.size + 1 + 1]? = some (.cells #[.int .i64 0] 28) := by rw [Below.heap_setCell _ _ _ _ (by simp)]; exact p6
  have g6 := Lib.grownBy_setCell (w4.setCell ⟨w.heap.size + 1, 0, none⟩ v) (w.heap.size + 1 + 1) 0 (.int .i64 0)
  have hv6 := hs2 _ _ _ _ _ hv5 g6 (fun k hk _ => by simp at hk; subst hk; exact ⟨_, _, p7⟩)
  have hb6 : Below w.heap.size w ((w4.setCell ⟨w.heap.size + 1, 0, none⟩ v).setCell ⟨w.heap.size + 1 + 1, 0, none⟩ (.int .i64 0)) := ((hb3.grown g4 (by omega) (fun k hk => by simp at hk; omega)).setCell (p := ⟨w.heap.size + 1, 0, none⟩) (by simp) _).setCell (p := ⟨w.heap.size + 1 + 1, 0, none⟩) (by simp; omega) _
  have Hfin : Hid (rep ((w4.setCell ⟨w.heap.size + 1, 0, none⟩ v).setCell ⟨w.heap.size + 1 + 1, 0, none⟩ (.int .i64 0)) v a ∧ Below w.heap.size w ((w4.setCell ⟨w.heap.size + 1, 0, none⟩ v).setCell ⟨w.heap.size + 1 + 1, 0, none⟩ (.int .i64 0))) := ⟨hv6, hb6⟩
  clear hst p7 g6 hv6 hb6 g5 hv5 p5 p6 hv4 hr4 p3 p4
  go_wp2_with fail
  refine leaves_cons (f := 74) (args := #[.pointer (some ⟨w.heap.size + 1 + 1 + 1, 0, none⟩), .pointer (some ⟨w.heap.size + 1, 0, none⟩), .pointer (some ⟨w.heap.size + 1 + 1, 0, none⟩)]) (by simp) (by simp [go_sem]) ?_
  refine (idle74 _ _ _ _).mono ?_
  rintro e u' w5 ⟨rfl, rfl, rfl⟩
  have r1 : ((w4.setCell ⟨w.heap.size + 1, 0, none⟩ v).setCell ⟨w.heap.size + 1 + 1, 0, none⟩ (.int .i64 0)).cell? ⟨w.heap.size + 1, 0, none⟩ = some v := by go_simp
  have r2 : ((w4.setCell ⟨w.heap.size + 1, 0, none⟩ v).setCell ⟨w.heap.size + 1 + 1, 0, none⟩ (.int .i64 0)).cell? ⟨w.heap.size + 1 + 1, 0, none⟩ = some (.int .i64 0) := by go_simp
  simp [Leaves, settle, results, Try.results29, go_sem, r1, r2]
  exact Hfin.out

set_option maxRecDepth 100000 in
set_option maxHeartbeats 1000000 in
theorem decStrs_no {mb cb : Nat} {fput : Value} {s : ByteArray} {er : Int} {w : World} (hsz : (s.size : Int) ≤ 1099511627776) (her : er ≠ 0)
    (hin : ∀ w' r, Low w.heap.size w w' → w.heap.size ≤ r → ROk w' r s.data.toList → Calls Try.prog 76 #[.pointer (some ⟨r, 0, none⟩), .pointer (some ⟨mb, 0, none⟩), .pointer (some ⟨cb, 0, none⟩)] w' fun e w2 => ∃ v, e = .returned v ∧ v.oneCell' = true ∧ Fell w2 r er ∧ w'.grownBy w2 (some r)) :
    Calls Try.prog 29 #[.agg #[fput, .func (.func 76) #[] #[.pointer (some ⟨mb, 0, none⟩), .pointer (some ⟨cb, 0, none⟩)]], .string s] w fun e w' => e = .returned (.tuple #[.slice none 0 0, .int .i64 er]) ∧ Below w.heap.size w w' := by
  have hmf : ∀ (fn : Fn) (first cap : Array Value) (w : World), (Instr.makeFunc fn first cap).run Try.prog w = .ok (.func fn first cap) w := fun _ _ _ _ => rfl
  go_enter_defers Try.func29, Try.ntmps29
  go_wp2_with fail
  obtain ⟨w1, hw1⟩ : ∃ w1, w1 = ((((w.alloc (Obj.cells #[fput, Value.func (Fn.func 76) #[] #[.pointer (some ⟨mb, 0, none⟩), .pointer (some ⟨cb, 0, none⟩)]] 73)).alloc (Obj.cells #[.slice none 0 0] 67)).alloc (Obj.cells #[Value.int IntKind.i64 0] 28)).alloc (Obj.cells #[.slice none 0 0] 67)).alloc (Obj.cells #[Value.string s, Value.int IntKind.i64 0, Value.int IntKind.i64 0] 134) := ⟨_, rfl⟩
  obtain ⟨q0, q1, q2, q3, q4, hn1, hb1⟩ := five w (Obj.cells #[fput, Value.func (Fn.func 76) #[] #[.pointer (some ⟨mb, 0, none⟩), .pointer (some ⟨cb, 0, none⟩)]] 73) (Obj.cells #[.slice none 0 0] 67) (Obj.cells #[Value.int IntKind.i64 0] 28) (Obj.cells #[.slice none 0 0] 67) (Obj.cells #[Value.string s, Value.int IntKind.i64 0, Value.int IntKind.i64 0] 134)
  rw [← hw1] at q0 q1 q2 q3 q4 hn1 hb1
  have hR1 : ROk w1 (w.heap.size + 1 + 1 + 1 + 1) s.data.toList := ⟨s, 0, ⟨q4, Nat.zero_le _, hsz⟩, rfl⟩
  have k1 : w1.cell? ⟨w.heap.size + 1, 0, none⟩ = some (.slice none 0 0) := by rw [cell_of_heap q1]; rfl
  have k2 : w1.cell? ⟨w.heap.size + 1 + 1, 0, none⟩ = some (.int .i64 0) := by rw [cell_of_heap q2]; rfl
  have k3 : w1.cell? ⟨w.heap.size + 1 + 1 + 1, 0, none⟩ = some (.slice none 0 0) := by rw [cell_of_heap q3]; rfl
  have z1 : w1.frozen? ⟨w.heap.size + 1, 0, none⟩ = false := frozen_of_heap q1 0
  have z2 : w1.frozen? ⟨w.heap.size + 1 + 1, 0, none⟩ = false := frozen_of_heap q2 0
  rw [← hw1]
  clear hw1
  refine (hin w1 _ (fun k hk => hb1.block k hk) (by omega) hR1).mono ?_
  rintro e w2 ⟨v, rfl, hv1, h2, g2⟩
  have hvc := cells_one hv1
  unfold Value.cells at hvc
  obtain ⟨m1, f1⟩ := gcell g2 (b := w.heap.size + 1) (by omega) (by simp)
  have k4 := (m1 0).trans k1
  have z3 := (f1 0).trans z1
  have hl2 : w.heap.size + 1 + 1 + 1 + 1 < w2.heap.size := by have := g2.size; omega
  have p1 := (g2.block (w.heap.size + 1) (by omega) (by simp)).trans q1
  have p2 := (g2.block (w.heap.size + 1 + 1) (by omega) (by simp)).trans q2
  have p2b := (g2.block (w.heap.size + 1 + 1 + 1) (by omega) (by simp)).trans q3
  clear m1 f1 k1 k2 k3 z1 z2 q0 q1 q2 q3 q4
  have hst1 : (store ⟨w.heap.size + 1, 0, none⟩ v).run Try.prog w2 = .ok () (w2.setCell ⟨w.heap.size + 1, 0, none⟩ v) := by
    rw [run_store _ _ _ _ _ hv1, k4]
    simp [z3]
  have h3 := h2.grown (Lib.grownBy_setCell w2 (w.heap.size + 1) 0 v) (by simp; omega)
  have p3 : (w2.setCell ⟨w.heap.size + 1, 0, none⟩ v).heap[w.heap.size + 1]? = some (.cells #[v] 67) := by rw [heap_setCell_at p1]; simp
  have p4 : (w2.setCell ⟨w.heap.size + 1, 0, none⟩ v).heap[w.heap.size + 1 + 1]? = some (.cells #[.int .i64 0] 28) := by rw [Below.heap_setCell _ _ _ _ (by simp)]; exact p2
  have p4b : (w2.setCell ⟨w.heap.size + 1, 0, none⟩ v).heap[w.heap.size + 1 + 1 + 1]? = some (.cells #[.slice none 0 0] 67) := by rw [Below.heap_setCell _ _ _ _ (by simp; omega)]; exact p2b
  have hb3 : Below w.heap.size w (w2.setCell ⟨w.heap.size + 1, 0, none⟩ v) := (hb1.grown g2 (by omega) (fun k hk => by simp at hk; omega)).setCell (p := ⟨w.heap.size + 1, 0, none⟩) (by simp) _
  have hl3 : w.heap.size + 1 + 1 + 1 + 1 < (w2.setCell ⟨w.heap.size + 1, 0, none⟩ v).heap.size := by simpa [World.setCell] using hl2
  go_wp2_with fail
  clear hst1 k4 z3 p1 p2 p2b hb1 hl2 h2 g2 hvc
  generalize w2.setCell ⟨w.heap.size + 1, 0, none⟩ v = wA at *
  refine (end_fell h3 her).mono ?_
  rintro e w4 ⟨rfl, h4, g4⟩
  obtain ⟨c2, cf, hlt4⟩ := h4.cells
  have p5 := (g4.block (w.heap.size + 1) (by omega) (by simp)).trans p3
  have p6 := (g4.block (w.heap.size + 1 + 1) (by omega) (by simp)).trans p4
  have p6b := (g4.block (w.heap.size + 1 + 1 + 1) (by omega) (by simp)).trans p4b
  have k5 : w4.cell? ⟨w.heap.size + 1, 0, none⟩ = some v := by rw [cell_of_heap p5]; rfl
  have k6 : w4.cell? ⟨w.heap.size + 1 + 1, 0, none⟩ = some (.int .i64 0) := by rw [cell_of_heap p6]; rfl
  have k7 : w4.cell? ⟨w.heap.size + 1 + 1 + 1, 0, none⟩ = some (.slice none 0 0) := by rw [cell_of_heap p6b]; rfl
  have z5 := frozen_of_heap p5 0
  have z6 := frozen_of_heap p6 0
  have hb6 := hb3.grown g4 (by omega) (fun k hk => by simp at hk; omega)
  have hne : (er != 0) = true := by simpa using her
  clear p5 p6 p6b p3 p4 p4b
  go_wp2_with fail
  go_region
  all_goals
    go_wp2_with fail
    refine leaves_cons (f := 74) (args := #[.pointer (some ⟨w.heap.size + 1 + 1 + 1, 0, none⟩), .pointer (some ⟨w.heap.size + 1, 0, none⟩), .pointer (some ⟨w.heap.size + 1 + 1, 0, none⟩)]) (by simp) (by simp [go_sem]) ?_
    refine (idle74 _ _ _ _).mono ?_
    rintro e u' w5 ⟨rfl, rfl, rfl⟩
    have r1 : ((w4.setCell ⟨w.heap.size + 1, 0, none⟩ (.slice none 0 0)).setCell ⟨w.heap.size + 1 + 1, 0, none⟩ (.int .i64 er)).cell? ⟨w.heap.size + 1, 0, none⟩ = some (.slice none 0 0) := by go_simp
    have r2 : ((w4.setCell ⟨w.heap.size + 1, 0, none⟩ (.slice none 0 0)).setCell ⟨w.heap.size + 1 + 1, 0, none⟩ (.int .i64 er)).cell? ⟨w.heap.size + 1 + 1, 0, none⟩ = some (.int .i64 er) := by go_simp
    simp [Leaves, settle, results, Try.results29, go_sem, r1, r2]
    exact ((hb6.setCell (p := ⟨w.heap.size + 1, 0, none⟩) (by simp) _).setCell (p := ⟨w.heap.size + 1 + 1, 0, none⟩) (by simp; omega) _).drew

theorem idle79 (a b c : Nat) (w : World) :
    CallsD Try.prog 79 #[.pointer (some ⟨a, 0, none⟩), .pointer (some ⟨b, 0, none⟩), .pointer (some ⟨c, 0, none⟩)] .returning w fun e u' w' => e = .returned (.tuple #[]) ∧ u' = .returning ∧ w' = w := by
  refine callsD_of_wpS Try.func79 rfl fun c₀ cs hu => ?_
  apply wpS_seq
  apply wpS_region
  simp [wpOpsS, go_sem, recoverD, hu, Try.ntmps79, Exit.thenS]
  refine wpS_cond (t := false) (by simp [Act.eval, Array.replicate]) ?_
  simp only [Bool.false_eq_true, if_false]
  refine wpS_of_wp (wp_skip ?_)
  cases c₀
  simp_all [bodyPostS, results, Try.results79]

set_option maxRecDepth 100000 in
set_option maxHeartbeats 1000000 in
theorem decStrss_ok {α : Type} {mb cb : Nat} {rep : World → Value → α → Prop} {fput : Value} {s : ByteArray} {a : α} {w : World} (hsz : (s.size : Int) ≤ 1099511627776) (hr1 : ∀ w v a, rep w v a → v.oneCell' = true) (hs1 : Stable rep 134) (hs2 : Stable rep 28) (hs3 : Stable rep 84)
    (hin : ∀ w' r, Low w.heap.size w w' → w.heap.size ≤ r → ROk w' r s.data.toList → Calls Try.prog 78 #[.pointer (some ⟨r, 0, none⟩), .pointer (some ⟨mb, 0, none⟩), .pointer (some ⟨cb, 0, none⟩)] w' fun e w2 => ∃ v, e = .returned v ∧ rep w2 v a ∧ ROk w2 r [] ∧ w'.grownBy w2 (some r)) :
    Calls Try.prog 34 #[.agg #[fput, .func (.func 78) #[] #[.pointer (some ⟨mb, 0, none⟩), .pointer (some ⟨cb, 0, none⟩)]], .string s] w fun e w' => (∃ v, e = .returned (.tuple #[v, .int .i64 0]) ∧ rep w' v a) ∧ Below w.heap.size w w' := by
  have hmf : ∀ (fn : Fn) (first cap : Array Value) (w : World), (Instr.makeFunc fn first cap).run Try.prog w = .ok (.func fn first cap) w := fun _ _ _ _ => rfl
  go_enter_defers Try.func34, Try.ntmps34
  go_wp2_with fail
  obtain ⟨w1, hw1⟩ : ∃ w1, w1 = ((((w.alloc (Obj.cells #[fput, Value.func (Fn.func 78) #[] #[.pointer (some ⟨mb, 0, none⟩), .pointer (some ⟨cb, 0, none⟩)]] 82)).alloc (Obj.cells #[.slice none 0 0] 84)).alloc (Obj.cells #[Value.int IntKind.i64 0] 28)).alloc (Obj.cells #[.slice none 0 0] 84)).alloc (Obj.cells #[Value.string s, Value.int IntKind.i64 0, Value.int IntKind.i64 0] 134) := ⟨_, rfl⟩
  obtain ⟨q0, q1, q2, q3, q4, hn1, hb1⟩ := five w (Obj.cells #[fput, Value.func (Fn.func 78) #[] #[.pointer (some ⟨mb, 0, none⟩), .pointer (some ⟨cb, 0, none⟩)]] 82) (Obj.cells #[.slice none 0 0] 84) (Obj.cells #[Value.int IntKind.i64 0] 28) (Obj.cells #[.slice none 0 0] 84) (Obj.cells #[Value.string s, Value.int IntKind.i64 0, Value.int IntKind.i64 0] 134)
  rw [← hw1] at q0 q1 q2 q3 q4 hn1 hb1
  have hR1 : ROk w1 (w.heap.size + 1 + 1 + 1 + 1) s.data.toList := ⟨s, 0, ⟨q4, Nat.zero_le _, hsz⟩, rfl⟩
  have k1 : w1.cell? ⟨w.heap.size + 1, 0, none⟩ = some (.slice none 0 0) := by rw [cell_of_heap q1]; rfl
  have k2 : w1.cell? ⟨w.heap.size + 1 + 1, 0, none⟩ = some (.int .i64 0) := by rw [cell_of_heap q2]; rfl
  have k3 : w1.cell? ⟨w.heap.size + 1 + 1 + 1, 0, none⟩ = some (.slice none 0 0) := by rw [cell_of_heap q3]; rfl
  have z1 : w1.frozen? ⟨w.heap.size + 1, 0, none⟩ = false := frozen_of_heap q1 0
  have z2 : w1.frozen? ⟨w.heap.size + 1 + 1, 0, none⟩ = false := frozen_of_heap q2 0
  rw [← hw1]
  clear hw1
  refine (hin w1 _ (fun k hk => hb1.block k hk) (by omega) hR1).mono ?_
  rintro e w2 ⟨v, rfl, hv, h2, g2⟩
  have hv1 := hr1 _ _ _ hv
  have hvc := cells_one hv1
  unfold Value.cells at hvc
  obtain ⟨m1, f1⟩ := gcell g2 (b := w.heap.size + 1) (by omega) (by simp)
  obtain ⟨m2, f2⟩ := gcell g2 (b := w.heap.size + 1 + 1) (by omega) (by simp)
  have k4 := (m1 0).trans k1
  have k5 := (m2 0).trans k2
  have z3 := (f1 0).trans z1
  have z4 := (f2 0).trans z2
  have hl2 : w.heap.size + 1 + 1 + 1 + 1 < w2.heap.size := by have := g2.size; omega
  have p1 := (g2.block (w.heap.size + 1) (by omega) (by simp)).trans q1
  have p2 := (g2.block (w.heap.size + 1 + 1) (by omega) (by simp)).trans q2
  clear m1 m2 f1 f2 k1 k2 k3 z1 z2 q0 q1 q2 q3 q4
  have hst : ∀ (wx : World) (u : Value), wx.cell? ⟨w.heap.size + 1, 0, none⟩ = some u → wx.frozen? ⟨w.heap.size + 1, 0, none⟩ = false → (store ⟨w.heap.size + 1, 0, none⟩ v).run Try.prog wx = .ok () (wx.setCell ⟨w.heap.size + 1, 0, none⟩ v) := by
    intro wx u hu hz
    rw [run_store _ _ _ _ _ hv1, hu]
    simp [hz]
  have hst1 := hst w2 _ k4 z3
  have h3 := h2.grown (Lib.grownBy_setCell w2 (w.heap.size + 1) 0 v) (by simp; omega)
  have g3 := Lib.grownBy_setCell w2 (w.heap.size + 1) 0 v
  have hv3 := hs3 _ _ _ _ _ hv g3 (fun k hk _ => by simp at hk; subst hk; exact ⟨_, _, p1⟩)
  have p3 : (w2.setCell ⟨w.heap.size + 1, 0, none⟩ v).heap[w.heap.size + 1]? = some (.cells #[v] 84) := by rw [heap_setCell_at p1]; simp
  have p4 : (w2.setCell ⟨w.heap.size + 1, 0, none⟩ v).heap[w.heap.size + 1 + 1]? = some (.cells #[.int .i64 0] 28) := by rw [Below.heap_setCell _ _ _ _ (by simp)]; exact p2
  have hb3 : Below w.heap.size w (w2.setCell ⟨w.heap.size + 1, 0, none⟩ v) := (hb1.grown g2 (by omega) (fun k hk => by simp at hk; omega)).setCell (p := ⟨w.heap.size + 1, 0, none⟩) (by simp) _
  have hl3 : w.heap.size + 1 + 1 + 1 + 1 < (w2.setCell ⟨w.heap.size + 1, 0, none⟩ v).heap.size := by simpa [World.setCell] using hl2
  go_wp2_with fail
  clear hst1 k4 k5 z3 z4 p1 p2 hb1 hl2 g3 h2 g2 hv
  generalize w2.setCell ⟨w.heap.size + 1, 0, none⟩ v = wA at *
  refine (end_nil h3).mono ?_
  rintro e w4 ⟨rfl, h4, g4⟩
  obtain ⟨c2, cf, hlt4⟩ := h4.cells
  obtain ⟨s4, kk4, hr4, _⟩ := id h3
  have hv4 := hs1 _ _ _ _ _ hv3 g4 (fun k hk _ => by simp at hk; subst hk; exact ⟨_, _, hr4.1⟩)
  have p5 := (g4.block (w.heap.size + 1) (by omega) (by simp)).trans p3
  have p6 := (g4.block (w.heap.size + 1 + 1) (by omega) (by simp)).trans p4
  have k5 : w4.cell? ⟨w.heap.size + 1, 0, none⟩ = some v := by rw [cell_of_heap p5]; rfl
  have k6 : w4.cell? ⟨w.heap.size + 1 + 1, 0, none⟩ = some (.int .i64 0) := by rw [cell_of_heap p6]; rfl
  have z5 := frozen_of_heap p5 0
  have z6 := frozen_of_heap p6 0
  have hst4 := hst w4 _ k5 z5
  have g5 := Lib.grownBy_setCell w4 (w.heap.size + 1) 0 v
  have hv5 := hs3 _ _ _ _ _ hv4 g5 (fun k hk _ => by simp at hk; subst hk; exact ⟨_, _, p5⟩)
  have p7 : (w4.setCell ⟨w.heap.size + 1, 0, none⟩ v).heap[w.heap.size + 1 + 1]? = some (.cells #[.int .i64 0] 28) := by rw [Below.heap_setCell _ _ _ _ (by simp)]; exact p6
  have g6 := Lib.grownBy_setCell (w4.setCell ⟨w.heap.size + 1, 0, none⟩ v) (w.heap.size + 1 + 1) 0 (.int .i64 0)
  have hv6 := hs2 _ _ _ _ _ hv5 g6 (fun k hk _ => by simp at hk; subst hk; exact ⟨_, _, p7⟩)
  have hb6 : Below w.heap.size w ((w4.setCell ⟨w.heap.size + 1, 0, none⟩ v).setCell ⟨w.heap.size + 1 + 1, 0, none⟩ (.int .i64 0)) := ((hb3.grown g4 (by omega) (fun k hk => by simp at hk; omega)).setCell (p := ⟨w.heap.size + 1, 0, none⟩) (by simp) _).setCell (p := ⟨w.heap.size + 1 + 1, 0, none⟩) (by simp; omega) _
  have Hfin : Hid (rep ((w4.setCell ⟨w.heap.size + 1, 0, none⟩ v).setCell ⟨w.heap.size + 1 + 1, 0, none⟩ (.int .i64 0)) v a ∧ Below w.heap.size w ((w4.setCell ⟨w.heap.size + 1, 0, none⟩ v).setCell ⟨w.heap.size + 1 + 1, 0, none⟩ (.int .i64 0))) := ⟨hv6, hb6⟩
  clear hst p7 g6 hv6 hb6 g5 hv5 p5 p6 hv4 hr4 p3 p4
  go_wp2_with fail
  refine leaves_cons (f := 79) (args := #[.pointer (some ⟨w.heap.size + 1 + 1 + 1, 0, none⟩), .pointer (some ⟨w.heap.size + 1, 0, none⟩), .pointer (some ⟨w.heap.size + 1 + 1, 0, none⟩)]) (by simp) (by simp [go_sem]) ?_
  refine (idle79 _ _ _ _).mono ?_
  rintro e u' w5 ⟨rfl, rfl, rfl⟩
  have r1 : ((w4.setCell ⟨w.heap.size + 1, 0, none⟩ v).setCell ⟨w.heap.size + 1 + 1, 0, none⟩ (.int .i64 0)).cell? ⟨w.heap.size + 1, 0, none⟩ = some v := by go_simp
  have r2 : ((w4.setCell ⟨w.heap.size + 1, 0, none⟩ v).setCell ⟨w.heap.size + 1 + 1, 0, none⟩ (.int .i64 0)).cell? ⟨w.heap.size + 1 + 1, 0, none⟩ = some (.int .i64 0) := by go_simp
  simp [Leaves, settle, results, Try.results34, go_sem, r1, r2]
  exact Hfin.out

set_option maxRecDepth 100000 in
set_option maxHeartbeats 1000000 in
theorem decStrss_no {mb cb : Nat} {fput : Value} {s : ByteArray} {er : Int} {w : World} (hsz : (s.size : Int) ≤ 1099511627776) (her : er ≠ 0)
    (hin : ∀ w' r, Low w.heap.size w w' → w.heap.size ≤ r → ROk w' r s.data.toList → Calls Try.prog 78 #[.pointer (some ⟨r, 0, none⟩), .pointer (some ⟨mb, 0, none⟩), .pointer (some ⟨cb, 0, none⟩)] w' fun e w2 => ∃ v, e = .returned v ∧ v.oneCell' = true ∧ Fell w2 r er ∧ w'.grownBy w2 (some r)) :
    Calls Try.prog 34 #[.agg #[fput, .func (.func 78) #[] #[.pointer (some ⟨mb, 0, none⟩), .pointer (some ⟨cb, 0, none⟩)]], .string s] w fun e w' => e = .returned (.tuple #[.slice none 0 0, .int .i64 er]) ∧ Below w.heap.size w w' := by
  have hmf : ∀ (fn : Fn) (first cap : Array Value) (w : World), (Instr.makeFunc fn first cap).run Try.prog w = .ok (.func fn first cap) w := fun _ _ _ _ => rfl
  go_enter_defers Try.func34, Try.ntmps34
  go_wp2_with fail
  obtain ⟨w1, hw1⟩ : ∃ w1, w1 = ((((w.alloc (Obj.cells #[fput, Value.func (Fn.func 78) #[] #[.pointer (some ⟨mb, 0, none⟩), .pointer (some ⟨cb, 0, none⟩)]] 82)).alloc (Obj.cells #[.slice none 0 0] 84)).alloc (Obj.cells #[Value.int IntKind.i64 0] 28)).alloc (Obj.cells #[.slice none 0 0] 84)).alloc (Obj.cells #[Value.string s, Value.int IntKind.i64 0, Value.int IntKind.i64 0] 134) := ⟨_, rfl⟩
  obtain ⟨q0, q1, q2, q3, q4, hn1, hb1⟩ := five w (Obj.cells #[fput, Value.func (Fn.func 78) #[] #[.pointer (some ⟨mb, 0, none⟩), .pointer (some ⟨cb, 0, none⟩)]] 82) (Obj.cells #[.slice none 0 0] 84) (Obj.cells #[Value.int IntKind.i64 0] 28) (Obj.cells #[.slice none 0 0] 84) (Obj.cells #[Value.string s, Value.int IntKind.i64 0, Value.int IntKind.i64 0] 134)
  rw [← hw1] at q0 q1 q2 q3 q4 hn1 hb1
  have hR1 : ROk w1 (w.heap.size + 1 + 1 + 1 + 1) s.data.toList := ⟨s, 0, ⟨q4, Nat.zero_le _, hsz⟩, rfl⟩
  have k1 : w1.cell? ⟨w.heap.size + 1, 0, none⟩ = some (.slice none 0 0) := by rw [cell_of_heap q1]; rfl
  have k2 : w1.cell? ⟨w.heap.size + 1 + 1, 0, none⟩ = some (.int .i64 0) := by rw [cell_of_heap q2]; rfl
  have k3 : w1.cell? ⟨w.heap.size + 1 + 1 + 1, 0, none⟩ = some (.slice none 0 0) := by rw [cell_of_heap q3]; rfl
  have z1 : w1.frozen? ⟨w.heap.size + 1, 0, none⟩ = false := frozen_of_heap q1 0
  have z2 : w1.frozen? ⟨w.heap.size + 1 + 1, 0, none⟩ = false := frozen_of_heap q2 0
  rw [← hw1]
  clear hw1
  refine (hin w1 _ (fun k hk => hb1.block k hk) (by omega) hR1).mono ?_
  rintro e w2 ⟨v, rfl, hv1, h2, g2⟩
  have hvc := cells_one hv1
  unfold Value.cells at hvc
  obtain ⟨m1, f1⟩ := gcell g2 (b := w.heap.size + 1) (by omega) (by simp)
  have k4 := (m1 0).trans k1
  have z3 := (f1 0).trans z1
  have hl2 : w.heap.size + 1 + 1 + 1 + 1 < w2.heap.size := by have := g2.size; omega
  have p1 := (g2.block (w.heap.size + 1) (by omega) (by simp)).trans q1
  have p2 := (g2.block (w.heap.size + 1 + 1) (by omega) (by simp)).trans q2
  have p2b := (g2.block (w.heap.size + 1 + 1 + 1) (by omega) (by simp)).trans q3
  clear m1 f1 k1 k2 k3 z1 z2 q0 q1 q2 q3 q4
  have hst1 : (store ⟨w.heap.size + 1, 0, none⟩ v).run Try.prog w2 = .ok () (w2.setCell ⟨w.heap.size + 1, 0, none⟩ v) := by
    rw [run_store _ _ _ _ _ hv1, k4]
    simp [z3]
  have h3 := h2.grown (Lib.grownBy_setCell w2 (w.heap.size + 1) 0 v) (by simp; omega)
  have p3 : (w2.setCell ⟨w.heap.size + 1, 0, none⟩ v).heap[w.heap.size + 1]? = some (.cells #[v] 84) := by rw [heap_setCell_at p1]; simp
  have p4 : (w2.setCell ⟨w.heap.size + 1, 0, none⟩ v).heap[w.heap.size + 1 + 1]? = some (.cells #[.int .i64 0] 28) := by rw [Below.heap_setCell _ _ _ _ (by simp)]; exact p2
  have p4b : (w2.setCell ⟨w.heap.size + 1, 0, none⟩ v).heap[w.heap.size + 1 + 1 + 1]? = some (.cells #[.slice none 0 0] 84) := by rw [Below.heap_setCell _ _ _ _ (by simp; omega)]; exact p2b
  have hb3 : Below w.heap.size w (w2.setCell ⟨w.heap.size + 1, 0, none⟩ v) := (hb1.grown g2 (by omega) (fun k hk => by simp at hk; omega)).setCell (p := ⟨w.heap.size + 1, 0, none⟩) (by simp) _
  have hl3 : w.heap.size + 1 + 1 + 1 + 1 < (w2.setCell ⟨w.heap.size + 1, 0, none⟩ v).heap.size := by simpa [World.setCell] using hl2
  go_wp2_with fail
  clear hst1 k4 z3 p1 p2 p2b hb1 hl2 h2 g2 hvc
  generalize w2.setCell ⟨w.heap.size + 1, 0, none⟩ v = wA at *
  refine (end_fell h3 her).mono ?_
  rintro e w4 ⟨rfl, h4, g4⟩
  obtain ⟨c2, cf, hlt4⟩ := h4.cells
  have p5 := (g4.block (w.heap.size + 1) (by omega) (by simp)).trans p3
  have p6 := (g4.block (w.heap.size + 1 + 1) (by omega) (by simp)).trans p4
  have p6b := (g4.block (w.heap.size + 1 + 1 + 1) (by omega) (by simp)).trans p4b
  have k5 : w4.cell? ⟨w.heap.size + 1, 0, none⟩ = some v := by rw [cell_of_heap p5]; rfl
  have k6 : w4.cell? ⟨w.heap.size + 1 + 1, 0, none⟩ = some (.int .i64 0) := by rw [cell_of_heap p6]; rfl
  have k7 : w4.cell? ⟨w.heap.size + 1 + 1 + 1, 0, none⟩ = some (.slice none 0 0) := by rw [cell_of_heap p6b]; rfl
  have z5 := frozen_of_heap p5 0
  have z6 := frozen_of_heap p6 0
  have hb6 := hb3.grown g4 (by omega) (fun k hk => by simp at hk; omega)
  have hne : (er != 0) = true := by simpa using her
  clear p5 p6 p6b p3 p4 p4b
  go_wp2_with fail
  go_region
  all_goals
    go_wp2_with fail
    refine leaves_cons (f := 79) (args := #[.pointer (some ⟨w.heap.size + 1 + 1 + 1, 0, none⟩), .pointer (some ⟨w.heap.size + 1, 0, none⟩), .pointer (some ⟨w.heap.size + 1 + 1, 0, none⟩)]) (by simp) (by simp [go_sem]) ?_
    refine (idle79 _ _ _ _).mono ?_
    rintro e u' w5 ⟨rfl, rfl, rfl⟩
    have r1 : ((w4.setCell ⟨w.heap.size + 1, 0, none⟩ (.slice none 0 0)).setCell ⟨w.heap.size + 1 + 1, 0, none⟩ (.int .i64 er)).cell? ⟨w.heap.size + 1, 0, none⟩ = some (.slice none 0 0) := by go_simp
    have r2 : ((w4.setCell ⟨w.heap.size + 1, 0, none⟩ (.slice none 0 0)).setCell ⟨w.heap.size + 1 + 1, 0, none⟩ (.int .i64 er)).cell? ⟨w.heap.size + 1 + 1, 0, none⟩ = some (.int .i64 er) := by go_simp
    simp [Leaves, settle, results, Try.results34, go_sem, r1, r2]
    exact ((hb6.setCell (p := ⟨w.heap.size + 1, 0, none⟩) (by simp) _).setCell (p := ⟨w.heap.size + 1 + 1, 0, none⟩) (by simp; omega) _).drew

end Go.Proofs.Ytjajgllkbchapaa
