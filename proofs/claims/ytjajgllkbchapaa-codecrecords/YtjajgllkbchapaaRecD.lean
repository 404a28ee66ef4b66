/-
  Decode of a record.
-/
import Derived.Test.YtjajgllkbchapaaRecH
import Derived.Test.YtjajgllkbchapaaRecE
namespace Go.Proofs.Ytjajgllkbchapaa
open Go.RowKit
set_option linter.unusedSimpArgs false
set_option linter.unusedVariables false

theorem idle100 (a b c : Nat) (w : World) :
    CallsD Try.prog 100 #[.pointer (some ⟨a, 0, none⟩), .pointer (some ⟨b, 0, none⟩), .pointer (some ⟨c, 0, none⟩)] .returning w fun e u' w' => e = .returned (.tuple #[]) ∧ u' = .returning ∧ w' = w := by
  refine callsD_of_wpS Try.func100 rfl fun c₀ cs hu => ?_
  apply wpS_seq
  apply wpS_region
  simp [wpOpsS, go_sem, recoverD, hu, Try.ntmps100, Exit.thenS]
  refine wpS_cond (t := false) (by simp [Act.eval, Array.replicate]) ?_
  simp only [Bool.false_eq_true, if_false]
  refine wpS_of_wp (wp_skip ?_)
  cases c₀
  simp_all [bodyPostS, results, Try.results100]


set_option maxRecDepth 100000 in
set_option maxHeartbeats 2000000 in
theorem decRec_ok {pb : Nat} {fput : Value} {s S : ByteArray} {n : Nat} {L : List Nat} {F : Bool} {w : World} (hsz : (s.size : Int) ≤ 1099511627776)
    (hin : ∀ w' r, Low w.heap.size w w' → w.heap.size ≤ r → ROk w' r s.data.toList → Calls Try.prog 89 #[.pointer (some ⟨r, 0, none⟩), .pointer (some ⟨pb, 0, none⟩)] w' fun e w2 => ∃ vL, e = .returned (.agg #[.int .i64 n, .string S, vL, .bool F]) ∧ Row isNat 3 0 w2 vL L ∧ ROk w2 r [] ∧ w'.grownBy w2 (some r)) :
    Calls Try.prog 52 #[.agg #[fput, .func (.func 89) #[] #[.pointer (some ⟨pb, 0, none⟩)]], .string s] w fun e w' => (∃ vL, e = .returned (.tuple #[.agg #[.int .i64 n, .string S, vL, .bool F], .int .i64 0]) ∧ Row isNat 3 0 w' vL L) ∧ Below w.heap.size w w' := by
  have hmf : ∀ (fn : Fn) (first cap : Array Value) (w : World), (Instr.makeFunc fn first cap).run Try.prog w = .ok (.func fn first cap) w := fun _ _ _ _ => rfl
  go_enter_defers Try.func52, Try.ntmps52
  go_wp2_with fail
  obtain ⟨w1, hw1⟩ : ∃ w1, w1 = ((((w.alloc (Obj.cells #[fput, Value.func (Fn.func 89) #[] #[.pointer (some ⟨pb, 0, none⟩)]] 107)).alloc (Obj.cells #[.int .i64 0, .string ⟨#[]⟩, .slice none 0 0, .bool false] 103)).alloc (Obj.cells #[Value.int IntKind.i64 0] 28)).alloc (Obj.cells #[.int .i64 0, .string ⟨#[]⟩, .slice none 0 0, .bool false] 103)).alloc (Obj.cells #[Value.string s, Value.int IntKind.i64 0, Value.int IntKind.i64 0] 134) := ⟨_, rfl⟩
  obtain ⟨q0, q1, q2, q3, q4, hn1, hb1⟩ := five w (Obj.cells #[fput, Value.func (Fn.func 89) #[] #[.pointer (some ⟨pb, 0, none⟩)]] 107) (Obj.cells #[.int .i64 0, .string ⟨#[]⟩, .slice none 0 0, .bool false] 103) (Obj.cells #[Value.int IntKind.i64 0] 28) (Obj.cells #[.int .i64 0, .string ⟨#[]⟩, .slice none 0 0, .bool false] 103) (Obj.cells #[Value.string s, Value.int IntKind.i64 0, Value.int IntKind.i64 0] 134)
  rw [← hw1] at q0 q1 q2 q3 q4 hn1 hb1
  have hR1 : ROk w1 (w.heap.size + 1 + 1 + 1 + 1) s.data.toList := ⟨s, 0, ⟨q4, Nat.zero_le _, hsz⟩, rfl⟩
  rw [← hw1]
  clear hw1
  refine (hin w1 _ (fun k hk => hb1.block k hk) (by omega) hR1).mono ?_
  rintro e w2 ⟨vL, rfl, hv, h2, g2⟩
  obtain ⟨av, nv, cv, hvL⟩ : ∃ a n c, vL = .slice a n c := by obtain ⟨vs, ho, _, _⟩ := id hv; obtain ⟨a, c, e⟩ := ownsRow_form ho; exact ⟨a, _, c, e⟩
  subst hvL
  have hl2 : w.heap.size + 1 + 1 + 1 + 1 < w2.heap.size := by have := g2.size; omega
  have p1 := (g2.block (w.heap.size + 1) (by omega) (by simp)).trans q1
  have p2 := (g2.block (w.heap.size + 1 + 1) (by omega) (by simp)).trans q2
  have x0 := cell_of_heap p1 0
  have x1 := cell_of_heap p1 1
  have x2 := cell_of_heap p1 2
  have x3 := cell_of_heap p1 3
  simp at x0 x1 x2 x3
  have xf := frozen_of_heap p1
  obtain ⟨gs, p3⟩ := set_four p1 (.int .i64 n) (.string S) (.slice av nv cv) (.bool F)
  have hv3 := hv.keep (T := 103) (stable_nat 103) gs (fun x hx _ => by simp at hx; subst hx; exact ⟨_, _, p1⟩) (by decide)
  have h3 := h2.grown gs (by simp; omega)
  have p4 := (gs.block (w.heap.size + 1 + 1) (by omega) (by simp)).trans p2
  have hb3 := (hb1.grown g2 (by omega) (fun k hk => by simp at hk; omega)).grown gs (by omega) (fun k hk => by simp at hk; omega)
  have hl3 := Nat.lt_of_lt_of_le hl2 gs.size
  go_wp2_with fail
  clear x0 x1 x2 x3 xf p1 p2 hb1 hl2 h2 g2 hv gs
  generalize (((((((w2.setCell ⟨w.heap.size + 1, 0, none⟩ (.int .i64 n))).setCell ⟨w.heap.size + 1, 1, none⟩ (.string S))).setCell ⟨w.heap.size + 1, 2, none⟩ (.slice av nv cv))).setCell ⟨w.heap.size + 1, 3, none⟩ (.bool F)) = wA at *
  refine (end_nil h3).mono ?_
  rintro e w4 ⟨rfl, h4, g4⟩
  obtain ⟨c2, cf, hlt4⟩ := h4.cells
  obtain ⟨s4, kk4, hr4, _⟩ := id h3
  have hv4 := hv3.keep (T := 134) (stable_nat 134) g4 (fun k hk _ => by simp at hk; subst hk; exact ⟨_, _, hr4.1⟩) (by decide)
  have p5 := (g4.block (w.heap.size + 1) (by omega) (by simp)).trans p3
  have p6 := (g4.block (w.heap.size + 1 + 1) (by omega) (by simp)).trans p4
  have hb4 := hb3.grown g4 (by omega) (fun k hk => by simp at hk; omega)
  have hl4 := Nat.lt_of_lt_of_le hl3 g4.size
  have x0 := cell_of_heap p5 0
  have x1 := cell_of_heap p5 1
  have x2 := cell_of_heap p5 2
  have x3 := cell_of_heap p5 3
  simp at x0 x1 x2 x3
  have xf := frozen_of_heap p5
  have k6 : w4.cell? ⟨w.heap.size + 1 + 1, 0, none⟩ = some (.int .i64 0) := by rw [cell_of_heap p6]; rfl
  have z6 := frozen_of_heap p6 0
  obtain ⟨gs, p7⟩ := set_four p5 (.int .i64 n) (.string S) (.slice av nv cv) (.bool F)
  have hv5 := hv4.keep (T := 103) (stable_nat 103) gs (fun x hx _ => by simp at hx; subst hx; exact ⟨_, _, p5⟩) (by decide)
  have p8 := (gs.block (w.heap.size + 1 + 1) (by omega) (by simp)).trans p6
  have hb5 := hb4.grown gs (by omega) (fun k hk => by simp at hk; omega)
  have hl5 := Nat.lt_of_lt_of_le hl4 gs.size
  go_wp2_with fail
  clear x0 x1 x2 x3 xf k6 z6 p5 p6 hv4 hv3 hb4 hb3 p3 p4 gs hr4 c2 cf h4 h3
  generalize (((((((w4.setCell ⟨w.heap.size + 1, 0, none⟩ (.int .i64 n))).setCell ⟨w.heap.size + 1, 1, none⟩ (.string S))).setCell ⟨w.heap.size + 1, 2, none⟩ (.slice av nv cv))).setCell ⟨w.heap.size + 1, 3, none⟩ (.bool F)) = wB at *
  have g6 := Lib.grownBy_setCell wB (w.heap.size + 1 + 1) 0 (.int .i64 0)
  have hv6 := hv5.keep (T := 28) (stable_nat 28) g6 (fun x hx _ => by simp at hx; subst hx; exact ⟨_, _, p8⟩) (by decide)
  have hb6 := hb5.grown g6 (by omega) (fun k hk => by simp at hk; omega)
  have p9 := (g6.block (w.heap.size + 1) (by omega) (by simp)).trans p7
  have r2 : (wB.setCell ⟨w.heap.size + 1 + 1, 0, none⟩ (.int .i64 0)).cell? ⟨w.heap.size + 1 + 1, 0, none⟩ = some (.int .i64 0) := by rw [cell_of_heap (heap_setCell_at p8 _)]; simp
  have y0 := cell_of_heap p9 0
  have y1 := cell_of_heap p9 1
  have y2 := cell_of_heap p9 2
  have y3 := cell_of_heap p9 3
  simp at y0 y1 y2 y3
  generalize wB.setCell ⟨w.heap.size + 1 + 1, 0, none⟩ (.int .i64 0) = wf at *
  have Hfin : Hid (Row isNat 3 0 wf (.slice av nv cv) L ∧ Below w.heap.size w wf) := ⟨hv6, hb6⟩
  clear hv6 hb6 hv5 hb5 g6 p7 p8 p9
  refine leaves_cons (f := 100) (args := #[.pointer (some ⟨w.heap.size + 1 + 1 + 1, 0, none⟩), .pointer (some ⟨w.heap.size + 1, 0, none⟩), .pointer (some ⟨w.heap.size + 1 + 1, 0, none⟩)]) (by simp) (by simp [go_sem]) ?_
  refine (idle100 _ _ _ _).mono ?_
  rintro e u' w5 ⟨rfl, rfl, hw5⟩
  subst hw5
  simp [Leaves, settle, results, Try.results52, go_sem, y0, y1, y2, y3, r2]
  exact Hfin.out

set_option maxRecDepth 100000 in
set_option maxHeartbeats 2000000 in
theorem decRec_no {pb : Nat} {fput : Value} {s : ByteArray} {er : Int} {w : World} (hsz : (s.size : Int) ≤ 1099511627776) (her : er ≠ 0)
    (hin : ∀ w' r, Low w.heap.size w w' → w.heap.size ≤ r → ROk w' r s.data.toList → Calls Try.prog 89 #[.pointer (some ⟨r, 0, none⟩), .pointer (some ⟨pb, 0, none⟩)] w' fun e w2 => ∃ a b c d, e = .returned (.agg #[a, b, c, d]) ∧ a.oneCell' = true ∧ b.oneCell' = true ∧ c.oneCell' = true ∧ d.oneCell' = true ∧ Fell w2 r er ∧ w'.grownBy w2 (some r)) :
    Calls Try.prog 52 #[.agg #[fput, .func (.func 89) #[] #[.pointer (some ⟨pb, 0, none⟩)]], .string s] w fun e w' => e = .returned (.tuple #[.agg #[.int .i64 0, .string ⟨#[]⟩, .slice none 0 0, .bool false], .int .i64 er]) ∧ Below w.heap.size w w' := by
  have hmf : ∀ (fn : Fn) (first cap : Array Value) (w : World), (Instr.makeFunc fn first cap).run Try.prog w = .ok (.func fn first cap) w := fun _ _ _ _ => rfl
  go_enter_defers Try.func52, Try.ntmps52
  go_wp2_with fail
  obtain ⟨w1, hw1⟩ : ∃ w1, w1 = ((((w.alloc (Obj.cells #[fput, Value.func (Fn.func 89) #[] #[.pointer (some ⟨pb, 0, none⟩)]] 107)).alloc (Obj.cells #[.int .i64 0, .string ⟨#[]⟩, .slice none 0 0, .bool false] 103)).alloc (Obj.cells #[Value.int IntKind.i64 0] 28)).alloc (Obj.cells #[.int .i64 0, .string ⟨#[]⟩, .slice none 0 0, .bool false] 103)).alloc (Obj.cells #[Value.string s, Value.int IntKind.i64 0, Value.int IntKind.i64 0] 134) := ⟨_, rfl⟩
  obtain ⟨q0, q1, q2, q3, q4, hn1, hb1⟩ := five w (Obj.cells #[fput, Value.func (Fn.func 89) #[] #[.pointer (some ⟨pb, 0, none⟩)]] 107) (Obj.cells #[.int .i64 0, .string ⟨#[]⟩, .slice none 0 0, .bool false] 103) (Obj.cells #[Value.int IntKind.i64 0] 28) (Obj.cells #[.int .i64 0, .string ⟨#[]⟩, .slice none 0 0, .bool false] 103) (Obj.cells #[Value.string s, Value.int IntKind.i64 0, Value.int IntKind.i64 0] 134)
  rw [← hw1] at q0 q1 q2 q3 q4 hn1 hb1
  have hR1 : ROk w1 (w.heap.size + 1 + 1 + 1 + 1) s.data.toList := ⟨s, 0, ⟨q4, Nat.zero_le _, hsz⟩, rfl⟩
  rw [← hw1]
  clear hw1
  refine (hin w1 _ (fun k hk => hb1.block k hk) (by omega) hR1).mono ?_
  rintro e w2 ⟨a, b, c, d, rfl, ha, hb, hc, hd, h2, g2⟩
  have hl2 : w.heap.size + 1 + 1 + 1 + 1 < w2.heap.size := by have := g2.size; omega
  have p1 := (g2.block (w.heap.size + 1) (by omega) (by simp)).trans q1
  have p2 := (g2.block (w.heap.size + 1 + 1) (by omega) (by simp)).trans q2
  have p2b := (g2.block (w.heap.size + 1 + 1 + 1) (by omega) (by simp)).trans q3
  have ca := cells_one ha
  have cb' := cells_one hb
  have cc := cells_one hc
  have cd := cells_one hd
  unfold Value.cells at ca cb' cc cd
  have st0 := store_one (o := 0) p1 (by simp) ha
  have j1 := heap_setCell_at (o := 0) p1 a
  have st1 := store_one (o := 1) j1 (by simp) hb
  have j2 := heap_setCell_at (o := 1) j1 b
  have st2 := store_one (o := 2) j2 (by simp) hc
  have j3 := heap_setCell_at (o := 2) j2 c
  have st3 := store_one (o := 3) j3 (by simp) hd
  clear j1 j2 j3
  obtain ⟨gs, p3⟩ := set_four p1 a b c d
  have h3 := h2.grown gs (by simp; omega)
  have p4 := (gs.block (w.heap.size + 1 + 1) (by omega) (by simp)).trans p2
  have p4b := (gs.block (w.heap.size + 1 + 1 + 1) (by omega) (by simp; omega)).trans p2b
  have hb3 := (hb1.grown g2 (by omega) (fun k hk => by simp at hk; omega)).grown gs (by omega) (fun k hk => by simp at hk; omega)
  have hl3 := Nat.lt_of_lt_of_le hl2 gs.size
  go_wp2_with fail
  clear st0 st1 st2 st3 p1 p2 p2b hb1 hl2 h2 g2 gs ca cb' cc cd
  generalize (((((((w2.setCell ⟨w.heap.size + 1, 0, none⟩ (a))).setCell ⟨w.heap.size + 1, 1, none⟩ (b))).setCell ⟨w.heap.size + 1, 2, none⟩ (c))).setCell ⟨w.heap.size + 1, 3, none⟩ (d)) = wA at *
  refine (end_fell h3 her).mono ?_
  rintro e w4 ⟨rfl, h4, g4⟩
  obtain ⟨c2, cf, hlt4⟩ := h4.cells
  have p5 := (g4.block (w.heap.size + 1) (by omega) (by simp)).trans p3
  have p6 := (g4.block (w.heap.size + 1 + 1) (by omega) (by simp)).trans p4
  have p6b := (g4.block (w.heap.size + 1 + 1 + 1) (by omega) (by simp)).trans p4b
  have hb4 := hb3.grown g4 (by omega) (fun k hk => by simp at hk; omega)
  have hl4 := Nat.lt_of_lt_of_le hl3 g4.size
  have x0 := cell_of_heap p5 0
  have x1 := cell_of_heap p5 1
  have x2 := cell_of_heap p5 2
  have x3 := cell_of_heap p5 3
  simp at x0 x1 x2 x3
  have xf := frozen_of_heap p5
  have v0 := cell_of_heap p6b 0
  have v1 := cell_of_heap p6b 1
  have v2 := cell_of_heap p6b 2
  have v3 := cell_of_heap p6b 3
  simp at v0 v1 v2 v3
  have k6 : w4.cell? ⟨w.heap.size + 1 + 1, 0, none⟩ = some (.int .i64 0) := by rw [cell_of_heap p6]; rfl
  have z6 := frozen_of_heap p6 0
  have hne : (er != 0) = true := by simpa using her
  obtain ⟨gs, p7⟩ := set_four p5 (.int .i64 0) (.string ⟨#[]⟩) (.slice none 0 0) (.bool false)
  have p8 := (gs.block (w.heap.size + 1 + 1) (by omega) (by simp)).trans p6
  have hb5 := hb4.grown gs (by omega) (fun k hk => by simp at hk; omega)
  have hl5 := Nat.lt_of_lt_of_le hl4 gs.size
  have Hk : Hid (w.heap.size + 1 + 1 + 1 + 1 < w4.heap.size) := hl4
  go_wp2_with fail
  go_region
  all_goals
    go_wp2_with fail
    clear x0 x1 x2 x3 xf k6 z6 p5 p6 v0 v1 v2 v3 p6b hb4 hb3 p3 p4 p4b gs c2 cf h4 h3
    generalize (((((((w4.setCell ⟨w.heap.size + 1, 0, none⟩ (.int .i64 0))).setCell ⟨w.heap.size + 1, 1, none⟩ (.string ⟨#[]⟩))).setCell ⟨w.heap.size + 1, 2, none⟩ (.slice none 0 0))).setCell ⟨w.heap.size + 1, 3, none⟩ (.bool false)) = wB at *
    have g6 := Lib.grownBy_setCell wB (w.heap.size + 1 + 1) 0 (.int .i64 er)
    have hb6 := hb5.grown g6 (by omega) (fun k hk => by simp at hk; omega)
    have p9 := (g6.block (w.heap.size + 1) (by omega) (by simp)).trans p7
    have r2 : (wB.setCell ⟨w.heap.size + 1 + 1, 0, none⟩ (.int .i64 er)).cell? ⟨w.heap.size + 1 + 1, 0, none⟩ = some (.int .i64 er) := by rw [cell_of_heap (heap_setCell_at p8 _)]; simp
    have y0 := cell_of_heap p9 0
    have y1 := cell_of_heap p9 1
    have y2 := cell_of_heap p9 2
    have y3 := cell_of_heap p9 3
    simp at y0 y1 y2 y3
    generalize wB.setCell ⟨w.heap.size + 1 + 1, 0, none⟩ (.int .i64 er) = wf at *
    refine leaves_cons (f := 100) (args := #[.pointer (some ⟨w.heap.size + 1 + 1 + 1, 0, none⟩), .pointer (some ⟨w.heap.size + 1, 0, none⟩), .pointer (some ⟨w.heap.size + 1 + 1, 0, none⟩)]) (by simp) (by simp [go_sem]) ?_
    refine (idle100 _ _ _ _).mono ?_
    rintro e u' w5 ⟨rfl, rfl, hw5⟩
    subst hw5
    simp [Leaves, settle, results, Try.results52, go_sem, y0, y1, y2, y3, r2]
    exact hb6.drew

end Go.Proofs.Ytjajgllkbchapaa
