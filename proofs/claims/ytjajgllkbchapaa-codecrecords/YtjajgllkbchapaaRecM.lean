/-
  A record's codec made: slices.Clone of the parts, Record.
-/
import Derived.Test.YtjajgllkbchapaaRecB
import Derived.Test.YtjajgllkbchapaaRecH
import Derived.Maps.AppendAt
namespace Go.Proofs.Ytjajgllkbchapaa
open Go.RowKit
set_option linter.unusedSimpArgs false
set_option linter.unusedVariables false

theorem under138 : Try.prog.underlying 138 = some (.slice 112) := by kernel_rfl
theorem info112 : (Try.prog.info? 112).map (fun i => (i.zero, i.size, i.bytes)) = some (some (.agg #[.nilFunc, .nilFunc]), 2, 16) := by kernel_rfl

theorem eq_nil138 (w : World) (a : Addr) (n c : Nat) : (binOp .eql 138 (.slice (some a) n c) (.slice none 0 0)).run Try.prog w = .ok (.bool false) w := by
  kernel_rfl

set_option maxRecDepth 100000 in
set_option maxHeartbeats 1000000 in
theorem parts_clone {w : World} {g0 : Nat} {cells : List Value} (hc : ∀ j u, cells[j]? = some u → w.cell? ⟨g0, j, none⟩ = some u) (hg0 : g0 < w.heap.size) (hl : cells.length = 8) (h1 : ∀ u ∈ cells, u.oneCell' = true) :
    Calls Try.prog 87 #[.slice (some ⟨g0, 0, none⟩) 4 4] w fun e w' => ∃ g cap, e = .returned (.slice (some ⟨g, 0, none⟩) 4 cap) ∧ w.heap.size ≤ g ∧ g < w'.heap.size ∧ (∀ j u, cells[j]? = some u → w'.cell? ⟨g, j, none⟩ = some u) ∧ Below w.heap.size w w' := by
  obtain ⟨i0, hi, hz0, hz1, hz2⟩ := info_parts info112
  have he := eq_nil138 w ⟨g0, 0, none⟩ 4 4
  have hu := under138
  have hadd : ∀ g j, (⟨g, 0, none⟩ : Addr).add j = ⟨g, j, none⟩ := fun g j => by unfold Addr.add; split <;> simp_all
  have hb1 : Below w.heap.size w (w.alloc (.cells #[] 112)) := (Below.refl _ _).alloc (Nat.le_refl _) _
  have hcc : ∀ j u, cells[j]? = some u → (w.alloc (.cells #[] 112)).cell? ((⟨g0, 0, none⟩ : Addr).add j) = some u := fun j u hu => by rw [hadd, hb1.cell (p := ⟨g0, j, none⟩) hg0]; exact hc j u hu
  have ho : (w.alloc (.cells #[] 112)).ownsRow w.heap.size 112 2 (.slice (some ⟨w.heap.size, 0, none⟩) 0 0) 0 [] := ⟨rfl, Or.inr ⟨_, _, #[], rfl, Nat.le_refl _, heap_alloc_new w _, Nat.le_refl _, by decide, rfl, rfl⟩⟩
  have hm1 : Hid (0 + 4 ≤ maxLen) := by show _ ≤ maxLen; decide
  have hm2 : Hid ((0 + 4) * 16 ≤ 140737488355328) := by show _ ≤ _; decide
  go_enter Try.func87, Try.ntmps87
  go_wp2_with fail
  go_ret
  have e : (w.alloc (.cells #[] 112)).heap.size = w.heap.size + 1 := by simp
  refine ⟨w.heap.size + 1, _, rfl, by omega, by simp [World.drew], fun j u hu => ?_, (hb1.alloc (by simp) _).drew⟩
  have q := heap_alloc_new (w.alloc (.cells #[] 112)) (.cells (#[cells[0], cells[1], cells[2], cells[3], cells[4], cells[5], cells[6], cells[7]] ++ Builtin.zeroCells #[Value.nilFunc, Value.nilFunc] ((Question.appendCap 4 0 112).cut (w.tape w.drawn (Question.appendCap 4 0 112)) - 4)) 112)
  rw [e] at q
  refine (cell_of_heap q j).trans ?_
  have hj : j < 8 := by
    rw [← hl]
    exact (List.getElem?_eq_some_iff.1 hu).1
  rw [Array.getElem?_append_left (by simpa using hj)]
  rw [List.getElem?_eq_getElem (by omega)] at hu
  obtain rfl | rfl | rfl | rfl | rfl | rfl | rfl | rfl : j = 0 ∨ j = 1 ∨ j = 2 ∨ j = 3 ∨ j = 4 ∨ j = 5 ∨ j = 6 ∨ j = 7 := by omega
  all_goals exact hu

set_option maxRecDepth 100000 in
set_option maxHeartbeats 1000000 in
theorem record_made {w : World} {g0 : Nat} {cells : List Value} (hc : ∀ j u, cells[j]? = some u → w.cell? ⟨g0, j, none⟩ = some u) (hg0 : g0 < w.heap.size) (hl : cells.length = 8) (h1 : ∀ u ∈ cells, u.oneCell' = true) :
    Calls Try.prog 41 #[.slice (some ⟨g0, 0, none⟩) 4 4] w fun e w' => ∃ pb g cap, e = .returned (.agg #[.func (.func 88) #[] #[.pointer (some ⟨pb, 0, none⟩)], .func (.func 89) #[] #[.pointer (some ⟨pb, 0, none⟩)]]) ∧ pb < w'.heap.size ∧ g < w'.heap.size ∧ w'.cell? ⟨pb, 0, none⟩ = some (.slice (some ⟨g, 0, none⟩) 4 cap) ∧ (∀ j u, cells[j]? = some u → w'.cell? ⟨g, j, none⟩ = some u) ∧ Below w.heap.size w w' := by
  have hmf : ∀ (fn : Fn) (first cap : Array Value) (w : World), (Instr.makeFunc fn first cap).run Try.prog w = .ok (.func fn first cap) w := fun _ _ _ _ => rfl
  have hsf := fun (wx : World) (a : Addr) (fn : Fn) (f c : Array Value) => run_store Try.prog wx a (.func fn f c) .plain rfl
  go_enter Try.func41, Try.ntmps41
  go_wp2_with fail
  have hb1 : Below w.heap.size w ((w.alloc (.cells #[.slice (some ⟨g0, 0, none⟩) 4 4] 138)).alloc (.cells #[.nilFunc, .nilFunc] 107)) := ((Below.refl _ _).alloc (Nat.le_refl _) _).alloc (by simp) _
  have q0 : ((w.alloc (.cells #[.slice (some ⟨g0, 0, none⟩) 4 4] 138)).alloc (.cells #[.nilFunc, .nilFunc] 107)).heap[w.heap.size]? = some (.cells #[.slice (some ⟨g0, 0, none⟩) 4 4] 138) := by
    rw [(((Below.refl _ _).alloc (Nat.le_refl _) _ : Below (w.alloc (.cells #[.slice (some ⟨g0, 0, none⟩) 4 4] 138)).heap.size (w.alloc (.cells #[.slice (some ⟨g0, 0, none⟩) 4 4] 138)) ((w.alloc (.cells #[.slice (some ⟨g0, 0, none⟩) 4 4] 138)).alloc (.cells #[.nilFunc, .nilFunc] 107))).block w.heap.size (by simp))]
    exact heap_alloc_new w _
  have q1 : ((w.alloc (.cells #[.slice (some ⟨g0, 0, none⟩) 4 4] 138)).alloc (.cells #[.nilFunc, .nilFunc] 107)).heap[w.heap.size + 1]? = some (.cells #[.nilFunc, .nilFunc] 107) := by
    have := heap_alloc_new (w.alloc (.cells #[.slice (some ⟨g0, 0, none⟩) 4 4] 138)) (.cells #[.nilFunc, .nilFunc] 107)
    simpa using this
  generalize (w.alloc (.cells #[.slice (some ⟨g0, 0, none⟩) 4 4] 138)).alloc (.cells #[.nilFunc, .nilFunc] 107) = w1 at *
  have l1 : w.heap.size + 1 < w1.heap.size := (Array.getElem?_eq_some_iff.1 q1).1
  refine (parts_clone (g0 := g0) (cells := cells) (fun j u hu => by rw [hb1.cell (p := ⟨g0, j, none⟩) hg0]; exact hc j u hu) (Nat.lt_of_lt_of_le hg0 hb1.size) hl h1).mono ?_
  rintro e w2 ⟨g, cap, rfl, hgl, hg, hcell, hb2⟩
  have p0 := (hb2.block w.heap.size (by omega)).trans q0
  have p1 := (hb2.block (w.heap.size + 1) l1).trans q1
  have m0 := cell_of_heap p0 0
  have n0 := cell_of_heap p1 0
  have n1 := cell_of_heap p1 1
  have mf := frozen_of_heap p0
  have nf := frozen_of_heap p1
  simp at m0 n0 n1
  have hl2 := Nat.lt_of_lt_of_le l1 hb2.size
  go_wp2_with fail
  have s1 := heap_setCell_at (o := 0) p0 (.slice (some ⟨g, 0, none⟩) 4 cap)
  have hd1 := Lib.grownBy_setCell w2 w.heap.size 0 (.slice (some ⟨g, 0, none⟩) 4 cap)
  have s2 := (hd1.block (w.heap.size + 1) (by omega) (by simp)).trans p1
  have s3 := heap_setCell_at (o := 1) (heap_setCell_at (o := 0) s2 (.func (.func 88) #[] #[.pointer (some ⟨w.heap.size, 0, none⟩)])) (.func (.func 89) #[] #[.pointer (some ⟨w.heap.size, 0, none⟩)])
  have hd2 := grown_set (Lib.grownBy_setCell (w2.setCell ⟨w.heap.size, 0, none⟩ (.slice (some ⟨g, 0, none⟩) 4 cap)) (w.heap.size + 1) 0 (.func (.func 88) #[] #[.pointer (some ⟨w.heap.size, 0, none⟩)])) 1 (.func (.func 89) #[] #[.pointer (some ⟨w.heap.size, 0, none⟩)])
  have hbf := (((hb1.trans (hb2.mono hb1.size)).setCell (p := ⟨w.heap.size, 0, none⟩) (Nat.le_refl _) (.slice (some ⟨g, 0, none⟩) 4 cap)).setCell (p := ⟨w.heap.size + 1, 0, none⟩) (by simp) (.func (.func 88) #[] #[.pointer (some ⟨w.heap.size, 0, none⟩)])).setCell (p := ⟨w.heap.size + 1, 1, none⟩) (by simp) (.func (.func 89) #[] #[.pointer (some ⟨w.heap.size, 0, none⟩)])
  have sz1 := hd1.size
  have sz2 := hd2.size
  have s4 := (hd2.block w.heap.size (by omega) (by simp)).trans s1
  have hcf : ∀ j u, cells[j]? = some u → (((w2.setCell ⟨w.heap.size, 0, none⟩ (.slice (some ⟨g, 0, none⟩) 4 cap)).setCell ⟨w.heap.size + 1, 0, none⟩ (.func (.func 88) #[] #[.pointer (some ⟨w.heap.size, 0, none⟩)])).setCell ⟨w.heap.size + 1, 1, none⟩ (.func (.func 89) #[] #[.pointer (some ⟨w.heap.size, 0, none⟩)])).cell? ⟨g, j, none⟩ = some u := by
    intro j u hu
    rw [(gcell hd2 (b := g) (by omega) (by simp; omega)).1 j, (gcell hd1 (b := g) (by omega) (by simp; omega)).1 j]
    exact hcell j u hu
  generalize ((w2.setCell ⟨w.heap.size, 0, none⟩ (.slice (some ⟨g, 0, none⟩) 4 cap)).setCell ⟨w.heap.size + 1, 0, none⟩ (.func (.func 88) #[] #[.pointer (some ⟨w.heap.size, 0, none⟩)])).setCell ⟨w.heap.size + 1, 1, none⟩ (.func (.func 89) #[] #[.pointer (some ⟨w.heap.size, 0, none⟩)]) = wf at *
  have y0 := cell_of_heap s3 0
  have y1 := cell_of_heap s3 1
  have y2 := cell_of_heap s4 0
  simp at y0 y1 y2
  exact bodyPost_ret (v := .agg #[.func (.func 88) #[] #[.pointer (some ⟨w.heap.size, 0, none⟩)], .func (.func 89) #[] #[.pointer (some ⟨w.heap.size, 0, none⟩)]]) (by simp [results, Try.results41, go_sem, y0, y1]) rfl ⟨w.heap.size, g, cap, rfl, by omega, by omega, y2, hcf, hbf⟩

end Go.Proofs.Ytjajgllkbchapaa
