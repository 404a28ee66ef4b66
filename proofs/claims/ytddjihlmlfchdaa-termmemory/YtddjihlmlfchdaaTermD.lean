/-
  Make: refused, made before, no room.
-/
import Derived.Test.YtddjihlmlfchdaaTermC
import Derived.Test.YtddjihlmlfchdaaGrow
import Derived.Deep.QuietTactic
import Derived.BigQuiet
namespace Go.Proofs.Ytddjihlmlfchdaa
open Go.RowKit
set_option linter.unusedSimpArgs false
set_option linter.unusedVariables false

set_option maxHeartbeats 400000 in
theorem make_no {w : World} {s : Nat} {ns : List Nd} {dr : Int} (h : StoreAt w s ns dr) (n : Nd) (hf : fitsB ns n = false) :
    Calls Try.prog 13 #[.pointer (some ⟨s, 0, none⟩), .agg #[.int .i64 n.kind, .string n.label, .int .i64 n.a, .int .i64 n.b]] w fun e w' => e = .returned (.tuple #[.int .i64 0, .int .i64 10]) ∧ Below w.heap.size w w' := by
  have hb1 : ∀ o, StoreAt (w.alloc o) s ns dr := fun o => h.below ((Below.refl _ _).alloc (Nat.le_refl _) _)
  have hB : ∀ o, Below w.heap.size w (w.alloc o) := fun o => (Below.refl _ _).alloc (Nat.le_refl _) _
  go_enter Try.func13, Try.ntmps13
  go_wp2_with (go_at_call 28; refine (fits_any (hb1 _) n).mono ?_; rintro e w1 ⟨rfl, hb2⟩)
  go_ret2
  exact ⟨rfl, (hB _).trans (hb2.mono (by simp))⟩

/-- The store's cells behind a call that only makes memory, as the walk wants them. -/
theorem StoreAt.cells {w : World} {s : Nat} {ns : List Nd} {dr : Int} (h : StoreAt w s ns dr) : ∃ sl c mb, w.cell? ⟨s, 0, none⟩ = some (.slice sl ns.length c) ∧ w.cell? ⟨s, 1, none⟩ = some (.map (some mb)) ∧ w.cell? ⟨s, 2, none⟩ = some (.int .i64 dr) ∧
    (∀ o, w.frozen? ⟨s, o, none⟩ = false) ∧ w.heap[mb]? = some (.map (ents ns) ns.length) ∧ RowAt w sl c ns ∧ (ns.length : Int) ≤ 262144 ∧ s < w.heap.size := by
  have hs := h.lt
  obtain ⟨sl, c, mb, h0, h1, h2, h3⟩ := h
  exact ⟨sl, c, mb, by rw [cell_of_heap h0]; rfl, by rw [cell_of_heap h0]; rfl, by rw [cell_of_heap h0]; rfl, fun o => frozen_of_heap h0 o, h1, h2, by omega, hs⟩

set_option maxHeartbeats 400000 in
theorem make_old {w : World} {s : Nat} {ns : List Nd} {dr : Int} (h : StoreAt w s ns dr) (n : Nd) (hf : fitsB ns n = true) (j : Nat) (hj : findN n ns 0 = some j) :
    Calls Try.prog 13 #[.pointer (some ⟨s, 0, none⟩), .agg #[.int .i64 n.kind, .string n.label, .int .i64 n.a, .int .i64 n.b]] w fun e w' => e = .returned (.tuple #[.int .i64 (j + 1 : Nat), .int .i64 0]) ∧ Below w.heap.size w w' := by
  have hb1 : ∀ o, StoreAt (w.alloc o) s ns dr := fun o => h.below ((Below.refl _ _).alloc (Nat.le_refl _) _)
  have hB : ∀ o, Below w.heap.size w (w.alloc o) := fun o => (Below.refl _ _).alloc (Nat.le_refl _) _
  have hnum : numOf ns n = ((j + 1 : Nat) : Int) := by simp [numOf, hj]
  have Hnum : Hid (numOf ns n = ((j + 1 : Nat) : Int)) := hnum
  have Hj : Hid (findN n ns 0 = some j) := hj
  clear hnum hj
  go_enter Try.func13, Try.ntmps13
  go_wp2_with (go_at_call 28; refine (fits_any (hb1 _) n).mono ?_; rintro e w1 ⟨rfl, hb2⟩)
  have hc0 := hb2.cell (p := ⟨w.heap.size, 0, none⟩) (by simp)
  have hc1 := hb2.cell (p := ⟨w.heap.size, 1, none⟩) (by simp)
  have hc2 := hb2.cell (p := ⟨w.heap.size, 2, none⟩) (by simp)
  have hc3 := hb2.cell (p := ⟨w.heap.size, 3, none⟩) (by simp)
  simp at hc0 hc1 hc2 hc3
  obtain ⟨sl, c, mb, s0, s1, s2, sf, sm, sr, sn, slt⟩ := ((hb1 _).below hb2).cells
  have hlk : ∀ nq, (Instr.lookup 51 (.map (some mb)) (.agg #[.int .i64 n.kind, .string n.label, .int .i64 n.a, .int .i64 n.b]) false).run Try.prog (w1.drewN nq) = .ok (.int .i64 (j + 1 : Nat)) (w1.drewN nq) := fun nq => by
    rw [← Hnum.out]
    exact run_lookup27 (w1.drewN nq) mb ns.length ns n (by simpa using sm)
  go_quiet (fail)
  go_wp2
  all_goals go_ret2
  exact ⟨rfl, below_drewN ((hB _).trans (hb2.mono (by simp))) _⟩

set_option maxRecDepth 100000 in
set_option maxHeartbeats 400000 in
theorem make_full {w : World} {s : Nat} {ns : List Nd} {dr : Int} (h : StoreAt w s ns dr) (n : Nd) (hf : fitsB ns n = true) (hj : findN n ns 0 = none) (hfull : (262144 : Int) ≤ (ns.length : Int)) :
    Calls Try.prog 13 #[.pointer (some ⟨s, 0, none⟩), .agg #[.int .i64 n.kind, .string n.label, .int .i64 n.a, .int .i64 n.b]] w fun e w' => e = .returned (.tuple #[.int .i64 0, .int .i64 11]) ∧ Below w.heap.size w w' := by
  have hb1 : ∀ o, StoreAt (w.alloc o) s ns dr := fun o => h.below ((Below.refl _ _).alloc (Nat.le_refl _) _)
  have hB : ∀ o, Below w.heap.size w (w.alloc o) := fun o => (Below.refl _ _).alloc (Nat.le_refl _) _
  have hnum : numOf ns n = 0 := by simp [numOf, hj]
  have Hnum : Hid (numOf ns n = 0) := hnum
  have Hj : Hid (findN n ns 0 = none) := hj
  clear hnum hj
  go_enter Try.func13, Try.ntmps13
  go_wp2_with (go_at_call 28; refine (fits_any (hb1 _) n).mono ?_; rintro e w1 ⟨rfl, hb2⟩)
  have hc0 := hb2.cell (p := ⟨w.heap.size, 0, none⟩) (by simp)
  have hc1 := hb2.cell (p := ⟨w.heap.size, 1, none⟩) (by simp)
  have hc2 := hb2.cell (p := ⟨w.heap.size, 2, none⟩) (by simp)
  have hc3 := hb2.cell (p := ⟨w.heap.size, 3, none⟩) (by simp)
  simp at hc0 hc1 hc2 hc3
  obtain ⟨sl, c, mb, s0, s1, s2, sf, sm, sr, sn, slt⟩ := ((hb1 _).below hb2).cells
  have hlk : ∀ nq, (Instr.lookup 51 (.map (some mb)) (.agg #[.int .i64 n.kind, .string n.label, .int .i64 n.a, .int .i64 n.b]) false).run Try.prog (w1.drewN nq) = .ok (.int .i64 0) (w1.drewN nq) := fun nq => by
    rw [← Hnum.out]
    exact run_lookup27 (w1.drewN nq) mb ns.length ns n (by simpa using sm)
  go_quiet (fail)
  go_wp2
  all_goals go_ret2
  exact ⟨rfl, below_drewN ((hB _).trans (hb2.mono (by simp))) _⟩

theorem fits_label {ns : List Nd} {n : Nd} (hf : fitsB ns n = true) : n.label.size ≤ 1024 := by
  have he : emptyB n.label = true → n.label.size ≤ 1024 := by
    intro h
    unfold emptyB at h
    rw [ByteArray.toList_eq] at h
    have : n.label.size = n.label.data.toList.length := by rw [Array.length_toList]; rfl
    rw [this, List.isEmpty_iff.1 h]; simp
  unfold fitsB at hf
  repeat' split at hf
  all_goals first
    | (simp only [Bool.and_eq_true, decide_eq_true_eq] at hf; have := hf.1; omega)
    | (simp only [Bool.and_eq_true] at hf; exact he hf.1)
    | simp at hf

theorem info27 : (Try.prog.info? 27).map (fun i => (i.zero, i.size, i.bytes)) = some (some Nd.zero.val, 4, 40) := by kernel_rfl

theorem cells_one (n : Nd) : ∀ u ∈ n.cells, u.oneCell' = true := by
  intro u hu
  simp [Nd.cells] at hu
  rcases hu with rfl | rfl | rfl | rfl <;> rfl

theorem cells_new (n : Nd) (w : World) : ∀ j u, n.cells[j]? = some u → (w.alloc (.cells #[.int .i64 n.kind, .string n.label, .int .i64 n.a, .int .i64 n.b] 27)).cell? ((⟨w.heap.size, 0, none⟩ : Addr).add j) = some u := by
  intro j u hj
  match j, hj with
  | 0, hj => simp [Nd.cells] at hj; subst hj; simp [Addr.add]
  | 1, hj => simp [Nd.cells] at hj; subst hj; simp [Addr.add]
  | 2, hj => simp [Nd.cells] at hj; subst hj; simp [Addr.add]
  | 3, hj => simp [Nd.cells] at hj; subst hj; simp [Addr.add]

theorem clone_small (s : ByteArray) (w : World) (h : (s.size : Int) ≤ 1024) :
    Calls Try.prog 29 #[.string s] w fun e w' => e = .returned (.string s) ∧ Below w.heap.size w w' := clone_any s w (by omega)

set_option maxHeartbeats 400000 in
theorem make_new {w : World} {s : Nat} {ns : List Nd} {dr : Int} (h : StoreAt w s ns dr) (n : Nd) (hf : fitsB ns n = true) (hj : findN n ns 0 = none) (hroom : (ns.length : Int) < 262144) :
    Calls Try.prog 13 #[.pointer (some ⟨s, 0, none⟩), .agg #[.int .i64 n.kind, .string n.label, .int .i64 n.a, .int .i64 n.b]] w fun e w' => e = .returned (.tuple #[.int .i64 (ns.length + 1 : Nat), .int .i64 0]) ∧ StoreAt w' s (ns ++ [n]) dr ∧ Moved s w w' := by
  have hrB : decide ((262144 : Int) ≤ (ns.length : Int)) = false := dec_false (by omega)
  have Hroom : Hid ((ns.length : Int) < 262144) := hroom
  clear hroom
  have hlab : (n.label.size : Int) ≤ 1024 := by have := fits_label hf; omega
  have hb1 : ∀ o, StoreAt (w.alloc o) s ns dr := fun o => h.below ((Below.refl _ _).alloc (Nat.le_refl _) _)
  have hB : ∀ o, Below w.heap.size w (w.alloc o) := fun o => (Below.refl _ _).alloc (Nat.le_refl _) _
  have hnum : numOf ns n = 0 := by simp [numOf, hj]
  have Hnum : Hid (numOf ns n = 0) := hnum
  have Hj : Hid (findN n ns 0 = none) := hj
  clear hnum hj
  go_enter Try.func13, Try.ntmps13
  go_wp2_with (go_at_call 28; refine (fits_any (hb1 _) n).mono ?_; rintro e w1 ⟨rfl, hb2⟩)
  have hc0 := hb2.cell (p := ⟨w.heap.size, 0, none⟩) (by simp)
  have hc1 := hb2.cell (p := ⟨w.heap.size, 1, none⟩) (by simp)
  have hc2 := hb2.cell (p := ⟨w.heap.size, 2, none⟩) (by simp)
  have hc3 := hb2.cell (p := ⟨w.heap.size, 3, none⟩) (by simp)
  simp at hc0 hc1 hc2 hc3
  obtain ⟨sl, c, mb, s0, s1, s2, sf, sm, sr, sn, slt⟩ := ((hb1 _).below hb2).cells
  have hlk : ∀ nq, (Instr.lookup 51 (.map (some mb)) (.agg #[.int .i64 n.kind, .string n.label, .int .i64 n.a, .int .i64 n.b]) false).run Try.prog (w1.drewN nq) = .ok (.int .i64 0) (w1.drewN nq) := fun nq => by
    rw [← Hnum.out]
    exact run_lookup27 (w1.drewN nq) mb ns.length ns n (by simpa using sm)
  go_quiet (fail)
  clear hlk
  clear sn
  go_wp2_with fail
  refine (clone_small n.label _ hlab).mono ?_
  rintro e w2 ⟨rfl, hb3⟩
  have hw2 : Below w.heap.size w w2 := (below_drewN ((hB _).trans (hb2.mono (by simp))) nq).trans (hb3.mono (by have := hb2.size; simp at this ⊢; omega))
  have hbl : w.heap.size < (w1.drewN nq).heap.size := by have := hb2.size; simp at this ⊢; omega
  have hfz : ∀ o, w2.frozen? ⟨w.heap.size, o, none⟩ = false := fun o => by
    rw [hb3.frozen (p := ⟨w.heap.size, o, none⟩) hbl]
    have := hb2.frozen (p := ⟨w.heap.size, o, none⟩) (by simp)
    simp at this ⊢
    exact this
  have d0 := hb3.cell (p := ⟨w.heap.size, 0, none⟩) hbl
  have d1 := hb3.cell (p := ⟨w.heap.size, 1, none⟩) hbl
  have d2 := hb3.cell (p := ⟨w.heap.size, 2, none⟩) hbl
  have d3 := hb3.cell (p := ⟨w.heap.size, 3, none⟩) hbl
  simp [hc0, hc1, hc2, hc3] at d0 d1 d2 d3
  have hbx : w.heap.size < w2.heap.size := Nat.lt_of_lt_of_le hbl hb3.size
  have hst2 := h.below hw2
  clear hc0 hc1 hc2 hc3 s0 s1 s2 sf sm sr slt hb3 hbl hb2
  go_wp2_with fail
  have hw3 : Below w.heap.size w (w2.setCell ⟨w.heap.size, 1, none⟩ (.string n.label)) := hw2.setCell (Nat.le_refl _) _
  have hst3 := h.below hw3
  have hbx3 : w.heap.size < (w2.setCell ⟨w.heap.size, 1, none⟩ (.string n.label)).heap.size := by simpa [World.setCell] using hbx
  have f0 : (w2.setCell ⟨w.heap.size, 1, none⟩ (.string n.label)).cell? ⟨w.heap.size, 0, none⟩ = some (.int .i64 n.kind) := by go_simp
  have f1 : (w2.setCell ⟨w.heap.size, 1, none⟩ (.string n.label)).cell? ⟨w.heap.size, 1, none⟩ = some (.string n.label) := by go_simp
  have f2 : (w2.setCell ⟨w.heap.size, 1, none⟩ (.string n.label)).cell? ⟨w.heap.size, 2, none⟩ = some (.int .i64 n.a) := by go_simp
  have f3 : (w2.setCell ⟨w.heap.size, 1, none⟩ (.string n.label)).cell? ⟨w.heap.size, 3, none⟩ = some (.int .i64 n.b) := by go_simp
  clear d0 d1 d2 d3 hfz hw2 hst2 hbx
  generalize w2.setCell ⟨w.heap.size, 1, none⟩ (.string n.label) = w3 at *
  obtain ⟨sl, c, mb, s0, s1, sr, _, hsm, hsr, hmr, slt, mlt⟩ := h.blocks
  have hbe : some w.heap.size ≠ (Value.slice sl ns.length c).ownBlock := by
    intro e
    rcases sr.form with ⟨rfl, _⟩ | ⟨nb, rfl, hl, _⟩
    · simp [Value.ownBlock] at e
    · simp [Value.ownBlock] at e; omega
  have S0 := (hw3.block s slt).trans s0
  have S1 := (hw3.block mb mlt).trans s1
  have SR := sr.below hw3
  have t0 : w3.cell? ⟨s, 0, none⟩ = some (.slice sl ns.length c) := by rw [cell_of_heap S0]; rfl
  have hs3 : s < w3.heap.size := Nat.lt_of_lt_of_le slt hw3.size
  obtain ⟨i0, hi, hz0, hz1, hz2⟩ := info_parts info27
  have hbel : ∀ o, Below w3.heap.size w3 ((w3.alloc o).drew) := fun o => ((Below.refl _ _).alloc (Nat.le_refl _) _).drew
  go_region_law (refine step_append_at rfl (.tmp 34) (.tmp 36) 22 rfl 27 i0 Nd.zero.val 4 40 Try.underlying22 hi hz0 hz1 hz2 rfl (by decide) (.slice sl ns.length c) ns.length (flat ns) (by simp [Act.eval, Act.put]) (SR.alloc _) ⟨w3.heap.size, 0, none⟩ 1 1 n.cells (by simp [Act.eval, Act.put]) rfl (cells_new n _) (cells_one n) (by unfold maxLen; omega) (by omega) ?_; intro v' w' hown hgrow hnil hloc; obtain ⟨g, cap, hv, q0, q1⟩ := appended S0 S1 hsr hmr (hbel _) hown hgrow; subst hv; have k0 := cell_of_heap q0 0; have k1 := cell_of_heap q0 1; have z0 := frozen_of_heap q0 0)
  all_goals
    have b0 := hgrow.cell (a := ⟨w.heap.size, 0, none⟩) (v := .int .i64 n.kind) (by go_simp) hbe
    have b1 := hgrow.cell (a := ⟨w.heap.size, 1, none⟩) (v := .string n.label) (by go_simp) hbe
    have b2 := hgrow.cell (a := ⟨w.heap.size, 2, none⟩) (v := .int .i64 n.a) (by go_simp) hbe
    have b3 := hgrow.cell (a := ⟨w.heap.size, 3, none⟩) (v := .int .i64 n.b) (by go_simp) hbe
    have Hst : Hid (StoreAt (grown w' s mb g cap ns n 1) s (ns ++ [n]) dr) := grown_store q0 q1 hown Hroom.out
    have Hmv : Hid (Moved s w (grown w' s mb g cap ns n 1)) := grown_moved h hw3 S0 S1 (hbel _) hgrow hloc q0 q1
    have hup : (Instr.mapUpdate 51 (.map (some mb)) (.agg #[.int .i64 n.kind, .string n.label, .int .i64 n.a, .int .i64 n.b]) (.int .i64 ((ns.length : Int) + 1))).run Try.prog (w'.setCell ⟨s, 0, none⟩ (.slice (some ⟨g, 0, none⟩) (ns.length + 1) cap)).drew = .ok () (grown w' s mb g cap ns n 1) :=
      run_update27 (w'.setCell ⟨s, 0, none⟩ (.slice (some ⟨g, 0, none⟩) (ns.length + 1) cap)).drew mb ns n (by show (w'.setCell ⟨s, 0, none⟩ _).heap[mb]? = _; rw [Below.heap_setCell _ _ _ _ (Ne.symm hsm)]; exact q1) Hj.out
    have hgc : (grown w' s mb g cap ns n 1).cell? ⟨s, 0, none⟩ = some (.slice (some ⟨g, 0, none⟩) (ns.length + 1) cap) := grown_cell q0 hsm
    have hsw : s ≠ w.heap.size := by omega
    have m0 : (w'.setCell ⟨s, 0, none⟩ (.slice (some ⟨g, 0, none⟩) (ns.length + 1) cap)).cell? ⟨s, 0, none⟩ = some (.slice (some ⟨g, 0, none⟩) (ns.length + 1) cap) := by go_simp
    have m1 : (w'.setCell ⟨s, 0, none⟩ (.slice (some ⟨g, 0, none⟩) (ns.length + 1) cap)).cell? ⟨s, 1, none⟩ = some (.map (some mb)) := by go_simp
    have p0 : (w'.setCell ⟨s, 0, none⟩ (.slice (some ⟨g, 0, none⟩) (ns.length + 1) cap)).cell? ⟨w.heap.size, 0, none⟩ = some (.int .i64 n.kind) := by go_simp
    have p1 : (w'.setCell ⟨s, 0, none⟩ (.slice (some ⟨g, 0, none⟩) (ns.length + 1) cap)).cell? ⟨w.heap.size, 1, none⟩ = some (.string n.label) := by go_simp
    have p2 : (w'.setCell ⟨s, 0, none⟩ (.slice (some ⟨g, 0, none⟩) (ns.length + 1) cap)).cell? ⟨w.heap.size, 2, none⟩ = some (.int .i64 n.a) := by go_simp
    have p3 : (w'.setCell ⟨s, 0, none⟩ (.slice (some ⟨g, 0, none⟩) (ns.length + 1) cap)).cell? ⟨w.heap.size, 3, none⟩ = some (.int .i64 n.b) := by go_simp
    clear hown hgrow hloc hnil q0 q1 S0 S1 SR s0 s1 sr b0 b1 b2 b3 k0 k1 z0
    generalize grown w' s mb g cap ns n 1 = w5 at *
    go_wp2
    generalize w'.setCell ⟨s, 0, none⟩ (.slice (some ⟨g, 0, none⟩) (ns.length + 1) cap) = w4 at *
    go_region
  all_goals
    go_wp2
    go_ret2
    exact ⟨rfl, Hst.out, Hmv.out⟩

/-- What Make answers: the number, the error, the nodes behind it. -/
def makeF (ns : List Nd) (n : Nd) : Int × Int × List Nd :=
  if fitsB ns n then
    match findN n ns 0 with
    | some j => ((j + 1 : Nat), 0, ns)
    | none => if 262144 ≤ ns.length then (0, 11, ns) else ((ns.length + 1 : Nat), 0, ns ++ [n])
  else (0, 10, ns)

theorem make_any {w : World} {s : Nat} {ns : List Nd} {dr : Int} (h : StoreAt w s ns dr) (n : Nd) :
    Calls Try.prog 13 #[.pointer (some ⟨s, 0, none⟩), .agg #[.int .i64 n.kind, .string n.label, .int .i64 n.a, .int .i64 n.b]] w fun e w' => e = .returned (.tuple #[.int .i64 (makeF ns n).1, .int .i64 (makeF ns n).2.1]) ∧ StoreAt w' s (makeF ns n).2.2 dr ∧ Moved s w w' := by
  unfold makeF
  have hlt := h.lt
  by_cases hf : fitsB ns n = true
  · rw [if_pos hf]
    cases hj : findN n ns 0 with
    | some j =>
      refine (make_old h n hf j hj).mono ?_
      rintro e w' ⟨rfl, hb⟩
      exact ⟨rfl, h.below hb, .ofBelow hlt hb⟩
    | none =>
      by_cases hl : 262144 ≤ ns.length
      · simp only [if_pos hl]
        refine (make_full h n hf hj (by omega)).mono ?_
        rintro e w' ⟨rfl, hb⟩
        exact ⟨rfl, h.below hb, .ofBelow hlt hb⟩
      · simp only [if_neg hl]
        refine (make_new h n hf hj (by omega)).mono ?_
        rintro e w' ⟨rfl, hb⟩
        exact ⟨rfl, hb⟩
  · rw [if_neg hf]
    refine (make_no h n (by simpa using hf)).mono ?_
    rintro e w' ⟨rfl, hb⟩
    exact ⟨rfl, h.below hb, .ofBelow hlt hb⟩

end Go.Proofs.Ytddjihlmlfchdaa
