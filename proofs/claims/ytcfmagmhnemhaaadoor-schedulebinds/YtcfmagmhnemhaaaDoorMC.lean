/-
  The store: Make and the makers.
-/
import Derived.Test.YtcfmagmhnemhaaaDoorMB
import Derived.Deep.QuietTactic
import Derived.BigQuiet
namespace Go.Proofs.YtcfmagmhnemhaaaDoor
open Go.RowKit
set_option linter.unusedSimpArgs false
set_option linter.unusedVariables false

/-- The three blocks of a store, and that they are three. -/
theorem StoreAt.blocks {w : World} {s : Nat} {ns : List Nd} {dr : Int} (h : StoreAt w s ns dr) : ∃ sl c mb, w.heap[s]? = some (.cells #[.slice sl ns.length c, .map (some mb), .int .i64 dr] 78) ∧ w.heap[mb]? = some (.map (ents ns) ns.length) ∧ RowAt w sl c ns ∧ ns.length ≤ 262144 ∧
    s ≠ mb ∧ some s ≠ (Value.slice sl ns.length c).ownBlock ∧ some mb ≠ (Value.slice sl ns.length c).ownBlock ∧ s < w.heap.size ∧ mb < w.heap.size := by
  have hs := h.lt
  obtain ⟨sl, c, mb, h0, h1, h2, h3⟩ := h
  refine ⟨sl, c, mb, h0, h1, h2, h3, ?_, ?_, ?_, hs, (Array.getElem?_eq_some_iff.1 h1).1⟩
  · rintro rfl; rw [h0] at h1; simp at h1
  · rcases h2.form with ⟨rfl, _⟩ | ⟨nb, rfl, _, _, cur, hh⟩
    · simp [Value.ownBlock]
    · simp [Value.ownBlock]; rintro rfl; rw [h0] at hh; simp at hh
  · rcases h2.form with ⟨rfl, _⟩ | ⟨nb, rfl, _, _, cur, hh⟩
    · simp [Value.ownBlock]
    · simp [Value.ownBlock]; rintro rfl; rw [h1] at hh; simp at hh

/-- Behind the append: what it is, and that the store's struct and map are as they were. -/
theorem appended {w3 W w' : World} {s mb c : Nat} {sl : Option Addr} {ns : List Nd} {dr : Int} {n : Nd} {v' : Value}
    (h0 : w3.heap[s]? = some (.cells #[.slice sl ns.length c, .map (some mb), .int .i64 dr] 78)) (h1 : w3.heap[mb]? = some (.map (ents ns) ns.length))
    (hs : some s ≠ (Value.slice sl ns.length c).ownBlock) (hm : some mb ≠ (Value.slice sl ns.length c).ownBlock)
    (hW : Below w3.heap.size w3 W) (hown : w'.ownsRow 0 71 4 v' (ns.length + 1) (flat ns ++ n.cells)) (hg : W.grownBy w' (Value.slice sl ns.length c).ownBlock) :
    ∃ g cap, v' = .slice (some ⟨g, 0, none⟩) (ns.length + 1) cap ∧ w'.heap[s]? = some (.cells #[.slice sl ns.length c, .map (some mb), .int .i64 dr] 78) ∧ w'.heap[mb]? = some (.map (ents ns) ns.length) := by
  have ls := (Array.getElem?_eq_some_iff.1 h0).1
  have lm := (Array.getElem?_eq_some_iff.1 h1).1
  have q1 : w'.heap[s]? = some (.cells #[.slice sl ns.length c, .map (some mb), .int .i64 dr] 78) := ((hg.block s (Nat.lt_of_lt_of_le ls hW.size) hs).trans (hW.block s ls)).trans h0
  have q2 : w'.heap[mb]? = some (.map (ents ns) ns.length) := ((hg.block mb (Nat.lt_of_lt_of_le lm hW.size) hm).trans (hW.block mb lm)).trans h1
  rcases hown.2 with ⟨_, h⟩ | ⟨g, cap, cur, hv, _⟩
  · omega
  · exact ⟨g, cap, hv, q1, q2⟩

/-- The world behind the store of the new slice and the map's new entry. -/
def grown (w' : World) (s mb g cap : Nat) (ns : List Nd) (n : Nd) (nq : Nat) : World :=
  { (w'.setCell ⟨s, 0, none⟩ (.slice (some ⟨g, 0, none⟩) (ns.length + 1) cap)).drewN nq with heap := (w'.setCell ⟨s, 0, none⟩ (.slice (some ⟨g, 0, none⟩) (ns.length + 1) cap)).heap.setIfInBounds mb (.map (ents (ns ++ [n])) (ns.length + 1)) }

theorem heap_setCell_at {w : World} {b o : Nat} {cs : Array Value} {e : TypeId} {fr : Nat × Nat} (h : w.heap[b]? = some (.cells cs e fr)) (v : Value) : (w.setCell ⟨b, o, none⟩ v).heap[b]? = some (.cells (cs.setIfInBounds o v) e fr) := by
  simp [World.setCell, Array.getElem?_modify, h]

theorem grown_store {w' : World} {s mb g cap c nq : Nat} {sl : Option Addr} {ns : List Nd} {dr : Int} {n : Nd}
    (h0 : w'.heap[s]? = some (.cells #[.slice sl ns.length c, .map (some mb), .int .i64 dr] 78)) (h1 : w'.heap[mb]? = some (.map (ents ns) ns.length))
    (hown : w'.ownsRow 0 71 4 (.slice (some ⟨g, 0, none⟩) (ns.length + 1) cap) (ns.length + 1) (flat ns ++ n.cells)) (hn : (ns.length : Int) < 262144) :
    StoreAt (grown w' s mb g cap ns n nq) s (ns ++ [n]) dr := by
  have hsm : s ≠ mb := by rintro rfl; rw [h0] at h1; simp at h1
  have hsz : ∀ v, (w'.setCell ⟨s, 0, none⟩ v).heap.size = w'.heap.size := fun v => by simp [World.setCell]
  have lm := (Array.getElem?_eq_some_iff.1 h1).1
  refine ⟨some ⟨g, 0, none⟩, cap, mb, ?_, ?_, ?_, ?_⟩
  · simp only [grown]
    rw [Array.getElem?_setIfInBounds_ne (Ne.symm hsm), heap_setCell_at h0]
    simp
  · simp only [grown, Array.getElem?_setIfInBounds, hsz, if_pos lm]
    simp
  · refine ⟨flat_length _, Or.inr ?_⟩
    rcases hown.2 with ⟨h, _⟩ | ⟨g', cap', cur, hv, hb, hh, r⟩
    · simp at h
    · simp at hv
      obtain ⟨rfl, rfl⟩ := hv
      have hgs : g ≠ s := by rintro rfl; rw [h0] at hh; simp at hh
      have hgm : g ≠ mb := by rintro rfl; rw [h1] at hh; simp at hh
      refine ⟨g, cap, cur, by simp, hb, ?_, ?_⟩
      · simp only [grown]
        rw [Array.getElem?_setIfInBounds_ne (Ne.symm hgm), Below.heap_setCell _ _ _ _ hgs]
        exact hh
      · simpa [flat_append, flat] using r
  · simp; omega

theorem grown_cell {w' : World} {s mb g cap c nq : Nat} {sl : Option Addr} {ns : List Nd} {dr : Int} {n : Nd}
    (h0 : w'.heap[s]? = some (.cells #[.slice sl ns.length c, .map (some mb), .int .i64 dr] 78)) (hsm : s ≠ mb) :
    (grown w' s mb g cap ns n nq).cell? ⟨s, 0, none⟩ = some (.slice (some ⟨g, 0, none⟩) (ns.length + 1) cap) := by
  have e0 : (grown w' s mb g cap ns n nq).heap[s]? = some (.cells #[.slice (some ⟨g, 0, none⟩) (ns.length + 1) cap, .map (some mb), .int .i64 dr] 78) := by
    simp only [grown]
    rw [Array.getElem?_setIfInBounds_ne (Ne.symm hsm), heap_setCell_at h0]
    simp
  rw [cell_of_heap e0]
  rfl

theorem grown_moved {w w3 W w' : World} {s mb g cap c nq : Nat} {sl : Option Addr} {ns : List Nd} {dr : Int} {n : Nd}
    (hst : StoreAt w s ns dr) (hb : Below w.heap.size w w3)
    (h0 : w3.heap[s]? = some (.cells #[.slice sl ns.length c, .map (some mb), .int .i64 dr] 78)) (h1 : w3.heap[mb]? = some (.map (ents ns) ns.length))
    (hW : Below w3.heap.size w3 W) (hg : W.grownBy w' (Value.slice sl ns.length c).ownBlock) (hloc : (Value.slice (some ⟨g, 0, none⟩) (ns.length + 1) cap).ownBlock = (Value.slice sl ns.length c).ownBlock ∨ (Value.slice (some ⟨g, 0, none⟩) (ns.length + 1) cap).ownBlock = some W.heap.size)
    (g0 : w'.heap[s]? = some (.cells #[.slice sl ns.length c, .map (some mb), .int .i64 dr] 78)) (g1 : w'.heap[mb]? = some (.map (ents ns) ns.length)) :
    Moved s w (grown w' s mb g cap ns n nq) := by
  have hsm : s ≠ mb := by rintro rfl; rw [g0] at g1; simp at g1
  have hlt := hst.lt
  have c0 : w.cell? ⟨s, 0, none⟩ = some (.slice sl ns.length c) := by
    rw [← hb.cell (p := ⟨s, 0, none⟩) hlt, cell_of_heap h0]; rfl
  have c1 : w.cell? ⟨s, 1, none⟩ = some (.map (some mb)) := by
    rw [← hb.cell (p := ⟨s, 1, none⟩) hlt, cell_of_heap h0]; rfl
  have hsz : (grown w' s mb g cap ns n nq).heap.size = w'.heap.size := by simp [grown, World.setCell]
  have h3W := hW.size
  have hb3 := hb.size
  have hgs := hg.size
  refine ⟨(hg.os.trans hW.os).trans hb.os, (hg.tape.trans hW.tape).trans hb.tape, (hg.output.trans hW.output).trans hb.output, by omega, fun k hk hno => ?_, fun k ho => ?_, ?_⟩
  rotate_left 2
  · have e0 : (grown w' s mb g cap ns n nq).heap[s]? = some (.cells #[.slice (some ⟨g, 0, none⟩) (ns.length + 1) cap, .map (some mb), .int .i64 dr] 78) := by
      simp only [grown]
      rw [Array.getElem?_setIfInBounds_ne (Ne.symm hsm), heap_setCell_at g0]
      simp
    rw [cell_of_heap e0, c1]
    rfl
  · have k1 : k ≠ s := fun e => hno (Or.inl e)
    have k2 : k ≠ mb := fun e => hno (Or.inr (Or.inl (by rw [e]; exact c1)))
    have k3 : some k ≠ (Value.slice sl ns.length c).ownBlock := by
      intro e
      cases sl with
      | none => simp [Value.ownBlock] at e
      | some a =>
        obtain ⟨ab, ao, asp⟩ := a
        simp [Value.ownBlock] at e
        subst e
        exact hno (Or.inr (Or.inr ⟨ao, asp, _, _, c0⟩))
    simp only [grown]
    rw [Array.getElem?_setIfInBounds_ne (Ne.symm k2), Below.heap_setCell _ _ _ _ k1, hg.block k (by omega) k3, hW.block k (by omega), hb.block k hk]
  · have e0 : (grown w' s mb g cap ns n nq).heap[s]? = some (.cells #[.slice (some ⟨g, 0, none⟩) (ns.length + 1) cap, .map (some mb), .int .i64 dr] 78) := by
      simp only [grown]
      rw [Array.getElem?_setIfInBounds_ne (Ne.symm hsm), heap_setCell_at g0]
      simp
    rcases ho with e | e | ⟨o, sp, n1, c1', e⟩
    · exact Or.inl (Or.inl e)
    · rw [cell_of_heap e0] at e
      simp at e
      exact Or.inl (Or.inr (Or.inl (by rw [← e]; exact c1)))
    · rw [cell_of_heap e0] at e
      simp at e
      obtain ⟨⟨rfl, _⟩, _⟩ := e
      rcases hloc with hl | hl
      · cases sl with
        | none => simp [Value.ownBlock] at hl
        | some a =>
          obtain ⟨ab, ao, asp⟩ := a
          simp [Value.ownBlock] at hl
          subst hl
          exact Or.inl (Or.inr (Or.inr ⟨ao, asp, _, _, c0⟩))
      · simp [Value.ownBlock] at hl
        exact Or.inr (by omega)

set_option maxHeartbeats 400000 in
theorem make_no {w : World} {s : Nat} {ns : List Nd} {dr : Int} (h : StoreAt w s ns dr) (n : Nd) (hf : fitsB ns n = false) :
    Calls Tryd.prog 55 #[.pointer (some ⟨s, 0, none⟩), .agg #[.int .i64 n.kind, .string n.label, .int .i64 n.a, .int .i64 n.b]] w fun e w' => e = .returned (.tuple #[.int .i64 0, .int .i64 10]) ∧ Below w.heap.size w w' := by
  have hb1 : ∀ o, StoreAt (w.alloc o) s ns dr := fun o => h.below ((Below.refl _ _).alloc (Nat.le_refl _) _)
  have hB : ∀ o, Below w.heap.size w (w.alloc o) := fun o => (Below.refl _ _).alloc (Nat.le_refl _) _
  go_enter Tryd.func55, Tryd.ntmps55
  go_wp2_with (go_at_call 59; refine (fits_any (hb1 _) n).mono ?_; rintro e w1 ⟨rfl, hb2⟩)
  go_ret2
  exact ⟨rfl, (hB _).trans (hb2.mono (by simp))⟩

/-- The store's cells behind a call that only makes memory, as the walk wants them. -/
theorem StoreAt.cells {w : World} {s : Nat} {ns : List Nd} {dr : Int} (h : StoreAt w s ns dr) : ∃ sl c mb, w.cell? ⟨s, 0, none⟩ = some (.slice sl ns.length c) ∧ w.cell? ⟨s, 1, none⟩ = some (.map (some mb)) ∧ w.cell? ⟨s, 2, none⟩ = some (.int .i64 dr) ∧
    (∀ o, w.frozen? ⟨s, o, none⟩ = false) ∧ w.heap[mb]? = some (.map (ents ns) ns.length) ∧ RowAt w sl c ns ∧ (ns.length : Int) ≤ 262144 ∧ s < w.heap.size := by
  have hs := h.lt
  obtain ⟨sl, c, mb, h0, h1, h2, h3⟩ := h
  exact ⟨sl, c, mb, by rw [cell_of_heap h0]; rfl, by rw [cell_of_heap h0]; rfl, by rw [cell_of_heap h0]; rfl, fun o => frozen_of_heap h0 o, h1, h2, by omega, hs⟩

set_option maxHeartbeats 400000 in
theorem make_old {w : World} {s : Nat} {ns : List Nd} {dr : Int} (h : StoreAt w s ns dr) (n : Nd) (hf : fitsB ns n = true) (j : Nat) (hj : findN n ns 0 = some j) :
    Calls Tryd.prog 55 #[.pointer (some ⟨s, 0, none⟩), .agg #[.int .i64 n.kind, .string n.label, .int .i64 n.a, .int .i64 n.b]] w fun e w' => e = .returned (.tuple #[.int .i64 (j + 1 : Nat), .int .i64 0]) ∧ Below w.heap.size w w' := by
  have hb1 : ∀ o, StoreAt (w.alloc o) s ns dr := fun o => h.below ((Below.refl _ _).alloc (Nat.le_refl _) _)
  have hB : ∀ o, Below w.heap.size w (w.alloc o) := fun o => (Below.refl _ _).alloc (Nat.le_refl _) _
  have hnum : numOf ns n = ((j + 1 : Nat) : Int) := by simp [numOf, hj]
  have Hnum : Hid (numOf ns n = ((j + 1 : Nat) : Int)) := hnum
  have Hj : Hid (findN n ns 0 = some j) := hj
  clear hnum hj
  go_enter Tryd.func55, Tryd.ntmps55
  go_wp2_with (go_at_call 59; refine (fits_any (hb1 _) n).mono ?_; rintro e w1 ⟨rfl, hb2⟩)
  have hc0 := hb2.cell (p := ⟨w.heap.size, 0, none⟩) (by simp)
  have hc1 := hb2.cell (p := ⟨w.heap.size, 1, none⟩) (by simp)
  have hc2 := hb2.cell (p := ⟨w.heap.size, 2, none⟩) (by simp)
  have hc3 := hb2.cell (p := ⟨w.heap.size, 3, none⟩) (by simp)
  simp at hc0 hc1 hc2 hc3
  obtain ⟨sl, c, mb, s0, s1, s2, sf, sm, sr, sn, slt⟩ := ((hb1 _).below hb2).cells
  have hlk : ∀ nq, (Instr.lookup 76 (.map (some mb)) (.agg #[.int .i64 n.kind, .string n.label, .int .i64 n.a, .int .i64 n.b]) false).run Tryd.prog (w1.drewN nq) = .ok (.int .i64 (j + 1 : Nat)) (w1.drewN nq) := fun nq => by
    rw [← Hnum.out]
    exact run_lookup27 (w1.drewN nq) mb ns.length ns n (by simpa using sm)
  go_quiet (fail)
  go_wp2
  all_goals go_ret2
  exact ⟨rfl, below_drewN ((hB _).trans (hb2.mono (by simp))) _⟩

set_option maxRecDepth 100000 in
set_option maxHeartbeats 400000 in
theorem make_full {w : World} {s : Nat} {ns : List Nd} {dr : Int} (h : StoreAt w s ns dr) (n : Nd) (hf : fitsB ns n = true) (hj : findN n ns 0 = none) (hfull : (262144 : Int) ≤ (ns.length : Int)) :
    Calls Tryd.prog 55 #[.pointer (some ⟨s, 0, none⟩), .agg #[.int .i64 n.kind, .string n.label, .int .i64 n.a, .int .i64 n.b]] w fun e w' => e = .returned (.tuple #[.int .i64 0, .int .i64 11]) ∧ Below w.heap.size w w' := by
  have hb1 : ∀ o, StoreAt (w.alloc o) s ns dr := fun o => h.below ((Below.refl _ _).alloc (Nat.le_refl _) _)
  have hB : ∀ o, Below w.heap.size w (w.alloc o) := fun o => (Below.refl _ _).alloc (Nat.le_refl _) _
  have hnum : numOf ns n = 0 := by simp [numOf, hj]
  have Hnum : Hid (numOf ns n = 0) := hnum
  have Hj : Hid (findN n ns 0 = none) := hj
  clear hnum hj
  go_enter Tryd.func55, Tryd.ntmps55
  go_wp2_with (go_at_call 59; refine (fits_any (hb1 _) n).mono ?_; rintro e w1 ⟨rfl, hb2⟩)
  have hc0 := hb2.cell (p := ⟨w.heap.size, 0, none⟩) (by simp)
  have hc1 := hb2.cell (p := ⟨w.heap.size, 1, none⟩) (by simp)
  have hc2 := hb2.cell (p := ⟨w.heap.size, 2, none⟩) (by simp)
  have hc3 := hb2.cell (p := ⟨w.heap.size, 3, none⟩) (by simp)
  simp at hc0 hc1 hc2 hc3
  obtain ⟨sl, c, mb, s0, s1, s2, sf, sm, sr, sn, slt⟩ := ((hb1 _).below hb2).cells
  have hlk : ∀ nq, (Instr.lookup 76 (.map (some mb)) (.agg #[.int .i64 n.kind, .string n.label, .int .i64 n.a, .int .i64 n.b]) false).run Tryd.prog (w1.drewN nq) = .ok (.int .i64 0) (w1.drewN nq) := fun nq => by
    rw [← Hnum.out]
    exact run_lookup27 (w1.drewN nq) mb ns.length ns n (by simpa using sm)
  go_quiet (fail)
  go_wp2
  all_goals go_ret2
  exact ⟨rfl, below_drewN ((hB _).trans (hb2.mono (by simp))) _⟩

theorem fits_label {ns : List Nd} {n : Nd} (hf : fitsB ns n = true) : n.label.size ≤ 1024 := by
  have he : emptyB n.label = true → n.label.size ≤ 1024 := by
    intro h
    unfold emptyB at h
    rw [ByteArray.toList_eq] at h
    have : n.label.size = n.label.data.toList.length := by rw [Array.length_toList]; rfl
    rw [this, List.isEmpty_iff.1 h]; simp
  unfold fitsB at hf
  repeat' split at hf
  all_goals first
    | (simp only [Bool.and_eq_true, decide_eq_true_eq] at hf; have := hf.1; omega)
    | (simp only [Bool.and_eq_true] at hf; exact he hf.1)
    | simp at hf

theorem info27 : (Tryd.prog.info? 71).map (fun i => (i.zero, i.size, i.bytes)) = some (some Nd.zero.val, 4, 40) := by kernel_rfl

theorem cells_one (n : Nd) : ∀ u ∈ n.cells, u.oneCell' = true := by
  intro u hu
  simp [Nd.cells] at hu
  rcases hu with rfl | rfl | rfl | rfl <;> rfl

theorem cells_new (n : Nd) (w : World) : ∀ j u, n.cells[j]? = some u → (w.alloc (.cells #[.int .i64 n.kind, .string n.label, .int .i64 n.a, .int .i64 n.b] 71)).cell? ((⟨w.heap.size, 0, none⟩ : Addr).add j) = some u := by
  intro j u hj
  match j, hj with
  | 0, hj => simp [Nd.cells] at hj; subst hj; simp [Addr.add]
  | 1, hj => simp [Nd.cells] at hj; subst hj; simp [Addr.add]
  | 2, hj => simp [Nd.cells] at hj; subst hj; simp [Addr.add]
  | 3, hj => simp [Nd.cells] at hj; subst hj; simp [Addr.add]

theorem clone_small (s : ByteArray) (w : World) (h : (s.size : Int) ≤ 1024) :
    Calls Tryd.prog 60 #[.string s] w fun e w' => e = .returned (.string s) ∧ Below w.heap.size w w' := clone_str s w (by omega)

set_option maxHeartbeats 400000 in
theorem make_new {w : World} {s : Nat} {ns : List Nd} {dr : Int} (h : StoreAt w s ns dr) (n : Nd) (hf : fitsB ns n = true) (hj : findN n ns 0 = none) (hroom : (ns.length : Int) < 262144) :
    Calls Tryd.prog 55 #[.pointer (some ⟨s, 0, none⟩), .agg #[.int .i64 n.kind, .string n.label, .int .i64 n.a, .int .i64 n.b]] w fun e w' => e = .returned (.tuple #[.int .i64 (ns.length + 1 : Nat), .int .i64 0]) ∧ StoreAt w' s (ns ++ [n]) dr ∧ Moved s w w' := by
  have hrB : decide ((262144 : Int) ≤ (ns.length : Int)) = false := dec_false1 (by omega)
  have Hroom : Hid ((ns.length : Int) < 262144) := hroom
  clear hroom
  have hlab : (n.label.size : Int) ≤ 1024 := by have := fits_label hf; omega
  have hb1 : ∀ o, StoreAt (w.alloc o) s ns dr := fun o => h.below ((Below.refl _ _).alloc (Nat.le_refl _) _)
  have hB : ∀ o, Below w.heap.size w (w.alloc o) := fun o => (Below.refl _ _).alloc (Nat.le_refl _) _
  have hnum : numOf ns n = 0 := by simp [numOf, hj]
  have Hnum : Hid (numOf ns n = 0) := hnum
  have Hj : Hid (findN n ns 0 = none) := hj
  clear hnum hj
  go_enter Tryd.func55, Tryd.ntmps55
  go_wp2_with (go_at_call 59; refine (fits_any (hb1 _) n).mono ?_; rintro e w1 ⟨rfl, hb2⟩)
  have hc0 := hb2.cell (p := ⟨w.heap.size, 0, none⟩) (by simp)
  have hc1 := hb2.cell (p := ⟨w.heap.size, 1, none⟩) (by simp)
  have hc2 := hb2.cell (p := ⟨w.heap.size, 2, none⟩) (by simp)
  have hc3 := hb2.cell (p := ⟨w.heap.size, 3, none⟩) (by simp)
  simp at hc0 hc1 hc2 hc3
  obtain ⟨sl, c, mb, s0, s1, s2, sf, sm, sr, sn, slt⟩ := ((hb1 _).below hb2).cells
  have hlk : ∀ nq, (Instr.lookup 76 (.map (some mb)) (.agg #[.int .i64 n.kind, .string n.label, .int .i64 n.a, .int .i64 n.b]) false).run Tryd.prog (w1.drewN nq) = .ok (.int .i64 0) (w1.drewN nq) := fun nq => by
    rw [← Hnum.out]
    exact run_lookup27 (w1.drewN nq) mb ns.length ns n (by simpa using sm)
  go_quiet (fail)
  clear hlk
  clear sn
  go_wp2_with fail
  refine (clone_small n.label _ hlab).mono ?_
  rintro e w2 ⟨rfl, hb3⟩
  have hw2 : Below w.heap.size w w2 := (below_drewN ((hB _).trans (hb2.mono (by simp))) nq).trans (hb3.mono (by have := hb2.size; simp at this ⊢; omega))
  have hbl : w.heap.size < (w1.drewN nq).heap.size := by have := hb2.size; simp at this ⊢; omega
  have hfz : ∀ o, w2.frozen? ⟨w.heap.size, o, none⟩ = false := fun o => by
    rw [hb3.frozen (p := ⟨w.heap.size, o, none⟩) hbl]
    have := hb2.frozen (p := ⟨w.heap.size, o, none⟩) (by simp)
    simp at this ⊢
    exact this
  have d0 := hb3.cell (p := ⟨w.heap.size, 0, none⟩) hbl
  have d1 := hb3.cell (p := ⟨w.heap.size, 1, none⟩) hbl
  have d2 := hb3.cell (p := ⟨w.heap.size, 2, none⟩) hbl
  have d3 := hb3.cell (p := ⟨w.heap.size, 3, none⟩) hbl
  simp [hc0, hc1, hc2, hc3] at d0 d1 d2 d3
  have hbx : w.heap.size < w2.heap.size := Nat.lt_of_lt_of_le hbl hb3.size
  have hst2 := h.below hw2
  clear hc0 hc1 hc2 hc3 s0 s1 s2 sf sm sr slt hb3 hbl hb2
  go_wp2_with fail
  have hw3 : Below w.heap.size w (w2.setCell ⟨w.heap.size, 1, none⟩ (.string n.label)) := hw2.setCell (Nat.le_refl _) _
  have hst3 := h.below hw3
  have hbx3 : w.heap.size < (w2.setCell ⟨w.heap.size, 1, none⟩ (.string n.label)).heap.size := by simpa [World.setCell] using hbx
  have f0 : (w2.setCell ⟨w.heap.size, 1, none⟩ (.string n.label)).cell? ⟨w.heap.size, 0, none⟩ = some (.int .i64 n.kind) := by go_simp
  have f1 : (w2.setCell ⟨w.heap.size, 1, none⟩ (.string n.label)).cell? ⟨w.heap.size, 1, none⟩ = some (.string n.label) := by go_simp
  have f2 : (w2.setCell ⟨w.heap.size, 1, none⟩ (.string n.label)).cell? ⟨w.heap.size, 2, none⟩ = some (.int .i64 n.a) := by go_simp
  have f3 : (w2.setCell ⟨w.heap.size, 1, none⟩ (.string n.label)).cell? ⟨w.heap.size, 3, none⟩ = some (.int .i64 n.b) := by go_simp
  clear d0 d1 d2 d3 hfz hw2 hst2 hbx
  generalize w2.setCell ⟨w.heap.size, 1, none⟩ (.string n.label) = w3 at *
  obtain ⟨sl, c, mb, s0, s1, sr, _, hsm, hsr, hmr, slt, mlt⟩ := h.blocks
  have hbe : some w.heap.size ≠ (Value.slice sl ns.length c).ownBlock := by
    intro e
    rcases sr.form with ⟨rfl, _⟩ | ⟨nb, rfl, hl, _⟩
    · simp [Value.ownBlock] at e
    · simp [Value.ownBlock] at e; omega
  have S0 := (hw3.block s slt).trans s0
  have S1 := (hw3.block mb mlt).trans s1
  have SR := sr.below hw3
  have t0 : w3.cell? ⟨s, 0, none⟩ = some (.slice sl ns.length c) := by rw [cell_of_heap S0]; rfl
  have hs3 : s < w3.heap.size := Nat.lt_of_lt_of_le slt hw3.size
  obtain ⟨i0, hi, hz0, hz1, hz2⟩ := info_parts info27
  have hbel : ∀ o, Below w3.heap.size w3 ((w3.alloc o).drew) := fun o => ((Below.refl _ _).alloc (Nat.le_refl _) _).drew
  go_region_law (refine step_append_at rfl (.tmp 34) (.tmp 36) 50 rfl 71 i0 Nd.zero.val 4 40 Tryd.underlying50 hi hz0 hz1 hz2 rfl (by decide) (.slice sl ns.length c) ns.length (flat ns) (by simp [Act.eval, Act.put]) (SR.alloc _) ⟨w3.heap.size, 0, none⟩ 1 1 n.cells (by simp [Act.eval, Act.put]) rfl (cells_new n _) (cells_one n) (by unfold maxLen; omega) (by omega) ?_; intro v' w' hown hgrow hnil hloc; obtain ⟨g, cap, hv, q0, q1⟩ := appended S0 S1 hsr hmr (hbel _) hown hgrow; subst hv; have k0 := cell_of_heap q0 0; have k1 := cell_of_heap q0 1; have z0 := frozen_of_heap q0 0)
  all_goals
    have b0 := hgrow.cell (a := ⟨w.heap.size, 0, none⟩) (v := .int .i64 n.kind) (by go_simp) hbe
    have b1 := hgrow.cell (a := ⟨w.heap.size, 1, none⟩) (v := .string n.label) (by go_simp) hbe
    have b2 := hgrow.cell (a := ⟨w.heap.size, 2, none⟩) (v := .int .i64 n.a) (by go_simp) hbe
    have b3 := hgrow.cell (a := ⟨w.heap.size, 3, none⟩) (v := .int .i64 n.b) (by go_simp) hbe
    have Hst : Hid (StoreAt (grown w' s mb g cap ns n 1) s (ns ++ [n]) dr) := grown_store q0 q1 hown Hroom.out
    have Hmv : Hid (Moved s w (grown w' s mb g cap ns n 1)) := grown_moved h hw3 S0 S1 (hbel _) hgrow hloc q0 q1
    have hup : (Instr.mapUpdate 76 (.map (some mb)) (.agg #[.int .i64 n.kind, .string n.label, .int .i64 n.a, .int .i64 n.b]) (.int .i64 ((ns.length : Int) + 1))).run Tryd.prog (w'.setCell ⟨s, 0, none⟩ (.slice (some ⟨g, 0, none⟩) (ns.length + 1) cap)).drew = .ok () (grown w' s mb g cap ns n 1) :=
      run_update27 (w'.setCell ⟨s, 0, none⟩ (.slice (some ⟨g, 0, none⟩) (ns.length + 1) cap)).drew mb ns n (by show (w'.setCell ⟨s, 0, none⟩ _).heap[mb]? = _; rw [Below.heap_setCell _ _ _ _ (Ne.symm hsm)]; exact q1) Hj.out
    have hgc : (grown w' s mb g cap ns n 1).cell? ⟨s, 0, none⟩ = some (.slice (some ⟨g, 0, none⟩) (ns.length + 1) cap) := grown_cell q0 hsm
    have hsw : s ≠ w.heap.size := by omega
    have m0 : (w'.setCell ⟨s, 0, none⟩ (.slice (some ⟨g, 0, none⟩) (ns.length + 1) cap)).cell? ⟨s, 0, none⟩ = some (.slice (some ⟨g, 0, none⟩) (ns.length + 1) cap) := by go_simp
    have m1 : (w'.setCell ⟨s, 0, none⟩ (.slice (some ⟨g, 0, none⟩) (ns.length + 1) cap)).cell? ⟨s, 1, none⟩ = some (.map (some mb)) := by go_simp
    have p0 : (w'.setCell ⟨s, 0, none⟩ (.slice (some ⟨g, 0, none⟩) (ns.length + 1) cap)).cell? ⟨w.heap.size, 0, none⟩ = some (.int .i64 n.kind) := by go_simp
    have p1 : (w'.setCell ⟨s, 0, none⟩ (.slice (some ⟨g, 0, none⟩) (ns.length + 1) cap)).cell? ⟨w.heap.size, 1, none⟩ = some (.string n.label) := by go_simp
    have p2 : (w'.setCell ⟨s, 0, none⟩ (.slice (some ⟨g, 0, none⟩) (ns.length + 1) cap)).cell? ⟨w.heap.size, 2, none⟩ = some (.int .i64 n.a) := by go_simp
    have p3 : (w'.setCell ⟨s, 0, none⟩ (.slice (some ⟨g, 0, none⟩) (ns.length + 1) cap)).cell? ⟨w.heap.size, 3, none⟩ = some (.int .i64 n.b) := by go_simp
    clear hown hgrow hloc hnil q0 q1 S0 S1 SR s0 s1 sr b0 b1 b2 b3 k0 k1 z0
    generalize grown w' s mb g cap ns n 1 = w5 at *
    go_wp2
    generalize w'.setCell ⟨s, 0, none⟩ (.slice (some ⟨g, 0, none⟩) (ns.length + 1) cap) = w4 at *
    go_region
  all_goals
    go_wp2
    go_ret2
    exact ⟨rfl, Hst.out, Hmv.out⟩

/-- What Make answers: the number, the error, the nodes behind it. -/
def makeF (ns : List Nd) (n : Nd) : Int × Int × List Nd :=
  if fitsB ns n then
    match findN n ns 0 with
    | some j => ((j + 1 : Nat), 0, ns)
    | none => if 262144 ≤ ns.length then (0, 11, ns) else ((ns.length + 1 : Nat), 0, ns ++ [n])
  else (0, 10, ns)

theorem make_any {w : World} {s : Nat} {ns : List Nd} {dr : Int} (h : StoreAt w s ns dr) (n : Nd) :
    Calls Tryd.prog 55 #[.pointer (some ⟨s, 0, none⟩), .agg #[.int .i64 n.kind, .string n.label, .int .i64 n.a, .int .i64 n.b]] w fun e w' => e = .returned (.tuple #[.int .i64 (makeF ns n).1, .int .i64 (makeF ns n).2.1]) ∧ StoreAt w' s (makeF ns n).2.2 dr ∧ Moved s w w' := by
  unfold makeF
  have hlt := h.lt
  by_cases hf : fitsB ns n = true
  · rw [if_pos hf]
    cases hj : findN n ns 0 with
    | some j =>
      refine (make_old h n hf j hj).mono ?_
      rintro e w' ⟨rfl, hb⟩
      exact ⟨rfl, h.below hb, .ofBelow hlt hb⟩
    | none =>
      by_cases hl : 262144 ≤ ns.length
      · simp only [if_pos hl]
        refine (make_full h n hf hj (by omega)).mono ?_
        rintro e w' ⟨rfl, hb⟩
        exact ⟨rfl, h.below hb, .ofBelow hlt hb⟩
      · simp only [if_neg hl]
        refine (make_new h n hf hj (by omega)).mono ?_
        rintro e w' ⟨rfl, hb⟩
        exact ⟨rfl, hb⟩
  · rw [if_neg hf]
    refine (make_no h n (by simpa using hf)).mono ?_
    rintro e w' ⟨rfl, hb⟩
    exact ⟨rfl, h.below hb, .ofBelow hlt hb⟩

set_option maxHeartbeats 400000 in
theorem number_any {w : World} {s : Nat} {ns : List Nd} {dr : Int} (h : StoreAt w s ns dr) (n : Nd) :
    Calls Tryd.prog 46 #[.pointer (some ⟨s, 0, none⟩), .agg #[.int .i64 n.kind, .string n.label, .int .i64 n.a, .int .i64 n.b]] w fun e w' => e = .returned (.int .i64 (makeF ns n).1) ∧ StoreAt w' s (makeF ns n).2.2 dr ∧ Moved s w w' := by
  have hb1 : ∀ o, StoreAt (w.alloc o) s ns dr := fun o => h.below ((Below.refl _ _).alloc (Nat.le_refl _) _)
  have hB : ∀ o, Below w.heap.size w (w.alloc o) := fun o => (Below.refl _ _).alloc (Nat.le_refl _) _
  have hlt := h.lt
  go_enter Tryd.func46, Tryd.ntmps46
  go_wp2_with (go_at_call 55; refine (make_any (hb1 _) n).mono ?_; rintro e w1 ⟨rfl, hst, hmv⟩)
  go_ret
  exact ⟨rfl, hst, (Moved.ofBelow hlt (hB _)).trans hmv⟩

set_option maxHeartbeats 400000 in
theorem text_any {w : World} {s : Nat} {ns : List Nd} {dr : Int} (h : StoreAt w s ns dr) (l : ByteArray) :
    Calls Tryd.prog 28 #[.pointer (some ⟨s, 0, none⟩), .string l] w fun e w' => e = .returned (.int .i64 (makeF ns ⟨2, l, 0, 0⟩).1) ∧ StoreAt w' s (makeF ns ⟨2, l, 0, 0⟩).2.2 dr ∧ Moved s w w' := by
  go_enter Tryd.func28, Tryd.ntmps28
  go_wp2_with (go_at_call 46; refine (number_any h ⟨2, l, 0, 0⟩).mono ?_; rintro e w1 ⟨rfl, hst, hmv⟩)
  go_ret
  exact ⟨rfl, hst, hmv⟩

set_option maxHeartbeats 400000 in
theorem pair_any {w : World} {s : Nat} {ns : List Nd} {dr : Int} (h : StoreAt w s ns dr) (a b : Int) :
    Calls Tryd.prog 48 #[.pointer (some ⟨s, 0, none⟩), .int .i64 a, .int .i64 b] w fun e w' => e = .returned (.int .i64 (makeF ns ⟨3, ⟨#[]⟩, a, b⟩).1) ∧ StoreAt w' s (makeF ns ⟨3, ⟨#[]⟩, a, b⟩).2.2 dr ∧ Moved s w w' := by
  go_enter Tryd.func48, Tryd.ntmps48
  go_wp2_with (go_at_call 46; refine (number_any h ⟨3, ⟨#[]⟩, a, b⟩).mono ?_; rintro e w1 ⟨rfl, hst, hmv⟩)
  go_ret
  exact ⟨rfl, hst, hmv⟩

set_option maxHeartbeats 400000 in
theorem new_any (w : World) :
    Calls Tryd.prog 30 #[] w fun e w' => ∃ s, e = .returned (.pointer (some ⟨s, 0, none⟩)) ∧ w.heap.size ≤ s ∧ StoreAt w' s [] 0 ∧ Below w.heap.size w w' ∧ ∀ k, Own w' s k → w.heap.size ≤ k := by
  have hmm := @run_makeMap Tryd.prog
  go_enter Tryd.func30, Tryd.ntmps30
  go_wp2
  go_ret
  have e0 : ((w.alloc (.map #[] 0)).alloc (.cells #[.slice none 0 0, .map (some w.heap.size), .int .i64 0] 78)).heap[w.heap.size + 1]? = some (.cells #[.slice none 0 0, .map (some w.heap.size), .int .i64 0] 78) := by
    have := heap_alloc_new (w.alloc (.map #[] 0)) (.cells #[.slice none 0 0, .map (some w.heap.size), .int .i64 0] 78)
    simpa using this
  have e1 : ((w.alloc (.map #[] 0)).alloc (.cells #[.slice none 0 0, .map (some w.heap.size), .int .i64 0] 78)).heap[w.heap.size]? = some (.map #[] 0) := by
    rw [Below.heap_alloc _ _ _ (by simp)]
    exact heap_alloc_new w _
  refine ⟨w.heap.size + 1, rfl, by omega, ⟨none, 0, w.heap.size, e0, e1, World.ownsRow_nil _ _ _ _, by simp⟩, ((Below.refl _ _).alloc (Nat.le_refl _) _).alloc (by simp) _, fun k hk => ?_⟩
  rcases hk with e | e | ⟨o, sp, n, c, e⟩
  · omega
  · rw [cell_of_heap e0] at e
    simp at e; omega
  · rw [cell_of_heap e0] at e
    simp at e

set_option maxHeartbeats 400000 in
theorem get_any {w : World} {s : Nat} {ns : List Nd} {dr : Int} (h : StoreAt w s ns dr) (t : Int) :
    Calls Tryd.prog 44 #[.pointer (some ⟨s, 0, none⟩), .int .i64 t] w fun e w' => e = .returned (.tuple #[(nodeF ns t).val, .bool (hasB ns t)]) ∧ Below w.heap.size w w' := by
  obtain ⟨k, l, a, b, hn⟩ : ∃ k l a b, nodeF ns t = ⟨k, l, a, b⟩ := ⟨_, _, _, _, rfl⟩
  have Hn : Hid (nodeF ns t = ⟨k, l, a, b⟩) := hn
  rw [hn]
  clear hn
  have hb1 : ∀ o, StoreAt (w.alloc o) s ns dr := fun o => h.below ((Below.refl _ _).alloc (Nat.le_refl _) _)
  have hB : ∀ o, Below w.heap.size w (w.alloc o) := fun o => (Below.refl _ _).alloc (Nat.le_refl _) _
  go_enter Tryd.func44, Tryd.ntmps44
  go_wp2_with fail
  refine (node_parts (hb1 _) _ Hn.out).mono ?_
  rintro e w1 ⟨rfl, hb2⟩
  have hst := (hb1 _).below hb2
  go_wp2_with fail
  refine (has_any hst t).mono ?_
  rintro e w2 ⟨rfl, rfl⟩
  obtain ⟨hcc, hff⟩ := bcell hb2
  have hz := hb2.size
  simp at hz hcc hff
  go_wp2
  refine bodyPost_ret (v := .tuple #[.agg #[.int .i64 k, .string l, .int .i64 a, .int .i64 b], .bool (hasB ns t)]) (by simp [results, Tryd.results44, go_sem, hz, hcc]) rfl ⟨rfl, ?_⟩
  exact (((((hB _).trans (hb2.mono (by simp))).setCell (Nat.le_refl _) _).setCell (Nat.le_refl _) _).setCell (Nat.le_refl _) _).setCell (Nat.le_refl _) _

theorem StoreAt.setDrawn {w : World} {s : Nat} {ns : List Nd} {dr : Int} (h : StoreAt w s ns dr) (x : Int) : StoreAt (w.setCell ⟨s, 2, none⟩ (.int .i64 x)) s ns x ∧ Moved s w (w.setCell ⟨s, 2, none⟩ (.int .i64 x)) := by
  obtain ⟨sl, c, mb, h0, h1, h2, h3, hsm, hsr, hmr, slt, mlt⟩ := h.blocks
  have e0 : (w.setCell ⟨s, 2, none⟩ (.int .i64 x)).heap[s]? = some (.cells #[.slice sl ns.length c, .map (some mb), .int .i64 x] 78) := by
    rw [heap_setCell_at h0]; simp
  have oth : ∀ k, k ≠ s → (w.setCell ⟨s, 2, none⟩ (.int .i64 x)).heap[k]? = w.heap[k]? := fun k hk => Below.heap_setCell _ _ _ _ hk
  refine ⟨⟨sl, c, mb, e0, (oth mb (Ne.symm hsm)).trans h1, ?_, h3⟩, rfl, rfl, rfl, by simp [World.setCell], fun k _ hno => oth k (fun e => hno (Or.inl e)), fun k ho => Or.inl ?_, by rw [cell_of_heap e0, cell_of_heap h0]; rfl⟩
  · refine ⟨h2.1, ?_⟩
    rcases h2.2 with h4 | ⟨nb, cap, cur, e, hl, hh, r⟩
    · exact Or.inl h4
    · refine Or.inr ⟨nb, cap, cur, e, hl, ?_, r⟩
      rw [oth nb (by rintro rfl; rw [h0] at hh; simp at hh)]
      exact hh
  · unfold Own at ho ⊢
    rw [cell_of_heap e0, cell_of_heap e0] at ho
    rw [cell_of_heap h0, cell_of_heap h0]
    simpa using ho

def atom (a : Int) : Nd := ⟨1, ⟨#[]⟩, a, 0⟩

/-- What Fresh answers, and what is drawn behind it. -/
def freshD (ns : List Nd) (dr : Int) : Int := if (makeF ns (atom (dr + 1))).1 = 0 then dr else dr + 1

set_option maxHeartbeats 400000 in
theorem fresh_any {w : World} {s : Nat} {ns : List Nd} {dr : Int} (h : StoreAt w s ns dr) (d0 : 0 ≤ dr) (d1 : dr ≤ 1099511627776) :
    Calls Tryd.prog 31 #[.pointer (some ⟨s, 0, none⟩)] w fun e w' => e = .returned (.int .i64 (makeF ns (atom (dr + 1))).1) ∧ StoreAt w' s (makeF ns (atom (dr + 1))).2.2 (freshD ns dr) ∧ Moved s w w' := by
  obtain ⟨sl, c, mb, s0, s1, s2, sf, sm, sr, sn, slt⟩ := h.cells
  unfold freshD
  generalize hm : (makeF ns (atom (dr + 1))).1 = t
  generalize hl : (makeF ns (atom (dr + 1))).2.2 = ns'
  have Hc : Hid (∀ wx, StoreAt wx s ns dr → Calls Tryd.prog 46 #[.pointer (some ⟨s, 0, none⟩), .agg #[.int .i64 1, .string ⟨#[]⟩, .int .i64 (dr + 1), .int .i64 0]] wx fun e w' => e = .returned (.int .i64 t) ∧ StoreAt w' s ns' dr ∧ Moved s wx w') := by
    intro wx hx
    have := number_any hx (atom (dr + 1))
    rw [hm, hl] at this
    exact this
  clear hm hl
  by_cases ht : t = 0
  · have ht' : (t != 0) = false := by simp [ht]
    rw [if_pos ht]
    have Ht : Hid (t = 0) := ht
    clear ht
    go_enter Tryd.func31, Tryd.ntmps31
    go_wp2_with (go_at_call 46; refine (Hc.out _ h).mono ?_; rintro e w1 ⟨rfl, hst, hmv⟩)
    go_ret
    exact ⟨rfl, hst, hmv⟩
  · have ht' : (t != 0) = true := by simp [ht]
    rw [if_neg ht]
    have Ht : Hid (t ≠ 0) := ht
    clear ht
    go_enter Tryd.func31, Tryd.ntmps31
    go_wp2_with fail
    refine (Hc.out _ h).mono ?_
    rintro e w1 ⟨rfl, hst, hmv⟩
    obtain ⟨sl', c', mb', s0', s1', s2', sf', sm', sr', sn', slt'⟩ := hst.cells
    go_wp2
    go_ret
    exact ⟨rfl, (hst.setDrawn _).1, hmv.trans (hst.setDrawn _).2⟩

end Go.Proofs.YtcfmagmhnemhaaaDoor
