/-
  The store's calls that make: number, the makers of each kind, New, Fresh, Get.
-/
import Derived.Test.YtddjihlmlfchdaaTermD
namespace Go.Proofs.Ytddjihlmlfchdaa
open Go.RowKit
set_option linter.unusedSimpArgs false
set_option linter.unusedVariables false

set_option maxHeartbeats 400000 in
theorem number_any {w : World} {s : Nat} {ns : List Nd} {dr : Int} (h : StoreAt w s ns dr) (n : Nd) :
    Calls Try.prog 32 #[.pointer (some ⟨s, 0, none⟩), .agg #[.int .i64 n.kind, .string n.label, .int .i64 n.a, .int .i64 n.b]] w fun e w' => e = .returned (.int .i64 (makeF ns n).1) ∧ StoreAt w' s (makeF ns n).2.2 dr ∧ Moved s w w' := by
  have hb1 : ∀ o, StoreAt (w.alloc o) s ns dr := fun o => h.below ((Below.refl _ _).alloc (Nat.le_refl _) _)
  have hB : ∀ o, Below w.heap.size w (w.alloc o) := fun o => (Below.refl _ _).alloc (Nat.le_refl _) _
  have hlt := h.lt
  go_enter Try.func32, Try.ntmps32
  go_wp2_with (go_at_call 13; refine (make_any (hb1 _) n).mono ?_; rintro e w1 ⟨rfl, hst, hmv⟩)
  go_ret
  exact ⟨rfl, hst, (Moved.ofBelow hlt (hB _)).trans hmv⟩

set_option maxHeartbeats 400000 in
theorem text_any {w : World} {s : Nat} {ns : List Nd} {dr : Int} (h : StoreAt w s ns dr) (l : ByteArray) :
    Calls Try.prog 16 #[.pointer (some ⟨s, 0, none⟩), .string l] w fun e w' => e = .returned (.int .i64 (makeF ns ⟨2, l, 0, 0⟩).1) ∧ StoreAt w' s (makeF ns ⟨2, l, 0, 0⟩).2.2 dr ∧ Moved s w w' := by
  go_enter Try.func16, Try.ntmps16
  go_wp2_with (go_at_call 32; refine (number_any h ⟨2, l, 0, 0⟩).mono ?_; rintro e w1 ⟨rfl, hst, hmv⟩)
  go_ret
  exact ⟨rfl, hst, hmv⟩

set_option maxHeartbeats 400000 in
theorem pub_any {w : World} {s : Nat} {ns : List Nd} {dr : Int} (h : StoreAt w s ns dr) (a : Int) :
    Calls Try.prog 17 #[.pointer (some ⟨s, 0, none⟩), .int .i64 a] w fun e w' => e = .returned (.int .i64 (makeF ns ⟨6, ⟨#[]⟩, a, 0⟩).1) ∧ StoreAt w' s (makeF ns ⟨6, ⟨#[]⟩, a, 0⟩).2.2 dr ∧ Moved s w w' := by
  go_enter Try.func17, Try.ntmps17
  go_wp2_with (go_at_call 32; refine (number_any h ⟨6, ⟨#[]⟩, a, 0⟩).mono ?_; rintro e w1 ⟨rfl, hst, hmv⟩)
  go_ret
  exact ⟨rfl, hst, hmv⟩

set_option maxHeartbeats 400000 in
theorem seal_any {w : World} {s : Nat} {ns : List Nd} {dr : Int} (h : StoreAt w s ns dr) (a b : Int) :
    Calls Try.prog 18 #[.pointer (some ⟨s, 0, none⟩), .int .i64 a, .int .i64 b] w fun e w' => e = .returned (.int .i64 (makeF ns ⟨7, ⟨#[]⟩, a, b⟩).1) ∧ StoreAt w' s (makeF ns ⟨7, ⟨#[]⟩, a, b⟩).2.2 dr ∧ Moved s w w' := by
  go_enter Try.func18, Try.ntmps18
  go_wp2_with (go_at_call 32; refine (number_any h ⟨7, ⟨#[]⟩, a, b⟩).mono ?_; rintro e w1 ⟨rfl, hst, hmv⟩)
  go_ret
  exact ⟨rfl, hst, hmv⟩

set_option maxHeartbeats 400000 in
theorem box_any {w : World} {s : Nat} {ns : List Nd} {dr : Int} (h : StoreAt w s ns dr) (a b : Int) :
    Calls Try.prog 19 #[.pointer (some ⟨s, 0, none⟩), .int .i64 a, .int .i64 b] w fun e w' => e = .returned (.int .i64 (makeF ns ⟨8, ⟨#[]⟩, a, b⟩).1) ∧ StoreAt w' s (makeF ns ⟨8, ⟨#[]⟩, a, b⟩).2.2 dr ∧ Moved s w w' := by
  go_enter Try.func19, Try.ntmps19
  go_wp2_with (go_at_call 32; refine (number_any h ⟨8, ⟨#[]⟩, a, b⟩).mono ?_; rintro e w1 ⟨rfl, hst, hmv⟩)
  go_ret
  exact ⟨rfl, hst, hmv⟩

set_option maxHeartbeats 400000 in
theorem sign_any {w : World} {s : Nat} {ns : List Nd} {dr : Int} (h : StoreAt w s ns dr) (a b : Int) :
    Calls Try.prog 20 #[.pointer (some ⟨s, 0, none⟩), .int .i64 a, .int .i64 b] w fun e w' => e = .returned (.int .i64 (makeF ns ⟨9, ⟨#[]⟩, a, b⟩).1) ∧ StoreAt w' s (makeF ns ⟨9, ⟨#[]⟩, a, b⟩).2.2 dr ∧ Moved s w w' := by
  go_enter Try.func20, Try.ntmps20
  go_wp2_with (go_at_call 32; refine (number_any h ⟨9, ⟨#[]⟩, a, b⟩).mono ?_; rintro e w1 ⟨rfl, hst, hmv⟩)
  go_ret
  exact ⟨rfl, hst, hmv⟩

set_option maxHeartbeats 400000 in
theorem pair_any {w : World} {s : Nat} {ns : List Nd} {dr : Int} (h : StoreAt w s ns dr) (a b : Int) :
    Calls Try.prog 27 #[.pointer (some ⟨s, 0, none⟩), .int .i64 a, .int .i64 b] w fun e w' => e = .returned (.int .i64 (makeF ns ⟨3, ⟨#[]⟩, a, b⟩).1) ∧ StoreAt w' s (makeF ns ⟨3, ⟨#[]⟩, a, b⟩).2.2 dr ∧ Moved s w w' := by
  go_enter Try.func27, Try.ntmps27
  go_wp2_with (go_at_call 32; refine (number_any h ⟨3, ⟨#[]⟩, a, b⟩).mono ?_; rintro e w1 ⟨rfl, hst, hmv⟩)
  go_ret
  exact ⟨rfl, hst, hmv⟩

theorem info53 : (Try.prog.info? 53).map (fun i => (i.size)) = some 3 := by kernel_rfl

set_option maxHeartbeats 400000 in
theorem new_any (w : World) :
    Calls Try.prog 11 #[] w fun e w' => ∃ s, e = .returned (.pointer (some ⟨s, 0, none⟩)) ∧ w.heap.size ≤ s ∧ StoreAt w' s [] 0 ∧ Below w.heap.size w w' ∧ ∀ k, Own w' s k → w.heap.size ≤ k := by
  have hmm := @run_makeMap Try.prog
  go_enter Try.func11, Try.ntmps11
  go_wp2
  go_ret
  have e0 : ((w.alloc (.map #[] 0)).alloc (.cells #[.slice none 0 0, .map (some w.heap.size), .int .i64 0] 53)).heap[w.heap.size + 1]? = some (.cells #[.slice none 0 0, .map (some w.heap.size), .int .i64 0] 53) := by
    have := heap_alloc_new (w.alloc (.map #[] 0)) (.cells #[.slice none 0 0, .map (some w.heap.size), .int .i64 0] 53)
    simpa using this
  have e1 : ((w.alloc (.map #[] 0)).alloc (.cells #[.slice none 0 0, .map (some w.heap.size), .int .i64 0] 53)).heap[w.heap.size]? = some (.map #[] 0) := by
    rw [Below.heap_alloc _ _ _ (by simp)]
    exact heap_alloc_new w _
  refine ⟨w.heap.size + 1, rfl, by omega, ⟨none, 0, w.heap.size, e0, e1, World.ownsRow_nil _ _ _ _, by simp⟩, ((Below.refl _ _).alloc (Nat.le_refl _) _).alloc (by simp) _, fun k hk => ?_⟩
  rcases hk with e | e | ⟨o, sp, n, c, e⟩
  · omega
  · rw [cell_of_heap e0] at e
    simp at e; omega
  · rw [cell_of_heap e0] at e
    simp at e

set_option maxHeartbeats 400000 in
theorem get_any {w : World} {s : Nat} {ns : List Nd} {dr : Int} (h : StoreAt w s ns dr) (t : Int) :
    Calls Try.prog 14 #[.pointer (some ⟨s, 0, none⟩), .int .i64 t] w fun e w' => e = .returned (.tuple #[(nodeF ns t).val, .bool (hasB ns t)]) ∧ Below w.heap.size w w' := by
  obtain ⟨k, l, a, b, hn⟩ : ∃ k l a b, nodeF ns t = ⟨k, l, a, b⟩ := ⟨_, _, _, _, rfl⟩
  have Hn : Hid (nodeF ns t = ⟨k, l, a, b⟩) := hn
  rw [hn]
  clear hn
  have hb1 : ∀ o, StoreAt (w.alloc o) s ns dr := fun o => h.below ((Below.refl _ _).alloc (Nat.le_refl _) _)
  have hB : ∀ o, Below w.heap.size w (w.alloc o) := fun o => (Below.refl _ _).alloc (Nat.le_refl _) _
  go_enter Try.func14, Try.ntmps14
  go_wp2_with fail
  refine (node_parts (hb1 _) _ Hn.out).mono ?_
  rintro e w1 ⟨rfl, hb2⟩
  have hst := (hb1 _).below hb2
  go_wp2_with fail
  refine (has_any hst t).mono ?_
  rintro e w2 ⟨rfl, rfl⟩
  obtain ⟨hcc, hff⟩ := bcell hb2
  have hz := hb2.size
  simp at hz hcc hff
  go_wp2
  refine bodyPost_ret (v := .tuple #[.agg #[.int .i64 k, .string l, .int .i64 a, .int .i64 b], .bool (hasB ns t)]) (by simp [results, Try.results14, go_sem, hz, hcc]) rfl ⟨rfl, ?_⟩
  exact (((((hB _).trans (hb2.mono (by simp))).setCell (Nat.le_refl _) _).setCell (Nat.le_refl _) _).setCell (Nat.le_refl _) _).setCell (Nat.le_refl _) _

theorem StoreAt.setDrawn {w : World} {s : Nat} {ns : List Nd} {dr : Int} (h : StoreAt w s ns dr) (x : Int) : StoreAt (w.setCell ⟨s, 2, none⟩ (.int .i64 x)) s ns x ∧ Moved s w (w.setCell ⟨s, 2, none⟩ (.int .i64 x)) := by
  obtain ⟨sl, c, mb, h0, h1, h2, h3, hsm, hsr, hmr, slt, mlt⟩ := h.blocks
  have e0 : (w.setCell ⟨s, 2, none⟩ (.int .i64 x)).heap[s]? = some (.cells #[.slice sl ns.length c, .map (some mb), .int .i64 x] 53) := by
    rw [heap_setCell_at h0]; simp
  have oth : ∀ k, k ≠ s → (w.setCell ⟨s, 2, none⟩ (.int .i64 x)).heap[k]? = w.heap[k]? := fun k hk => Below.heap_setCell _ _ _ _ hk
  refine ⟨⟨sl, c, mb, e0, (oth mb (Ne.symm hsm)).trans h1, ?_, h3⟩, rfl, rfl, rfl, by simp [World.setCell], fun k _ hno => oth k (fun e => hno (Or.inl e)), fun k ho => Or.inl ?_⟩
  · refine ⟨h2.1, ?_⟩
    rcases h2.2 with h4 | ⟨nb, cap, cur, e, hl, hh, r⟩
    · exact Or.inl h4
    · refine Or.inr ⟨nb, cap, cur, e, hl, ?_, r⟩
      rw [oth nb (by rintro rfl; rw [h0] at hh; simp at hh)]
      exact hh
  · unfold Own at ho ⊢
    rw [cell_of_heap e0, cell_of_heap e0] at ho
    rw [cell_of_heap h0, cell_of_heap h0]
    simpa using ho

def atom (a : Int) : Nd := ⟨1, ⟨#[]⟩, a, 0⟩

/-- What Fresh answers, and what is drawn behind it. -/
def freshD (ns : List Nd) (dr : Int) : Int := if (makeF ns (atom (dr + 1))).1 = 0 then dr else dr + 1

set_option maxHeartbeats 400000 in
theorem fresh_any {w : World} {s : Nat} {ns : List Nd} {dr : Int} (h : StoreAt w s ns dr) (d0 : 0 ≤ dr) (d1 : dr ≤ 1099511627776) :
    Calls Try.prog 15 #[.pointer (some ⟨s, 0, none⟩)] w fun e w' => e = .returned (.int .i64 (makeF ns (atom (dr + 1))).1) ∧ StoreAt w' s (makeF ns (atom (dr + 1))).2.2 (freshD ns dr) ∧ Moved s w w' := by
  obtain ⟨sl, c, mb, s0, s1, s2, sf, sm, sr, sn, slt⟩ := h.cells
  unfold freshD
  generalize hm : (makeF ns (atom (dr + 1))).1 = t
  generalize hl : (makeF ns (atom (dr + 1))).2.2 = ns'
  have Hc : Hid (∀ wx, StoreAt wx s ns dr → Calls Try.prog 32 #[.pointer (some ⟨s, 0, none⟩), .agg #[.int .i64 1, .string ⟨#[]⟩, .int .i64 (dr + 1), .int .i64 0]] wx fun e w' => e = .returned (.int .i64 t) ∧ StoreAt w' s ns' dr ∧ Moved s wx w') := by
    intro wx hx
    have := number_any hx (atom (dr + 1))
    rw [hm, hl] at this
    exact this
  clear hm hl
  by_cases ht : t = 0
  · have ht' : (t != 0) = false := by simp [ht]
    rw [if_pos ht]
    have Ht : Hid (t = 0) := ht
    clear ht
    go_enter Try.func15, Try.ntmps15
    go_wp2_with (go_at_call 32; refine (Hc.out _ h).mono ?_; rintro e w1 ⟨rfl, hst, hmv⟩)
    go_ret
    exact ⟨rfl, hst, hmv⟩
  · have ht' : (t != 0) = true := by simp [ht]
    rw [if_neg ht]
    have Ht : Hid (t ≠ 0) := ht
    clear ht
    go_enter Try.func15, Try.ntmps15
    go_wp2_with fail
    refine (Hc.out _ h).mono ?_
    rintro e w1 ⟨rfl, hst, hmv⟩
    obtain ⟨sl', c', mb', s0', s1', s2', sf', sm', sr', sn', slt'⟩ := hst.cells
    go_wp2
    go_ret
    exact ⟨rfl, (hst.setDrawn _).1, hmv.trans (hst.setDrawn _).2⟩

end Go.Proofs.Ytddjihlmlfchdaa
