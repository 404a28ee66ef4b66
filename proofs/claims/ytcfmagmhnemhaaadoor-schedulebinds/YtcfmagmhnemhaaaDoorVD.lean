/-
  The secrets that come of an epoch secret: derive.
-/
import Derived.Test.YtcfmagmhnemhaaaDoorVD0
import Derived.Deep.RegionHeld3
import Derived.Deep.DrawnRows
import Derived.Lib.LazyBuf
namespace Go.Proofs.YtcfmagmhnemhaaaDoor
open Go.RowKit
set_option linter.unusedSimpArgs false
set_option linter.unusedVariables false
attribute [local go_sem ↓] Go.wp_at_zero Go.wp_at_succ

theorem there86 (w : World) : World.there ((w.alloc (.cells #[.string ⟨#[]⟩, .pointer none, .string ⟨#[]⟩, .pointer none, .string ⟨#[]⟩, .pointer none, .string ⟨#[]⟩, .pointer none, .string ⟨#[]⟩, .pointer none, .string ⟨#[]⟩, .pointer none, .string ⟨#[]⟩, .pointer none, .string ⟨#[]⟩, .pointer none, .string ⟨#[]⟩, .pointer none] 86)).drew) w.heap.size 0 18 := fun j hj => by
  have h : ((w.alloc (.cells #[.string ⟨#[]⟩, .pointer none, .string ⟨#[]⟩, .pointer none, .string ⟨#[]⟩, .pointer none, .string ⟨#[]⟩, .pointer none, .string ⟨#[]⟩, .pointer none, .string ⟨#[]⟩, .pointer none, .string ⟨#[]⟩, .pointer none, .string ⟨#[]⟩, .pointer none, .string ⟨#[]⟩, .pointer none] 86)).drew).heap[w.heap.size]? = some (.cells #[.string ⟨#[]⟩, .pointer none, .string ⟨#[]⟩, .pointer none, .string ⟨#[]⟩, .pointer none, .string ⟨#[]⟩, .pointer none, .string ⟨#[]⟩, .pointer none, .string ⟨#[]⟩, .pointer none, .string ⟨#[]⟩, .pointer none, .string ⟨#[]⟩, .pointer none, .string ⟨#[]⟩, .pointer none] 86) := heap_alloc_new w _
  rw [cell_of_heap h, frozen_of_heap h]
  refine ⟨?_, rfl⟩
  rw [Nat.zero_add, Array.getElem?_eq_getElem (by simpa using hj)]
  rfl

theorem idx86 (w : World) (cs : Array Value) (k : Nat) (hk : k < 9) : (Instr.index 86 (.agg cs) (.int .i64 (k : Int))).run Tryd.prog w = .ok (.agg (cs.extract (k * 2) (k * 2 + 2))) w := by
  have h1 : ¬ 9 ≤ k := by omega
  simp [Instr.index, run_underlying Tryd.underlying86, asIntOf, h1, go_sem, Tryd.sizeOf85, part]

theorem epCells_set (a0 a1 a2 a3 : Int) (l : List Int) (k : Nat) (x : Int) : (epCells a0 a1 a2 a3 l).set (4 + k) (.int .i64 x) = epCells a0 a1 a2 a3 (l.set k x) := by
  rw [Nat.add_comm]
  simp [epCells, List.map_set]

set_option maxRecDepth 100000 in
set_option maxHeartbeats 4000000 in
theorem derive_m {w0 w : World} {s e : Nat} {ns0 ns : List Nd} {dr : Int} {c : Nat} (h : Run s w0 w ns0 ns dr c) (hb : Big w0) (he : w0.heap.size ≤ e) (hn : ¬ Own w s e) {a0 a1 a2 a3 : Int} (hc : Cells w e 34 (epCells a0 a1 a2 a3 (List.replicate 9 0))) {E : Tm} (hE : Means ns a3 E) (hr : (ns.length : Int) + 10 < 262144) :
    Calls Tryd.prog 39 #[.pointer (some ⟨e, 0, none⟩), .pointer (some ⟨s, 0, none⟩)] w fun r w' => r = .returned (.tuple #[]) ∧ ∃ ns' l, Run s w0 w' ns0 ns' dr (c + 10) ∧ ¬ Own w' s e ∧ l.length = 9 ∧ Cells w' e 34 (epCells a0 a1 a2 a3 l) ∧ Done ns' E l 9 ∧ ns <+: ns' := by
  go_enter Tryd.func39, Tryd.ntmps39
  go_wp2_with fail
  refine (text_m h.seat ⟨#[]⟩ (by decide) (by omega)).mono ?_
  rintro r w1 ⟨t1, ns1, rfl, r1, m1⟩
  have HR1 : Hid (Run s w0 w1 ns0 ns1 dr (c + 1)) := h.trans r1
  have HC1 : Hid (Cells w1 e 34 (epCells a0 a1 a2 a3 (List.replicate 9 0))) := hc.run r1 hn
  have HN1 : Hid (¬ Own w1 s e) := r1.mv.free hc.lt hn
  have HB1 : Hid (∀ X, Below w1.heap.size w1 ((w1.alloc X).drew)) := fun X => ((Below.refl _ _).alloc (Nat.le_refl _) X).drew
  have HM1 : Hid (Means ns1 t1 noT) := m1
  have HE1 : Hid (Means ns1 a3 E) := hE.keeps r1.st.pre
  have HP1 : Hid (ns <+: ns1) := r1.st.pre
  have Hl : Hid ((ns1.length : Int) + 9 < 262144) := by have := r1.st.len; unfold Hid; omega
  have Hb : Hid (Big w0) := hb
  have Hee : Hid (w0.heap.size ≤ e) := he
  clear hE hc hn r1 h hr hb he m1
  go_wp2_with fail
  refine wp_region_held_drew (S := fun _ => True) (by kernel_rfl) trivial (fun hS => ?_)
  refine wpAnyH_take (i := 0) (oi := _) (v := .pointer (some ⟨e, 0, none⟩)) rfl (by kernel_rfl) (by kernel_rfl) (by kernel_rfl) (fun _ _ _ h => h) (Or.inl ⟨by kernel_rfl, fun w' hw' => by
    try dsimp only at hw'
    go_simp⟩) hS ?_
  try simp only [Act.put, List.setIfInBounds_toArray, List.set_cons_zero, List.set_cons_succ]
  refine wpAnyH_take (i := 1) (oi := _) (v := .pointer (some ⟨e, 0, none⟩)) rfl (by kernel_rfl) (by kernel_rfl) (by kernel_rfl) (fun _ _ _ h => h) (Or.inl ⟨by kernel_rfl, fun w' hw' => by
    try dsimp only at hw'
    go_simp⟩) hS ?_
  try simp only [Act.put, List.setIfInBounds_toArray, List.set_cons_zero, List.set_cons_succ]
  refine wpAnyH_take (i := 2) (oi := _) (v := .pointer (some ⟨e, 4, none⟩)) rfl (by kernel_rfl) (by kernel_rfl) (by kernel_rfl) (fun _ _ _ h => h) (Or.inl ⟨by kernel_rfl, fun w' hw' => by
    try dsimp only at hw'
    go_simp⟩) hS ?_
  try simp only [Act.put, List.setIfInBounds_toArray, List.set_cons_zero, List.set_cons_succ]
  refine wpAnyH_take (i := 3) (oi := _) (v := .agg #[.string ⟨#[105, 110, 105, 116]⟩, .pointer (some ⟨e, 4, none⟩)]) rfl (by kernel_rfl) (by kernel_rfl) (by kernel_rfl) (fun _ _ _ h => h) (Or.inl ⟨by kernel_rfl, fun w' hw' => by
    try dsimp only at hw'
    go_simp⟩) hS ?_
  try simp only [Act.put, List.setIfInBounds_toArray, List.set_cons_zero, List.set_cons_succ]
  refine wpAnyH_take (i := 4) (oi := _) (v := .pointer (some ⟨e, 0, none⟩)) rfl (by kernel_rfl) (by kernel_rfl) (by kernel_rfl) (fun _ _ _ h => h) (Or.inl ⟨by kernel_rfl, fun w' hw' => by
    try dsimp only at hw'
    go_simp⟩) hS ?_
  try simp only [Act.put, List.setIfInBounds_toArray, List.set_cons_zero, List.set_cons_succ]
  refine wpAnyH_take (i := 5) (oi := _) (v := .pointer (some ⟨e, 0, none⟩)) rfl (by kernel_rfl) (by kernel_rfl) (by kernel_rfl) (fun _ _ _ h => h) (Or.inl ⟨by kernel_rfl, fun w' hw' => by
    try dsimp only at hw'
    go_simp⟩) hS ?_
  try simp only [Act.put, List.setIfInBounds_toArray, List.set_cons_zero, List.set_cons_succ]
  refine wpAnyH_take (i := 6) (oi := _) (v := .pointer (some ⟨e, 5, none⟩)) rfl (by kernel_rfl) (by kernel_rfl) (by kernel_rfl) (fun _ _ _ h => h) (Or.inl ⟨by kernel_rfl, fun w' hw' => by
    try dsimp only at hw'
    go_simp⟩) hS ?_
  try simp only [Act.put, List.setIfInBounds_toArray, List.set_cons_zero, List.set_cons_succ]
  refine wpAnyH_take (i := 7) (oi := _) (v := .agg #[.string ⟨#[100, 97, 116, 97]⟩, .pointer (some ⟨e, 5, none⟩)]) rfl (by kernel_rfl) (by kernel_rfl) (by kernel_rfl) (fun _ _ _ h => h) (Or.inl ⟨by kernel_rfl, fun w' hw' => by
    try dsimp only at hw'
    go_simp⟩) hS ?_
  try simp only [Act.put, List.setIfInBounds_toArray, List.set_cons_zero, List.set_cons_succ]
  refine wpAnyH_take (i := 8) (oi := _) (v := .pointer (some ⟨e, 0, none⟩)) rfl (by kernel_rfl) (by kernel_rfl) (by kernel_rfl) (fun _ _ _ h => h) (Or.inl ⟨by kernel_rfl, fun w' hw' => by
    try dsimp only at hw'
    go_simp⟩) hS ?_
  try simp only [Act.put, List.setIfInBounds_toArray, List.set_cons_zero, List.set_cons_succ]
  refine wpAnyH_take (i := 9) (oi := _) (v := .pointer (some ⟨e, 0, none⟩)) rfl (by kernel_rfl) (by kernel_rfl) (by kernel_rfl) (fun _ _ _ h => h) (Or.inl ⟨by kernel_rfl, fun w' hw' => by
    try dsimp only at hw'
    go_simp⟩) hS ?_
  try simp only [Act.put, List.setIfInBounds_toArray, List.set_cons_zero, List.set_cons_succ]
  refine wpAnyH_take (i := 10) (oi := _) (v := .pointer (some ⟨e, 6, none⟩)) rfl (by kernel_rfl) (by kernel_rfl) (by kernel_rfl) (fun _ _ _ h => h) (Or.inl ⟨by kernel_rfl, fun w' hw' => by
    try dsimp only at hw'
    go_simp⟩) hS ?_
  try simp only [Act.put, List.setIfInBounds_toArray, List.set_cons_zero, List.set_cons_succ]
  refine wpAnyH_take (i := 11) (oi := _) (v := .agg #[.string ⟨#[114, 97, 116, 99, 104, 101, 116, 115]⟩, .pointer (some ⟨e, 6, none⟩)]) rfl (by kernel_rfl) (by kernel_rfl) (by kernel_rfl) (fun _ _ _ h => h) (Or.inl ⟨by kernel_rfl, fun w' hw' => by
    try dsimp only at hw'
    go_simp⟩) hS ?_
  try simp only [Act.put, List.setIfInBounds_toArray, List.set_cons_zero, List.set_cons_succ]
  refine wpAnyH_take (i := 12) (oi := _) (v := .pointer (some ⟨e, 0, none⟩)) rfl (by kernel_rfl) (by kernel_rfl) (by kernel_rfl) (fun _ _ _ h => h) (Or.inl ⟨by kernel_rfl, fun w' hw' => by
    try dsimp only at hw'
    go_simp⟩) hS ?_
  try simp only [Act.put, List.setIfInBounds_toArray, List.set_cons_zero, List.set_cons_succ]
  refine wpAnyH_take (i := 13) (oi := _) (v := .pointer (some ⟨e, 0, none⟩)) rfl (by kernel_rfl) (by kernel_rfl) (by kernel_rfl) (fun _ _ _ h => h) (Or.inl ⟨by kernel_rfl, fun w' hw' => by
    try dsimp only at hw'
    go_simp⟩) hS ?_
  try simp only [Act.put, List.setIfInBounds_toArray, List.set_cons_zero, List.set_cons_succ]
  refine wpAnyH_take (i := 14) (oi := _) (v := .pointer (some ⟨e, 7, none⟩)) rfl (by kernel_rfl) (by kernel_rfl) (by kernel_rfl) (fun _ _ _ h => h) (Or.inl ⟨by kernel_rfl, fun w' hw' => by
    try dsimp only at hw'
    go_simp⟩) hS ?_
  try simp only [Act.put, List.setIfInBounds_toArray, List.set_cons_zero, List.set_cons_succ]
  refine wpAnyH_take (i := 15) (oi := _) (v := .agg #[.string ⟨#[101, 120, 112, 111, 114, 116, 101, 114]⟩, .pointer (some ⟨e, 7, none⟩)]) rfl (by kernel_rfl) (by kernel_rfl) (by kernel_rfl) (fun _ _ _ h => h) (Or.inl ⟨by kernel_rfl, fun w' hw' => by
    try dsimp only at hw'
    go_simp⟩) hS ?_
  try simp only [Act.put, List.setIfInBounds_toArray, List.set_cons_zero, List.set_cons_succ]
  refine wpAnyH_take (i := 16) (oi := _) (v := .pointer (some ⟨e, 0, none⟩)) rfl (by kernel_rfl) (by kernel_rfl) (by kernel_rfl) (fun _ _ _ h => h) (Or.inl ⟨by kernel_rfl, fun w' hw' => by
    try dsimp only at hw'
    go_simp⟩) hS ?_
  try simp only [Act.put, List.setIfInBounds_toArray, List.set_cons_zero, List.set_cons_succ]
  refine wpAnyH_take (i := 17) (oi := _) (v := .pointer (some ⟨e, 0, none⟩)) rfl (by kernel_rfl) (by kernel_rfl) (by kernel_rfl) (fun _ _ _ h => h) (Or.inl ⟨by kernel_rfl, fun w' hw' => by
    try dsimp only at hw'
    go_simp⟩) hS ?_
  try simp only [Act.put, List.setIfInBounds_toArray, List.set_cons_zero, List.set_cons_succ]
  refine wpAnyH_take (i := 18) (oi := _) (v := .pointer (some ⟨e, 8, none⟩)) rfl (by kernel_rfl) (by kernel_rfl) (by kernel_rfl) (fun _ _ _ h => h) (Or.inl ⟨by kernel_rfl, fun w' hw' => by
    try dsimp only at hw'
    go_simp⟩) hS ?_
  try simp only [Act.put, List.setIfInBounds_toArray, List.set_cons_zero, List.set_cons_succ]
  refine wpAnyH_take (i := 19) (oi := _) (v := .agg #[.string ⟨#[101, 120, 116, 101, 114, 110, 97, 108]⟩, .pointer (some ⟨e, 8, none⟩)]) rfl (by kernel_rfl) (by kernel_rfl) (by kernel_rfl) (fun _ _ _ h => h) (Or.inl ⟨by kernel_rfl, fun w' hw' => by
    try dsimp only at hw'
    go_simp⟩) hS ?_
  try simp only [Act.put, List.setIfInBounds_toArray, List.set_cons_zero, List.set_cons_succ]
  refine wpAnyH_take (i := 20) (oi := _) (v := .pointer (some ⟨e, 0, none⟩)) rfl (by kernel_rfl) (by kernel_rfl) (by kernel_rfl) (fun _ _ _ h => h) (Or.inl ⟨by kernel_rfl, fun w' hw' => by
    try dsimp only at hw'
    go_simp⟩) hS ?_
  try simp only [Act.put, List.setIfInBounds_toArray, List.set_cons_zero, List.set_cons_succ]
  refine wpAnyH_take (i := 21) (oi := _) (v := .pointer (some ⟨e, 0, none⟩)) rfl (by kernel_rfl) (by kernel_rfl) (by kernel_rfl) (fun _ _ _ h => h) (Or.inl ⟨by kernel_rfl, fun w' hw' => by
    try dsimp only at hw'
    go_simp⟩) hS ?_
  try simp only [Act.put, List.setIfInBounds_toArray, List.set_cons_zero, List.set_cons_succ]
  refine wpAnyH_take (i := 22) (oi := _) (v := .pointer (some ⟨e, 9, none⟩)) rfl (by kernel_rfl) (by kernel_rfl) (by kernel_rfl) (fun _ _ _ h => h) (Or.inl ⟨by kernel_rfl, fun w' hw' => by
    try dsimp only at hw'
    go_simp⟩) hS ?_
  try simp only [Act.put, List.setIfInBounds_toArray, List.set_cons_zero, List.set_cons_succ]
  refine wpAnyH_take (i := 23) (oi := _) (v := .agg #[.string ⟨#[99, 111, 110, 102, 105, 114, 109]⟩, .pointer (some ⟨e, 9, none⟩)]) rfl (by kernel_rfl) (by kernel_rfl) (by kernel_rfl) (fun _ _ _ h => h) (Or.inl ⟨by kernel_rfl, fun w' hw' => by
    try dsimp only at hw'
    go_simp⟩) hS ?_
  try simp only [Act.put, List.setIfInBounds_toArray, List.set_cons_zero, List.set_cons_succ]
  refine wpAnyH_take (i := 24) (oi := _) (v := .pointer (some ⟨e, 0, none⟩)) rfl (by kernel_rfl) (by kernel_rfl) (by kernel_rfl) (fun _ _ _ h => h) (Or.inl ⟨by kernel_rfl, fun w' hw' => by
    try dsimp only at hw'
    go_simp⟩) hS ?_
  try simp only [Act.put, List.setIfInBounds_toArray, List.set_cons_zero, List.set_cons_succ]
  refine wpAnyH_take (i := 25) (oi := _) (v := .pointer (some ⟨e, 0, none⟩)) rfl (by kernel_rfl) (by kernel_rfl) (by kernel_rfl) (fun _ _ _ h => h) (Or.inl ⟨by kernel_rfl, fun w' hw' => by
    try dsimp only at hw'
    go_simp⟩) hS ?_
  try simp only [Act.put, List.setIfInBounds_toArray, List.set_cons_zero, List.set_cons_succ]
  refine wpAnyH_take (i := 26) (oi := _) (v := .pointer (some ⟨e, 10, none⟩)) rfl (by kernel_rfl) (by kernel_rfl) (by kernel_rfl) (fun _ _ _ h => h) (Or.inl ⟨by kernel_rfl, fun w' hw' => by
    try dsimp only at hw'
    go_simp⟩) hS ?_
  try simp only [Act.put, List.setIfInBounds_toArray, List.set_cons_zero, List.set_cons_succ]
  refine wpAnyH_take (i := 27) (oi := _) (v := .agg #[.string ⟨#[109, 101, 109, 98, 101, 114, 115, 104, 105, 112]⟩, .pointer (some ⟨e, 10, none⟩)]) rfl (by kernel_rfl) (by kernel_rfl) (by kernel_rfl) (fun _ _ _ h => h) (Or.inl ⟨by kernel_rfl, fun w' hw' => by
    try dsimp only at hw'
    go_simp⟩) hS ?_
  try simp only [Act.put, List.setIfInBounds_toArray, List.set_cons_zero, List.set_cons_succ]
  refine wpAnyH_take (i := 28) (oi := _) (v := .pointer (some ⟨e, 0, none⟩)) rfl (by kernel_rfl) (by kernel_rfl) (by kernel_rfl) (fun _ _ _ h => h) (Or.inl ⟨by kernel_rfl, fun w' hw' => by
    try dsimp only at hw'
    go_simp⟩) hS ?_
  try simp only [Act.put, List.setIfInBounds_toArray, List.set_cons_zero, List.set_cons_succ]
  refine wpAnyH_take (i := 29) (oi := _) (v := .pointer (some ⟨e, 0, none⟩)) rfl (by kernel_rfl) (by kernel_rfl) (by kernel_rfl) (fun _ _ _ h => h) (Or.inl ⟨by kernel_rfl, fun w' hw' => by
    try dsimp only at hw'
    go_simp⟩) hS ?_
  try simp only [Act.put, List.setIfInBounds_toArray, List.set_cons_zero, List.set_cons_succ]
  refine wpAnyH_take (i := 30) (oi := _) (v := .pointer (some ⟨e, 11, none⟩)) rfl (by kernel_rfl) (by kernel_rfl) (by kernel_rfl) (fun _ _ _ h => h) (Or.inl ⟨by kernel_rfl, fun w' hw' => by
    try dsimp only at hw'
    go_simp⟩) hS ?_
  try simp only [Act.put, List.setIfInBounds_toArray, List.set_cons_zero, List.set_cons_succ]
  refine wpAnyH_take (i := 31) (oi := _) (v := .agg #[.string ⟨#[114, 101, 115, 117, 109, 112, 116, 105, 111, 110]⟩, .pointer (some ⟨e, 11, none⟩)]) rfl (by kernel_rfl) (by kernel_rfl) (by kernel_rfl) (fun _ _ _ h => h) (Or.inl ⟨by kernel_rfl, fun w' hw' => by
    try dsimp only at hw'
    go_simp⟩) hS ?_
  try simp only [Act.put, List.setIfInBounds_toArray, List.set_cons_zero, List.set_cons_succ]
  refine wpAnyH_take (i := 32) (oi := _) (v := .pointer (some ⟨e, 0, none⟩)) rfl (by kernel_rfl) (by kernel_rfl) (by kernel_rfl) (fun _ _ _ h => h) (Or.inl ⟨by kernel_rfl, fun w' hw' => by
    try dsimp only at hw'
    go_simp⟩) hS ?_
  try simp only [Act.put, List.setIfInBounds_toArray, List.set_cons_zero, List.set_cons_succ]
  refine wpAnyH_take (i := 33) (oi := _) (v := .pointer (some ⟨e, 0, none⟩)) rfl (by kernel_rfl) (by kernel_rfl) (by kernel_rfl) (fun _ _ _ h => h) (Or.inl ⟨by kernel_rfl, fun w' hw' => by
    try dsimp only at hw'
    go_simp⟩) hS ?_
  try simp only [Act.put, List.setIfInBounds_toArray, List.set_cons_zero, List.set_cons_succ]
  refine wpAnyH_take (i := 34) (oi := _) (v := .pointer (some ⟨e, 12, none⟩)) rfl (by kernel_rfl) (by kernel_rfl) (by kernel_rfl) (fun _ _ _ h => h) (Or.inl ⟨by kernel_rfl, fun w' hw' => by
    try dsimp only at hw'
    go_simp⟩) hS ?_
  try simp only [Act.put, List.setIfInBounds_toArray, List.set_cons_zero, List.set_cons_succ]
  refine wpAnyH_take (i := 35) (oi := _) (v := .agg #[.string ⟨#[97, 117, 116, 104, 101, 110, 116, 105, 99, 97, 116, 111, 114]⟩, .pointer (some ⟨e, 12, none⟩)]) rfl (by kernel_rfl) (by kernel_rfl) (by kernel_rfl) (fun _ _ _ h => h) (Or.inl ⟨by kernel_rfl, fun w' hw' => by
    try dsimp only at hw'
    go_simp⟩) hS ?_
  try simp only [Act.put, List.setIfInBounds_toArray, List.set_cons_zero, List.set_cons_succ]
  refine wpAnyH_take (i := 36) (oi := _) (v := .agg #[.string ⟨#[105, 110, 105, 116]⟩, .pointer (some ⟨e, 4, none⟩), .string ⟨#[100, 97, 116, 97]⟩, .pointer (some ⟨e, 5, none⟩), .string ⟨#[114, 97, 116, 99, 104, 101, 116, 115]⟩, .pointer (some ⟨e, 6, none⟩), .string ⟨#[101, 120, 112, 111, 114, 116, 101, 114]⟩, .pointer (some ⟨e, 7, none⟩), .string ⟨#[101, 120, 116, 101, 114, 110, 97, 108]⟩, .pointer (some ⟨e, 8, none⟩), .string ⟨#[99, 111, 110, 102, 105, 114, 109]⟩, .pointer (some ⟨e, 9, none⟩), .string ⟨#[109, 101, 109, 98, 101, 114, 115, 104, 105, 112]⟩, .pointer (some ⟨e, 10, none⟩), .string ⟨#[114, 101, 115, 117, 109, 112, 116, 105, 111, 110]⟩, .pointer (some ⟨e, 11, none⟩), .string ⟨#[97, 117, 116, 104, 101, 110, 116, 105, 99, 97, 116, 111, 114]⟩, .pointer (some ⟨e, 12, none⟩)]) rfl (by kernel_rfl) (by kernel_rfl) (by kernel_rfl) (fun _ _ _ h => h) (Or.inl ⟨by kernel_rfl, fun w' hw' => by
    try dsimp only at hw'
    go_simp⟩) hS ?_
  try simp only [Act.put, List.setIfInBounds_toArray, List.set_cons_zero, List.set_cons_succ]
  refine wpAnyH_ready (rs := [37]) (by kernel_rfl) (by simp) ?_
  refine AllReadyH.cons (o := _) rfl (fun K hK => ?_) AllReadyH.nil
  go_simp
  refine hK.out _ _ trivial (fun hS => ?_)
  clear hK K
  try simp only [Act.put, List.setIfInBounds_toArray, List.set_cons_zero, List.set_cons_succ]
  refine wpAnyH_ready (rs := [38]) (by kernel_rfl) (by simp) ?_
  refine AllReadyH.cons (o := _) rfl (fun K hK => ?_) AllReadyH.nil
  rw [if_pos (by kernel_rfl)]
  have hth : World.there ((w1.alloc (.cells #[.string ⟨#[]⟩, .pointer none, .string ⟨#[]⟩, .pointer none, .string ⟨#[]⟩, .pointer none, .string ⟨#[]⟩, .pointer none, .string ⟨#[]⟩, .pointer none, .string ⟨#[]⟩, .pointer none, .string ⟨#[]⟩, .pointer none, .string ⟨#[]⟩, .pointer none, .string ⟨#[]⟩, .pointer none] 86)).drew) w1.heap.size 0 18 := there86 w1
  obtain ⟨Wa, hWa⟩ : ∃ Wa, (w1.alloc (.cells #[.string ⟨#[]⟩, .pointer none, .string ⟨#[]⟩, .pointer none, .string ⟨#[]⟩, .pointer none, .string ⟨#[]⟩, .pointer none, .string ⟨#[]⟩, .pointer none, .string ⟨#[]⟩, .pointer none, .string ⟨#[]⟩, .pointer none, .string ⟨#[]⟩, .pointer none, .string ⟨#[]⟩, .pointer none] 86)).drew = Wa := ⟨_, rfl⟩
  have hba : Below w1.heap.size w1 Wa := by rw [← hWa]; exact ((Below.refl _ _).alloc (Nat.le_refl _) _).drew
  rw [hWa] at hth
  first | rw [hWa] | (simp only [World.alloc_drew]; rw [hWa])
  clear hWa
  refine wp_store_mid 86 (.tmp 5) (.tmp 46) rfl w1.heap.size 0 (#[.string ⟨#[105, 110, 105, 116]⟩, .pointer (some ⟨e, 4, none⟩), .string ⟨#[100, 97, 116, 97]⟩, .pointer (some ⟨e, 5, none⟩), .string ⟨#[114, 97, 116, 99, 104, 101, 116, 115]⟩, .pointer (some ⟨e, 6, none⟩), .string ⟨#[101, 120, 112, 111, 114, 116, 101, 114]⟩, .pointer (some ⟨e, 7, none⟩), .string ⟨#[101, 120, 116, 101, 114, 110, 97, 108]⟩, .pointer (some ⟨e, 8, none⟩), .string ⟨#[99, 111, 110, 102, 105, 114, 109]⟩, .pointer (some ⟨e, 9, none⟩), .string ⟨#[109, 101, 109, 98, 101, 114, 115, 104, 105, 112]⟩, .pointer (some ⟨e, 10, none⟩), .string ⟨#[114, 101, 115, 117, 109, 112, 116, 105, 111, 110]⟩, .pointer (some ⟨e, 11, none⟩), .string ⟨#[97, 117, 116, 104, 101, 110, 116, 105, 99, 97, 116, 111, 114]⟩, .pointer (some ⟨e, 12, none⟩)]) (by rfl) (by rfl) hth (by kernel_rfl) (by simp [Value.oneCell']) ?_
  have hVl : (#[.string ⟨#[105, 110, 105, 116]⟩, .pointer (some ⟨e, 4, none⟩), .string ⟨#[100, 97, 116, 97]⟩, .pointer (some ⟨e, 5, none⟩), .string ⟨#[114, 97, 116, 99, 104, 101, 116, 115]⟩, .pointer (some ⟨e, 6, none⟩), .string ⟨#[101, 120, 112, 111, 114, 116, 101, 114]⟩, .pointer (some ⟨e, 7, none⟩), .string ⟨#[101, 120, 116, 101, 114, 110, 97, 108]⟩, .pointer (some ⟨e, 8, none⟩), .string ⟨#[99, 111, 110, 102, 105, 114, 109]⟩, .pointer (some ⟨e, 9, none⟩), .string ⟨#[109, 101, 109, 98, 101, 114, 115, 104, 105, 112]⟩, .pointer (some ⟨e, 10, none⟩), .string ⟨#[114, 101, 115, 117, 109, 112, 116, 105, 111, 110]⟩, .pointer (some ⟨e, 11, none⟩), .string ⟨#[97, 117, 116, 104, 101, 110, 116, 105, 99, 97, 116, 111, 114]⟩, .pointer (some ⟨e, 12, none⟩)] : Array Value).toList.length = 18 := rfl
  have hthere : World.there Wa w1.heap.size 0 (#[.string ⟨#[105, 110, 105, 116]⟩, .pointer (some ⟨e, 4, none⟩), .string ⟨#[100, 97, 116, 97]⟩, .pointer (some ⟨e, 5, none⟩), .string ⟨#[114, 97, 116, 99, 104, 101, 116, 115]⟩, .pointer (some ⟨e, 6, none⟩), .string ⟨#[101, 120, 112, 111, 114, 116, 101, 114]⟩, .pointer (some ⟨e, 7, none⟩), .string ⟨#[101, 120, 116, 101, 114, 110, 97, 108]⟩, .pointer (some ⟨e, 8, none⟩), .string ⟨#[99, 111, 110, 102, 105, 114, 109]⟩, .pointer (some ⟨e, 9, none⟩), .string ⟨#[109, 101, 109, 98, 101, 114, 115, 104, 105, 112]⟩, .pointer (some ⟨e, 10, none⟩), .string ⟨#[114, 101, 115, 117, 109, 112, 116, 105, 111, 110]⟩, .pointer (some ⟨e, 11, none⟩), .string ⟨#[97, 117, 116, 104, 101, 110, 116, 105, 99, 97, 116, 111, 114]⟩, .pointer (some ⟨e, 12, none⟩)] : Array Value).toList.length := hth
  have hld := World.rangeAt_setCells_same Wa w1.heap.size 0 _ hthere
  have HBW : Hid (Below w1.heap.size w1 (Wa.setCells w1.heap.size 0 (#[.string ⟨#[105, 110, 105, 116]⟩, .pointer (some ⟨e, 4, none⟩), .string ⟨#[100, 97, 116, 97]⟩, .pointer (some ⟨e, 5, none⟩), .string ⟨#[114, 97, 116, 99, 104, 101, 116, 115]⟩, .pointer (some ⟨e, 6, none⟩), .string ⟨#[101, 120, 112, 111, 114, 116, 101, 114]⟩, .pointer (some ⟨e, 7, none⟩), .string ⟨#[101, 120, 116, 101, 114, 110, 97, 108]⟩, .pointer (some ⟨e, 8, none⟩), .string ⟨#[99, 111, 110, 102, 105, 114, 109]⟩, .pointer (some ⟨e, 9, none⟩), .string ⟨#[109, 101, 109, 98, 101, 114, 115, 104, 105, 112]⟩, .pointer (some ⟨e, 10, none⟩), .string ⟨#[114, 101, 115, 117, 109, 112, 116, 105, 111, 110]⟩, .pointer (some ⟨e, 11, none⟩), .string ⟨#[97, 117, 116, 104, 101, 110, 116, 105, 99, 97, 116, 111, 114]⟩, .pointer (some ⟨e, 12, none⟩)] : Array Value).toList)) := below_setCells (Nat.le_refl _) _ _ _ hba
  obtain ⟨Wd, hWd⟩ : ∃ Wd, Wa.setCells w1.heap.size 0 (#[.string ⟨#[105, 110, 105, 116]⟩, .pointer (some ⟨e, 4, none⟩), .string ⟨#[100, 97, 116, 97]⟩, .pointer (some ⟨e, 5, none⟩), .string ⟨#[114, 97, 116, 99, 104, 101, 116, 115]⟩, .pointer (some ⟨e, 6, none⟩), .string ⟨#[101, 120, 112, 111, 114, 116, 101, 114]⟩, .pointer (some ⟨e, 7, none⟩), .string ⟨#[101, 120, 116, 101, 114, 110, 97, 108]⟩, .pointer (some ⟨e, 8, none⟩), .string ⟨#[99, 111, 110, 102, 105, 114, 109]⟩, .pointer (some ⟨e, 9, none⟩), .string ⟨#[109, 101, 109, 98, 101, 114, 115, 104, 105, 112]⟩, .pointer (some ⟨e, 10, none⟩), .string ⟨#[114, 101, 115, 117, 109, 112, 116, 105, 111, 110]⟩, .pointer (some ⟨e, 11, none⟩), .string ⟨#[97, 117, 116, 104, 101, 110, 116, 105, 99, 97, 116, 111, 114]⟩, .pointer (some ⟨e, 12, none⟩)] : Array Value).toList = Wd := ⟨_, rfl⟩
  rw [hWd] at HBW hld
  rw [hWd]
  have Hld : Hid (World.rangeAt Wd w1.heap.size 0 (#[.string ⟨#[105, 110, 105, 116]⟩, .pointer (some ⟨e, 4, none⟩), .string ⟨#[100, 97, 116, 97]⟩, .pointer (some ⟨e, 5, none⟩), .string ⟨#[114, 97, 116, 99, 104, 101, 116, 115]⟩, .pointer (some ⟨e, 6, none⟩), .string ⟨#[101, 120, 112, 111, 114, 116, 101, 114]⟩, .pointer (some ⟨e, 7, none⟩), .string ⟨#[101, 120, 116, 101, 114, 110, 97, 108]⟩, .pointer (some ⟨e, 8, none⟩), .string ⟨#[99, 111, 110, 102, 105, 114, 109]⟩, .pointer (some ⟨e, 9, none⟩), .string ⟨#[109, 101, 109, 98, 101, 114, 115, 104, 105, 112]⟩, .pointer (some ⟨e, 10, none⟩), .string ⟨#[114, 101, 115, 117, 109, 112, 116, 105, 111, 110]⟩, .pointer (some ⟨e, 11, none⟩), .string ⟨#[97, 117, 116, 104, 101, 110, 116, 105, 99, 97, 116, 111, 114]⟩, .pointer (some ⟨e, 12, none⟩)] : Array Value).toList) := hld
  clear hWd hba hth hthere hVl HB1 hld
  go_simp
  refine hK.out _ _ trivial (fun hS => ?_)
  clear hK K
  try simp only [Act.put, List.setIfInBounds_toArray, List.set_cons_zero, List.set_cons_succ]
  refine wpAnyH_done (by kernel_rfl) ?_ _
  go_wp2_with (refine wpList_load_mid (by rfl) 86 (.tmp 5) (by rfl) w1.heap.size 0 (by rfl) (#[.string ⟨#[105, 110, 105, 116]⟩, .pointer (some ⟨e, 4, none⟩), .string ⟨#[100, 97, 116, 97]⟩, .pointer (some ⟨e, 5, none⟩), .string ⟨#[114, 97, 116, 99, 104, 101, 116, 115]⟩, .pointer (some ⟨e, 6, none⟩), .string ⟨#[101, 120, 112, 111, 114, 116, 101, 114]⟩, .pointer (some ⟨e, 7, none⟩), .string ⟨#[101, 120, 116, 101, 114, 110, 97, 108]⟩, .pointer (some ⟨e, 8, none⟩), .string ⟨#[99, 111, 110, 102, 105, 114, 109]⟩, .pointer (some ⟨e, 9, none⟩), .string ⟨#[109, 101, 109, 98, 101, 114, 115, 104, 105, 112]⟩, .pointer (some ⟨e, 10, none⟩), .string ⟨#[114, 101, 115, 117, 109, 112, 116, 105, 111, 110]⟩, .pointer (some ⟨e, 11, none⟩), .string ⟨#[97, 117, 116, 104, 101, 110, 116, 105, 99, 97, 116, 111, 114]⟩, .pointer (some ⟨e, 12, none⟩)] : Array Value).toList _ Hld.out Tryd.underlying86 rfl (by kernel_rfl) ?_)
  go_loopw [48] (fun i wr => ∃ (k : Nat) (nsk : List Nd) (lk : List Int), k ≤ 9 ∧ i = .int .i64 k ∧ Hid (Run s w0 wr ns0 nsk dr (c + 1 + k)) ∧ Hid (¬ Own wr s e) ∧ Hid (lk.length = 9) ∧ Hid (Cells wr e 34 (epCells a0 a1 a2 a3 lk)) ∧ Hid (Done nsk E lk k) ∧ Hid (ns1 <+: nsk) ∧ Hid (nsk.length ≤ ns1.length + k)) (fun i _ => 9 - (intOf i).toNat)
  case atStart =>
    exact ⟨0, ns1, List.replicate 9 0, by omega, rfl, HR1.out.after HBW.out, fun ho => HN1.out ((own_below1 HR1.out.seat.st.lt HBW.out e).1 ho), rfl, Cells.below HC1.out HBW.out, fun j hj => absurd hj (Nat.not_lt_zero _), List.prefix_refl _, Nat.le_refl _⟩
  case round =>
    obtain ⟨k, nsk, lk, hk, rfl, HR, HN, HL, HC, HD, HP, HQ⟩ := hrel
    have hcs := HC.out
    by_cases hlt : k < 9
    · obtain ⟨o, ho⟩ : ∃ o, lk[k]? = some o := ⟨lk[k]'(by have := HL.out; omega), by simp [HL.out, hlt]⟩
      have c3 : wr.cell? ⟨e, 3, none⟩ = some (.int .i64 a3) := by rw [hcs.cell]; rfl
      have hcl := hcs.lt
      have Ho : Hid (lk[k]? = some o) := ho
      have kw0 : True := trivial
      have HQ2 : Hid ((nsk.length : Int) < 262144) := by have := HQ.out; have := Hl.out; unfold Hid; omega
      clear hk
      rcases (by decide : ∀ k < 9, k = 0 ∨ k = 1 ∨ k = 2 ∨ k = 3 ∨ k = 4 ∨ k = 5 ∨ k = 6 ∨ k = 7 ∨ k = 8) k hlt with rfl | rfl | rfl | rfl | rfl | rfl | rfl | rfl | rfl
      · clear kw0 ho
        have hx : (Instr.index 86 (.agg #[.string ⟨#[105, 110, 105, 116]⟩, .pointer (some ⟨e, 4, none⟩), .string ⟨#[100, 97, 116, 97]⟩, .pointer (some ⟨e, 5, none⟩), .string ⟨#[114, 97, 116, 99, 104, 101, 116, 115]⟩, .pointer (some ⟨e, 6, none⟩), .string ⟨#[101, 120, 112, 111, 114, 116, 101, 114]⟩, .pointer (some ⟨e, 7, none⟩), .string ⟨#[101, 120, 116, 101, 114, 110, 97, 108]⟩, .pointer (some ⟨e, 8, none⟩), .string ⟨#[99, 111, 110, 102, 105, 114, 109]⟩, .pointer (some ⟨e, 9, none⟩), .string ⟨#[109, 101, 109, 98, 101, 114, 115, 104, 105, 112]⟩, .pointer (some ⟨e, 10, none⟩), .string ⟨#[114, 101, 115, 117, 109, 112, 116, 105, 111, 110]⟩, .pointer (some ⟨e, 11, none⟩), .string ⟨#[97, 117, 116, 104, 101, 110, 116, 105, 99, 97, 116, 111, 114]⟩, .pointer (some ⟨e, 12, none⟩)]) (.int .i64 0)).run Tryd.prog wr = .ok (.agg #[.string ⟨#[105, 110, 105, 116]⟩, .pointer (some ⟨e, 4, none⟩)]) wr := by
          refine (idx86 wr _ 0 (by decide)).trans ?_
          simp
        have hal : Below wr.heap.size wr ((wr.alloc (.cells #[.string ⟨#[105, 110, 105, 116]⟩, .pointer (some ⟨e, 4, none⟩)] 85)).drew) := ((Below.refl _ _).alloc (Nat.le_refl _) _).drew
        have HWE : Hid (wr.heap.size ≠ e) := by unfold Hid; omega
        have q3 := (hal.cell (p := ⟨e, 3, none⟩) hcl).trans c3
        have q0 : ((wr.alloc (.cells #[.string ⟨#[105, 110, 105, 116]⟩, .pointer (some ⟨e, 4, none⟩)] 85)).drew).cell? ⟨wr.heap.size, 0, none⟩ = some (.string ⟨#[105, 110, 105, 116]⟩) := by go_simp
        have q1 : ((wr.alloc (.cells #[.string ⟨#[105, 110, 105, 116]⟩, .pointer (some ⟨e, 4, none⟩)] 85)).drew).cell? ⟨wr.heap.size, 1, none⟩ = some (.pointer (some ⟨e, 4, none⟩)) := by go_simp
        have HR2 : Hid (Run s w0 ((wr.alloc (.cells #[.string ⟨#[105, 110, 105, 116]⟩, .pointer (some ⟨e, 4, none⟩)] 85)).drew) ns0 nsk dr (c + 1 + 0)) := HR.out.after hal
        have nd : ¬ Own ((wr.alloc (.cells #[.string ⟨#[105, 110, 105, 116]⟩, .pointer (some ⟨e, 4, none⟩)] 85)).drew) s wr.heap.size := fun ho => by
          have hh := HR.out.seat.st.own_lt ((own_below1 HR.out.seat.st.lt hal _).1 ho)
          omega
        have ne : ¬ Own ((wr.alloc (.cells #[.string ⟨#[105, 110, 105, 116]⟩, .pointer (some ⟨e, 4, none⟩)] 85)).drew) s e := fun ho => HN.out ((own_below1 HR.out.seat.st.lt hal _).1 ho)
        have HC2 : Hid (Cells ((wr.alloc (.cells #[.string ⟨#[105, 110, 105, 116]⟩, .pointer (some ⟨e, 4, none⟩)] 85)).drew) e 34 (epCells a0 a1 a2 a3 lk)) := Cells.below HC.out hal
        have ld : wr.heap.size < ((wr.alloc (.cells #[.string ⟨#[105, 110, 105, 116]⟩, .pointer (some ⟨e, 4, none⟩)] 85)).drew).heap.size := by simp
        have Hnd : Hid (¬ Own ((wr.alloc (.cells #[.string ⟨#[105, 110, 105, 116]⟩, .pointer (some ⟨e, 4, none⟩)] 85)).drew) s wr.heap.size ∧ wr.heap.size < ((wr.alloc (.cells #[.string ⟨#[105, 110, 105, 116]⟩, .pointer (some ⟨e, 4, none⟩)] 85)).drew).heap.size) := ⟨nd, ld⟩
        have Hne : Hid (¬ Own ((wr.alloc (.cells #[.string ⟨#[105, 110, 105, 116]⟩, .pointer (some ⟨e, 4, none⟩)] 85)).drew) s e) := ne
        clear c3 hal nd ne ld
        go_wp2_with (rw [hx])
        go_region_held3 (fun w' => w'.cell? ⟨wr.heap.size, 0, none⟩ = some (.string ⟨#[105, 110, 105, 116]⟩) ∧ w'.cell? ⟨wr.heap.size, 1, none⟩ = some (.pointer (some ⟨e, 4, none⟩)) ∧ w'.cell? ⟨e, 3, none⟩ = some (.int .i64 a3))
          (first | exact ⟨q0, q1, q3⟩ | exact ⟨(World.cell?_of_block (w := w2) (a := ⟨wr.heap.size, 0, none⟩) (Below.heap_setCell _ _ _ _ HWE.out)).trans q0, (World.cell?_of_block (w := w2) (a := ⟨wr.heap.size, 1, none⟩) (Below.heap_setCell _ _ _ _ HWE.out)).trans q1, by rw [Cells.cell (Cells.set hc2 4 (.int .i64 t2))]; rfl⟩)
          (first
            | (go_at_call 29; refine (kdf_m HR2.out.seat kInit (by decide) HQ2.out (HE1.out.keeps HP.out) (HM1.out.keeps HP.out)).mono ?_; rintro r w2 ⟨t2, ns2, rfl, r2, m2⟩; replace q0 := (r2.cell Hnd.out.2 Hnd.out.1 0).trans q0; replace q1 := (r2.cell Hnd.out.2 Hnd.out.1 1).trans q1; replace q3 := (r2.cell HC2.out.lt Hne.out 3).trans q3; have hc2 := Cells.run HC2.out r2 Hne.out; have hk2 : w2.cell? ⟨e, 4, none⟩ = some (.int .i64 o) := by { rw [hc2.cell]; simp [epCells, Ho.out] }; have fk2 : w2.frozen? ⟨e, 4, none⟩ = false := hc2.frozen _; have n2 := r2.mv.free HC2.out.lt Hne.out; have HR3 : Hid (Run s w0 w2 ns0 ns2 dr (c + 1 + 0 + 1)) := HR2.out.trans r2; have HM2 : Hid (Means ns2 t2 (ofT kInit E)) := m2; have HS2 : Hid (Stp nsk ns2 1) := r2.st; clear r2 m2)
            | fail)
        obtain ⟨R4, n4⟩ := HR3.out.setE Hb.out Hee.out n2 4 (.int .i64 t2)
        have HR4 : Hid (Run s w0 (w2.setCell ⟨e, 4, none⟩ (.int .i64 t2)) ns0 ns2 dr (c + 1 + 0 + 1)) := R4
        have HN4 : Hid (¬ Own (w2.setCell ⟨e, 4, none⟩ (.int .i64 t2)) s e) := n4
        have HC4 : Hid (Cells (w2.setCell ⟨e, 4, none⟩ (.int .i64 t2)) e 34 (epCells a0 a1 a2 a3 (lk.set 0 t2))) := by
          have := hc2.set 4 (.int .i64 t2)
          rwa [show 4 = 4 + 0 from rfl, epCells_set] at this
        clear R4 n4 hc2 hk2 fk2 n2 q0 q1 q3 hx
        go_wp2_with fail
        go_roundw
        case rel => exact ⟨1, ns2, lk.set 0 t2, by omega, by go_num, HR4.out, HN4.out, by unfold Hid; rw [List.length_set]; exact HL.out, HC4.out, (HD.out.keeps HS2.out.pre).put (by rw [HL.out]; decide) rfl HM2.out, HP.out.trans HS2.out.pre, by have h1 := HQ.out; have h2 := HS2.out.len; unfold Hid; omega⟩
        case measure => simp [intOf]
      · clear kw0 ho
        have hx : (Instr.index 86 (.agg #[.string ⟨#[105, 110, 105, 116]⟩, .pointer (some ⟨e, 4, none⟩), .string ⟨#[100, 97, 116, 97]⟩, .pointer (some ⟨e, 5, none⟩), .string ⟨#[114, 97, 116, 99, 104, 101, 116, 115]⟩, .pointer (some ⟨e, 6, none⟩), .string ⟨#[101, 120, 112, 111, 114, 116, 101, 114]⟩, .pointer (some ⟨e, 7, none⟩), .string ⟨#[101, 120, 116, 101, 114, 110, 97, 108]⟩, .pointer (some ⟨e, 8, none⟩), .string ⟨#[99, 111, 110, 102, 105, 114, 109]⟩, .pointer (some ⟨e, 9, none⟩), .string ⟨#[109, 101, 109, 98, 101, 114, 115, 104, 105, 112]⟩, .pointer (some ⟨e, 10, none⟩), .string ⟨#[114, 101, 115, 117, 109, 112, 116, 105, 111, 110]⟩, .pointer (some ⟨e, 11, none⟩), .string ⟨#[97, 117, 116, 104, 101, 110, 116, 105, 99, 97, 116, 111, 114]⟩, .pointer (some ⟨e, 12, none⟩)]) (.int .i64 1)).run Tryd.prog wr = .ok (.agg #[.string ⟨#[100, 97, 116, 97]⟩, .pointer (some ⟨e, 5, none⟩)]) wr := by
          refine (idx86 wr _ 1 (by decide)).trans ?_
          simp
        have hal : Below wr.heap.size wr ((wr.alloc (.cells #[.string ⟨#[100, 97, 116, 97]⟩, .pointer (some ⟨e, 5, none⟩)] 85)).drew) := ((Below.refl _ _).alloc (Nat.le_refl _) _).drew
        have HWE : Hid (wr.heap.size ≠ e) := by unfold Hid; omega
        have q3 := (hal.cell (p := ⟨e, 3, none⟩) hcl).trans c3
        have q0 : ((wr.alloc (.cells #[.string ⟨#[100, 97, 116, 97]⟩, .pointer (some ⟨e, 5, none⟩)] 85)).drew).cell? ⟨wr.heap.size, 0, none⟩ = some (.string ⟨#[100, 97, 116, 97]⟩) := by go_simp
        have q1 : ((wr.alloc (.cells #[.string ⟨#[100, 97, 116, 97]⟩, .pointer (some ⟨e, 5, none⟩)] 85)).drew).cell? ⟨wr.heap.size, 1, none⟩ = some (.pointer (some ⟨e, 5, none⟩)) := by go_simp
        have HR2 : Hid (Run s w0 ((wr.alloc (.cells #[.string ⟨#[100, 97, 116, 97]⟩, .pointer (some ⟨e, 5, none⟩)] 85)).drew) ns0 nsk dr (c + 1 + 1)) := HR.out.after hal
        have nd : ¬ Own ((wr.alloc (.cells #[.string ⟨#[100, 97, 116, 97]⟩, .pointer (some ⟨e, 5, none⟩)] 85)).drew) s wr.heap.size := fun ho => by
          have hh := HR.out.seat.st.own_lt ((own_below1 HR.out.seat.st.lt hal _).1 ho)
          omega
        have ne : ¬ Own ((wr.alloc (.cells #[.string ⟨#[100, 97, 116, 97]⟩, .pointer (some ⟨e, 5, none⟩)] 85)).drew) s e := fun ho => HN.out ((own_below1 HR.out.seat.st.lt hal _).1 ho)
        have HC2 : Hid (Cells ((wr.alloc (.cells #[.string ⟨#[100, 97, 116, 97]⟩, .pointer (some ⟨e, 5, none⟩)] 85)).drew) e 34 (epCells a0 a1 a2 a3 lk)) := Cells.below HC.out hal
        have ld : wr.heap.size < ((wr.alloc (.cells #[.string ⟨#[100, 97, 116, 97]⟩, .pointer (some ⟨e, 5, none⟩)] 85)).drew).heap.size := by simp
        have Hnd : Hid (¬ Own ((wr.alloc (.cells #[.string ⟨#[100, 97, 116, 97]⟩, .pointer (some ⟨e, 5, none⟩)] 85)).drew) s wr.heap.size ∧ wr.heap.size < ((wr.alloc (.cells #[.string ⟨#[100, 97, 116, 97]⟩, .pointer (some ⟨e, 5, none⟩)] 85)).drew).heap.size) := ⟨nd, ld⟩
        have Hne : Hid (¬ Own ((wr.alloc (.cells #[.string ⟨#[100, 97, 116, 97]⟩, .pointer (some ⟨e, 5, none⟩)] 85)).drew) s e) := ne
        clear c3 hal nd ne ld
        go_wp2_with (rw [hx])
        go_region_held3 (fun w' => w'.cell? ⟨wr.heap.size, 0, none⟩ = some (.string ⟨#[100, 97, 116, 97]⟩) ∧ w'.cell? ⟨wr.heap.size, 1, none⟩ = some (.pointer (some ⟨e, 5, none⟩)) ∧ w'.cell? ⟨e, 3, none⟩ = some (.int .i64 a3))
          (first | exact ⟨q0, q1, q3⟩ | exact ⟨(World.cell?_of_block (w := w2) (a := ⟨wr.heap.size, 0, none⟩) (Below.heap_setCell _ _ _ _ HWE.out)).trans q0, (World.cell?_of_block (w := w2) (a := ⟨wr.heap.size, 1, none⟩) (Below.heap_setCell _ _ _ _ HWE.out)).trans q1, by rw [Cells.cell (Cells.set hc2 5 (.int .i64 t2))]; rfl⟩)
          (first
            | (go_at_call 29; refine (kdf_m HR2.out.seat kData (by decide) HQ2.out (HE1.out.keeps HP.out) (HM1.out.keeps HP.out)).mono ?_; rintro r w2 ⟨t2, ns2, rfl, r2, m2⟩; replace q0 := (r2.cell Hnd.out.2 Hnd.out.1 0).trans q0; replace q1 := (r2.cell Hnd.out.2 Hnd.out.1 1).trans q1; replace q3 := (r2.cell HC2.out.lt Hne.out 3).trans q3; have hc2 := Cells.run HC2.out r2 Hne.out; have hk2 : w2.cell? ⟨e, 5, none⟩ = some (.int .i64 o) := by { rw [hc2.cell]; simp [epCells, Ho.out] }; have fk2 : w2.frozen? ⟨e, 5, none⟩ = false := hc2.frozen _; have n2 := r2.mv.free HC2.out.lt Hne.out; have HR3 : Hid (Run s w0 w2 ns0 ns2 dr (c + 1 + 1 + 1)) := HR2.out.trans r2; have HM2 : Hid (Means ns2 t2 (ofT kData E)) := m2; have HS2 : Hid (Stp nsk ns2 1) := r2.st; clear r2 m2)
            | fail)
        obtain ⟨R4, n4⟩ := HR3.out.setE Hb.out Hee.out n2 5 (.int .i64 t2)
        have HR4 : Hid (Run s w0 (w2.setCell ⟨e, 5, none⟩ (.int .i64 t2)) ns0 ns2 dr (c + 1 + 1 + 1)) := R4
        have HN4 : Hid (¬ Own (w2.setCell ⟨e, 5, none⟩ (.int .i64 t2)) s e) := n4
        have HC4 : Hid (Cells (w2.setCell ⟨e, 5, none⟩ (.int .i64 t2)) e 34 (epCells a0 a1 a2 a3 (lk.set 1 t2))) := by
          have := hc2.set 5 (.int .i64 t2)
          rwa [show 5 = 4 + 1 from rfl, epCells_set] at this
        clear R4 n4 hc2 hk2 fk2 n2 q0 q1 q3 hx
        go_wp2_with fail
        go_roundw
        case rel => exact ⟨2, ns2, lk.set 1 t2, by omega, by go_num, HR4.out, HN4.out, by unfold Hid; rw [List.length_set]; exact HL.out, HC4.out, (HD.out.keeps HS2.out.pre).put (by rw [HL.out]; decide) rfl HM2.out, HP.out.trans HS2.out.pre, by have h1 := HQ.out; have h2 := HS2.out.len; unfold Hid; omega⟩
        case measure => simp [intOf]
      · clear kw0 ho
        have hx : (Instr.index 86 (.agg #[.string ⟨#[105, 110, 105, 116]⟩, .pointer (some ⟨e, 4, none⟩), .string ⟨#[100, 97, 116, 97]⟩, .pointer (some ⟨e, 5, none⟩), .string ⟨#[114, 97, 116, 99, 104, 101, 116, 115]⟩, .pointer (some ⟨e, 6, none⟩), .string ⟨#[101, 120, 112, 111, 114, 116, 101, 114]⟩, .pointer (some ⟨e, 7, none⟩), .string ⟨#[101, 120, 116, 101, 114, 110, 97, 108]⟩, .pointer (some ⟨e, 8, none⟩), .string ⟨#[99, 111, 110, 102, 105, 114, 109]⟩, .pointer (some ⟨e, 9, none⟩), .string ⟨#[109, 101, 109, 98, 101, 114, 115, 104, 105, 112]⟩, .pointer (some ⟨e, 10, none⟩), .string ⟨#[114, 101, 115, 117, 109, 112, 116, 105, 111, 110]⟩, .pointer (some ⟨e, 11, none⟩), .string ⟨#[97, 117, 116, 104, 101, 110, 116, 105, 99, 97, 116, 111, 114]⟩, .pointer (some ⟨e, 12, none⟩)]) (.int .i64 2)).run Tryd.prog wr = .ok (.agg #[.string ⟨#[114, 97, 116, 99, 104, 101, 116, 115]⟩, .pointer (some ⟨e, 6, none⟩)]) wr := by
          refine (idx86 wr _ 2 (by decide)).trans ?_
          simp
        have hal : Below wr.heap.size wr ((wr.alloc (.cells #[.string ⟨#[114, 97, 116, 99, 104, 101, 116, 115]⟩, .pointer (some ⟨e, 6, none⟩)] 85)).drew) := ((Below.refl _ _).alloc (Nat.le_refl _) _).drew
        have HWE : Hid (wr.heap.size ≠ e) := by unfold Hid; omega
        have q3 := (hal.cell (p := ⟨e, 3, none⟩) hcl).trans c3
        have q0 : ((wr.alloc (.cells #[.string ⟨#[114, 97, 116, 99, 104, 101, 116, 115]⟩, .pointer (some ⟨e, 6, none⟩)] 85)).drew).cell? ⟨wr.heap.size, 0, none⟩ = some (.string ⟨#[114, 97, 116, 99, 104, 101, 116, 115]⟩) := by go_simp
        have q1 : ((wr.alloc (.cells #[.string ⟨#[114, 97, 116, 99, 104, 101, 116, 115]⟩, .pointer (some ⟨e, 6, none⟩)] 85)).drew).cell? ⟨wr.heap.size, 1, none⟩ = some (.pointer (some ⟨e, 6, none⟩)) := by go_simp
        have HR2 : Hid (Run s w0 ((wr.alloc (.cells #[.string ⟨#[114, 97, 116, 99, 104, 101, 116, 115]⟩, .pointer (some ⟨e, 6, none⟩)] 85)).drew) ns0 nsk dr (c + 1 + 2)) := HR.out.after hal
        have nd : ¬ Own ((wr.alloc (.cells #[.string ⟨#[114, 97, 116, 99, 104, 101, 116, 115]⟩, .pointer (some ⟨e, 6, none⟩)] 85)).drew) s wr.heap.size := fun ho => by
          have hh := HR.out.seat.st.own_lt ((own_below1 HR.out.seat.st.lt hal _).1 ho)
          omega
        have ne : ¬ Own ((wr.alloc (.cells #[.string ⟨#[114, 97, 116, 99, 104, 101, 116, 115]⟩, .pointer (some ⟨e, 6, none⟩)] 85)).drew) s e := fun ho => HN.out ((own_below1 HR.out.seat.st.lt hal _).1 ho)
        have HC2 : Hid (Cells ((wr.alloc (.cells #[.string ⟨#[114, 97, 116, 99, 104, 101, 116, 115]⟩, .pointer (some ⟨e, 6, none⟩)] 85)).drew) e 34 (epCells a0 a1 a2 a3 lk)) := Cells.below HC.out hal
        have ld : wr.heap.size < ((wr.alloc (.cells #[.string ⟨#[114, 97, 116, 99, 104, 101, 116, 115]⟩, .pointer (some ⟨e, 6, none⟩)] 85)).drew).heap.size := by simp
        have Hnd : Hid (¬ Own ((wr.alloc (.cells #[.string ⟨#[114, 97, 116, 99, 104, 101, 116, 115]⟩, .pointer (some ⟨e, 6, none⟩)] 85)).drew) s wr.heap.size ∧ wr.heap.size < ((wr.alloc (.cells #[.string ⟨#[114, 97, 116, 99, 104, 101, 116, 115]⟩, .pointer (some ⟨e, 6, none⟩)] 85)).drew).heap.size) := ⟨nd, ld⟩
        have Hne : Hid (¬ Own ((wr.alloc (.cells #[.string ⟨#[114, 97, 116, 99, 104, 101, 116, 115]⟩, .pointer (some ⟨e, 6, none⟩)] 85)).drew) s e) := ne
        clear c3 hal nd ne ld
        go_wp2_with (rw [hx])
        go_region_held3 (fun w' => w'.cell? ⟨wr.heap.size, 0, none⟩ = some (.string ⟨#[114, 97, 116, 99, 104, 101, 116, 115]⟩) ∧ w'.cell? ⟨wr.heap.size, 1, none⟩ = some (.pointer (some ⟨e, 6, none⟩)) ∧ w'.cell? ⟨e, 3, none⟩ = some (.int .i64 a3))
          (first | exact ⟨q0, q1, q3⟩ | exact ⟨(World.cell?_of_block (w := w2) (a := ⟨wr.heap.size, 0, none⟩) (Below.heap_setCell _ _ _ _ HWE.out)).trans q0, (World.cell?_of_block (w := w2) (a := ⟨wr.heap.size, 1, none⟩) (Below.heap_setCell _ _ _ _ HWE.out)).trans q1, by rw [Cells.cell (Cells.set hc2 6 (.int .i64 t2))]; rfl⟩)
          (first
            | (go_at_call 29; refine (kdf_m HR2.out.seat kRatchets (by decide) HQ2.out (HE1.out.keeps HP.out) (HM1.out.keeps HP.out)).mono ?_; rintro r w2 ⟨t2, ns2, rfl, r2, m2⟩; replace q0 := (r2.cell Hnd.out.2 Hnd.out.1 0).trans q0; replace q1 := (r2.cell Hnd.out.2 Hnd.out.1 1).trans q1; replace q3 := (r2.cell HC2.out.lt Hne.out 3).trans q3; have hc2 := Cells.run HC2.out r2 Hne.out; have hk2 : w2.cell? ⟨e, 6, none⟩ = some (.int .i64 o) := by { rw [hc2.cell]; simp [epCells, Ho.out] }; have fk2 : w2.frozen? ⟨e, 6, none⟩ = false := hc2.frozen _; have n2 := r2.mv.free HC2.out.lt Hne.out; have HR3 : Hid (Run s w0 w2 ns0 ns2 dr (c + 1 + 2 + 1)) := HR2.out.trans r2; have HM2 : Hid (Means ns2 t2 (ofT kRatchets E)) := m2; have HS2 : Hid (Stp nsk ns2 1) := r2.st; clear r2 m2)
            | fail)
        obtain ⟨R4, n4⟩ := HR3.out.setE Hb.out Hee.out n2 6 (.int .i64 t2)
        have HR4 : Hid (Run s w0 (w2.setCell ⟨e, 6, none⟩ (.int .i64 t2)) ns0 ns2 dr (c + 1 + 2 + 1)) := R4
        have HN4 : Hid (¬ Own (w2.setCell ⟨e, 6, none⟩ (.int .i64 t2)) s e) := n4
        have HC4 : Hid (Cells (w2.setCell ⟨e, 6, none⟩ (.int .i64 t2)) e 34 (epCells a0 a1 a2 a3 (lk.set 2 t2))) := by
          have := hc2.set 6 (.int .i64 t2)
          rwa [show 6 = 4 + 2 from rfl, epCells_set] at this
        clear R4 n4 hc2 hk2 fk2 n2 q0 q1 q3 hx
        go_wp2_with fail
        go_roundw
        case rel => exact ⟨3, ns2, lk.set 2 t2, by omega, by go_num, HR4.out, HN4.out, by unfold Hid; rw [List.length_set]; exact HL.out, HC4.out, (HD.out.keeps HS2.out.pre).put (by rw [HL.out]; decide) rfl HM2.out, HP.out.trans HS2.out.pre, by have h1 := HQ.out; have h2 := HS2.out.len; unfold Hid; omega⟩
        case measure => simp [intOf]
      · clear kw0 ho
        have hx : (Instr.index 86 (.agg #[.string ⟨#[105, 110, 105, 116]⟩, .pointer (some ⟨e, 4, none⟩), .string ⟨#[100, 97, 116, 97]⟩, .pointer (some ⟨e, 5, none⟩), .string ⟨#[114, 97, 116, 99, 104, 101, 116, 115]⟩, .pointer (some ⟨e, 6, none⟩), .string ⟨#[101, 120, 112, 111, 114, 116, 101, 114]⟩, .pointer (some ⟨e, 7, none⟩), .string ⟨#[101, 120, 116, 101, 114, 110, 97, 108]⟩, .pointer (some ⟨e, 8, none⟩), .string ⟨#[99, 111, 110, 102, 105, 114, 109]⟩, .pointer (some ⟨e, 9, none⟩), .string ⟨#[109, 101, 109, 98, 101, 114, 115, 104, 105, 112]⟩, .pointer (some ⟨e, 10, none⟩), .string ⟨#[114, 101, 115, 117, 109, 112, 116, 105, 111, 110]⟩, .pointer (some ⟨e, 11, none⟩), .string ⟨#[97, 117, 116, 104, 101, 110, 116, 105, 99, 97, 116, 111, 114]⟩, .pointer (some ⟨e, 12, none⟩)]) (.int .i64 3)).run Tryd.prog wr = .ok (.agg #[.string ⟨#[101, 120, 112, 111, 114, 116, 101, 114]⟩, .pointer (some ⟨e, 7, none⟩)]) wr := by
          refine (idx86 wr _ 3 (by decide)).trans ?_
          simp
        have hal : Below wr.heap.size wr ((wr.alloc (.cells #[.string ⟨#[101, 120, 112, 111, 114, 116, 101, 114]⟩, .pointer (some ⟨e, 7, none⟩)] 85)).drew) := ((Below.refl _ _).alloc (Nat.le_refl _) _).drew
        have HWE : Hid (wr.heap.size ≠ e) := by unfold Hid; omega
        have q3 := (hal.cell (p := ⟨e, 3, none⟩) hcl).trans c3
        have q0 : ((wr.alloc (.cells #[.string ⟨#[101, 120, 112, 111, 114, 116, 101, 114]⟩, .pointer (some ⟨e, 7, none⟩)] 85)).drew).cell? ⟨wr.heap.size, 0, none⟩ = some (.string ⟨#[101, 120, 112, 111, 114, 116, 101, 114]⟩) := by go_simp
        have q1 : ((wr.alloc (.cells #[.string ⟨#[101, 120, 112, 111, 114, 116, 101, 114]⟩, .pointer (some ⟨e, 7, none⟩)] 85)).drew).cell? ⟨wr.heap.size, 1, none⟩ = some (.pointer (some ⟨e, 7, none⟩)) := by go_simp
        have HR2 : Hid (Run s w0 ((wr.alloc (.cells #[.string ⟨#[101, 120, 112, 111, 114, 116, 101, 114]⟩, .pointer (some ⟨e, 7, none⟩)] 85)).drew) ns0 nsk dr (c + 1 + 3)) := HR.out.after hal
        have nd : ¬ Own ((wr.alloc (.cells #[.string ⟨#[101, 120, 112, 111, 114, 116, 101, 114]⟩, .pointer (some ⟨e, 7, none⟩)] 85)).drew) s wr.heap.size := fun ho => by
          have hh := HR.out.seat.st.own_lt ((own_below1 HR.out.seat.st.lt hal _).1 ho)
          omega
        have ne : ¬ Own ((wr.alloc (.cells #[.string ⟨#[101, 120, 112, 111, 114, 116, 101, 114]⟩, .pointer (some ⟨e, 7, none⟩)] 85)).drew) s e := fun ho => HN.out ((own_below1 HR.out.seat.st.lt hal _).1 ho)
        have HC2 : Hid (Cells ((wr.alloc (.cells #[.string ⟨#[101, 120, 112, 111, 114, 116, 101, 114]⟩, .pointer (some ⟨e, 7, none⟩)] 85)).drew) e 34 (epCells a0 a1 a2 a3 lk)) := Cells.below HC.out hal
        have ld : wr.heap.size < ((wr.alloc (.cells #[.string ⟨#[101, 120, 112, 111, 114, 116, 101, 114]⟩, .pointer (some ⟨e, 7, none⟩)] 85)).drew).heap.size := by simp
        have Hnd : Hid (¬ Own ((wr.alloc (.cells #[.string ⟨#[101, 120, 112, 111, 114, 116, 101, 114]⟩, .pointer (some ⟨e, 7, none⟩)] 85)).drew) s wr.heap.size ∧ wr.heap.size < ((wr.alloc (.cells #[.string ⟨#[101, 120, 112, 111, 114, 116, 101, 114]⟩, .pointer (some ⟨e, 7, none⟩)] 85)).drew).heap.size) := ⟨nd, ld⟩
        have Hne : Hid (¬ Own ((wr.alloc (.cells #[.string ⟨#[101, 120, 112, 111, 114, 116, 101, 114]⟩, .pointer (some ⟨e, 7, none⟩)] 85)).drew) s e) := ne
        clear c3 hal nd ne ld
        go_wp2_with (rw [hx])
        go_region_held3 (fun w' => w'.cell? ⟨wr.heap.size, 0, none⟩ = some (.string ⟨#[101, 120, 112, 111, 114, 116, 101, 114]⟩) ∧ w'.cell? ⟨wr.heap.size, 1, none⟩ = some (.pointer (some ⟨e, 7, none⟩)) ∧ w'.cell? ⟨e, 3, none⟩ = some (.int .i64 a3))
          (first | exact ⟨q0, q1, q3⟩ | exact ⟨(World.cell?_of_block (w := w2) (a := ⟨wr.heap.size, 0, none⟩) (Below.heap_setCell _ _ _ _ HWE.out)).trans q0, (World.cell?_of_block (w := w2) (a := ⟨wr.heap.size, 1, none⟩) (Below.heap_setCell _ _ _ _ HWE.out)).trans q1, by rw [Cells.cell (Cells.set hc2 7 (.int .i64 t2))]; rfl⟩)
          (first
            | (go_at_call 29; refine (kdf_m HR2.out.seat kExporter (by decide) HQ2.out (HE1.out.keeps HP.out) (HM1.out.keeps HP.out)).mono ?_; rintro r w2 ⟨t2, ns2, rfl, r2, m2⟩; replace q0 := (r2.cell Hnd.out.2 Hnd.out.1 0).trans q0; replace q1 := (r2.cell Hnd.out.2 Hnd.out.1 1).trans q1; replace q3 := (r2.cell HC2.out.lt Hne.out 3).trans q3; have hc2 := Cells.run HC2.out r2 Hne.out; have hk2 : w2.cell? ⟨e, 7, none⟩ = some (.int .i64 o) := by { rw [hc2.cell]; simp [epCells, Ho.out] }; have fk2 : w2.frozen? ⟨e, 7, none⟩ = false := hc2.frozen _; have n2 := r2.mv.free HC2.out.lt Hne.out; have HR3 : Hid (Run s w0 w2 ns0 ns2 dr (c + 1 + 3 + 1)) := HR2.out.trans r2; have HM2 : Hid (Means ns2 t2 (ofT kExporter E)) := m2; have HS2 : Hid (Stp nsk ns2 1) := r2.st; clear r2 m2)
            | fail)
        obtain ⟨R4, n4⟩ := HR3.out.setE Hb.out Hee.out n2 7 (.int .i64 t2)
        have HR4 : Hid (Run s w0 (w2.setCell ⟨e, 7, none⟩ (.int .i64 t2)) ns0 ns2 dr (c + 1 + 3 + 1)) := R4
        have HN4 : Hid (¬ Own (w2.setCell ⟨e, 7, none⟩ (.int .i64 t2)) s e) := n4
        have HC4 : Hid (Cells (w2.setCell ⟨e, 7, none⟩ (.int .i64 t2)) e 34 (epCells a0 a1 a2 a3 (lk.set 3 t2))) := by
          have := hc2.set 7 (.int .i64 t2)
          rwa [show 7 = 4 + 3 from rfl, epCells_set] at this
        clear R4 n4 hc2 hk2 fk2 n2 q0 q1 q3 hx
        go_wp2_with fail
        go_roundw
        case rel => exact ⟨4, ns2, lk.set 3 t2, by omega, by go_num, HR4.out, HN4.out, by unfold Hid; rw [List.length_set]; exact HL.out, HC4.out, (HD.out.keeps HS2.out.pre).put (by rw [HL.out]; decide) rfl HM2.out, HP.out.trans HS2.out.pre, by have h1 := HQ.out; have h2 := HS2.out.len; unfold Hid; omega⟩
        case measure => simp [intOf]
      · clear kw0 ho
        have hx : (Instr.index 86 (.agg #[.string ⟨#[105, 110, 105, 116]⟩, .pointer (some ⟨e, 4, none⟩), .string ⟨#[100, 97, 116, 97]⟩, .pointer (some ⟨e, 5, none⟩), .string ⟨#[114, 97, 116, 99, 104, 101, 116, 115]⟩, .pointer (some ⟨e, 6, none⟩), .string ⟨#[101, 120, 112, 111, 114, 116, 101, 114]⟩, .pointer (some ⟨e, 7, none⟩), .string ⟨#[101, 120, 116, 101, 114, 110, 97, 108]⟩, .pointer (some ⟨e, 8, none⟩), .string ⟨#[99, 111, 110, 102, 105, 114, 109]⟩, .pointer (some ⟨e, 9, none⟩), .string ⟨#[109, 101, 109, 98, 101, 114, 115, 104, 105, 112]⟩, .pointer (some ⟨e, 10, none⟩), .string ⟨#[114, 101, 115, 117, 109, 112, 116, 105, 111, 110]⟩, .pointer (some ⟨e, 11, none⟩), .string ⟨#[97, 117, 116, 104, 101, 110, 116, 105, 99, 97, 116, 111, 114]⟩, .pointer (some ⟨e, 12, none⟩)]) (.int .i64 4)).run Tryd.prog wr = .ok (.agg #[.string ⟨#[101, 120, 116, 101, 114, 110, 97, 108]⟩, .pointer (some ⟨e, 8, none⟩)]) wr := by
          refine (idx86 wr _ 4 (by decide)).trans ?_
          simp
        have hal : Below wr.heap.size wr ((wr.alloc (.cells #[.string ⟨#[101, 120, 116, 101, 114, 110, 97, 108]⟩, .pointer (some ⟨e, 8, none⟩)] 85)).drew) := ((Below.refl _ _).alloc (Nat.le_refl _) _).drew
        have HWE : Hid (wr.heap.size ≠ e) := by unfold Hid; omega
        have q3 := (hal.cell (p := ⟨e, 3, none⟩) hcl).trans c3
        have q0 : ((wr.alloc (.cells #[.string ⟨#[101, 120, 116, 101, 114, 110, 97, 108]⟩, .pointer (some ⟨e, 8, none⟩)] 85)).drew).cell? ⟨wr.heap.size, 0, none⟩ = some (.string ⟨#[101, 120, 116, 101, 114, 110, 97, 108]⟩) := by go_simp
        have q1 : ((wr.alloc (.cells #[.string ⟨#[101, 120, 116, 101, 114, 110, 97, 108]⟩, .pointer (some ⟨e, 8, none⟩)] 85)).drew).cell? ⟨wr.heap.size, 1, none⟩ = some (.pointer (some ⟨e, 8, none⟩)) := by go_simp
        have HR2 : Hid (Run s w0 ((wr.alloc (.cells #[.string ⟨#[101, 120, 116, 101, 114, 110, 97, 108]⟩, .pointer (some ⟨e, 8, none⟩)] 85)).drew) ns0 nsk dr (c + 1 + 4)) := HR.out.after hal
        have nd : ¬ Own ((wr.alloc (.cells #[.string ⟨#[101, 120, 116, 101, 114, 110, 97, 108]⟩, .pointer (some ⟨e, 8, none⟩)] 85)).drew) s wr.heap.size := fun ho => by
          have hh := HR.out.seat.st.own_lt ((own_below1 HR.out.seat.st.lt hal _).1 ho)
          omega
        have ne : ¬ Own ((wr.alloc (.cells #[.string ⟨#[101, 120, 116, 101, 114, 110, 97, 108]⟩, .pointer (some ⟨e, 8, none⟩)] 85)).drew) s e := fun ho => HN.out ((own_below1 HR.out.seat.st.lt hal _).1 ho)
        have HC2 : Hid (Cells ((wr.alloc (.cells #[.string ⟨#[101, 120, 116, 101, 114, 110, 97, 108]⟩, .pointer (some ⟨e, 8, none⟩)] 85)).drew) e 34 (epCells a0 a1 a2 a3 lk)) := Cells.below HC.out hal
        have ld : wr.heap.size < ((wr.alloc (.cells #[.string ⟨#[101, 120, 116, 101, 114, 110, 97, 108]⟩, .pointer (some ⟨e, 8, none⟩)] 85)).drew).heap.size := by simp
        have Hnd : Hid (¬ Own ((wr.alloc (.cells #[.string ⟨#[101, 120, 116, 101, 114, 110, 97, 108]⟩, .pointer (some ⟨e, 8, none⟩)] 85)).drew) s wr.heap.size ∧ wr.heap.size < ((wr.alloc (.cells #[.string ⟨#[101, 120, 116, 101, 114, 110, 97, 108]⟩, .pointer (some ⟨e, 8, none⟩)] 85)).drew).heap.size) := ⟨nd, ld⟩
        have Hne : Hid (¬ Own ((wr.alloc (.cells #[.string ⟨#[101, 120, 116, 101, 114, 110, 97, 108]⟩, .pointer (some ⟨e, 8, none⟩)] 85)).drew) s e) := ne
        clear c3 hal nd ne ld
        go_wp2_with (rw [hx])
        go_region_held3 (fun w' => w'.cell? ⟨wr.heap.size, 0, none⟩ = some (.string ⟨#[101, 120, 116, 101, 114, 110, 97, 108]⟩) ∧ w'.cell? ⟨wr.heap.size, 1, none⟩ = some (.pointer (some ⟨e, 8, none⟩)) ∧ w'.cell? ⟨e, 3, none⟩ = some (.int .i64 a3))
          (first | exact ⟨q0, q1, q3⟩ | exact ⟨(World.cell?_of_block (w := w2) (a := ⟨wr.heap.size, 0, none⟩) (Below.heap_setCell _ _ _ _ HWE.out)).trans q0, (World.cell?_of_block (w := w2) (a := ⟨wr.heap.size, 1, none⟩) (Below.heap_setCell _ _ _ _ HWE.out)).trans q1, by rw [Cells.cell (Cells.set hc2 8 (.int .i64 t2))]; rfl⟩)
          (first
            | (go_at_call 29; refine (kdf_m HR2.out.seat kExternal (by decide) HQ2.out (HE1.out.keeps HP.out) (HM1.out.keeps HP.out)).mono ?_; rintro r w2 ⟨t2, ns2, rfl, r2, m2⟩; replace q0 := (r2.cell Hnd.out.2 Hnd.out.1 0).trans q0; replace q1 := (r2.cell Hnd.out.2 Hnd.out.1 1).trans q1; replace q3 := (r2.cell HC2.out.lt Hne.out 3).trans q3; have hc2 := Cells.run HC2.out r2 Hne.out; have hk2 : w2.cell? ⟨e, 8, none⟩ = some (.int .i64 o) := by { rw [hc2.cell]; simp [epCells, Ho.out] }; have fk2 : w2.frozen? ⟨e, 8, none⟩ = false := hc2.frozen _; have n2 := r2.mv.free HC2.out.lt Hne.out; have HR3 : Hid (Run s w0 w2 ns0 ns2 dr (c + 1 + 4 + 1)) := HR2.out.trans r2; have HM2 : Hid (Means ns2 t2 (ofT kExternal E)) := m2; have HS2 : Hid (Stp nsk ns2 1) := r2.st; clear r2 m2)
            | fail)
        obtain ⟨R4, n4⟩ := HR3.out.setE Hb.out Hee.out n2 8 (.int .i64 t2)
        have HR4 : Hid (Run s w0 (w2.setCell ⟨e, 8, none⟩ (.int .i64 t2)) ns0 ns2 dr (c + 1 + 4 + 1)) := R4
        have HN4 : Hid (¬ Own (w2.setCell ⟨e, 8, none⟩ (.int .i64 t2)) s e) := n4
        have HC4 : Hid (Cells (w2.setCell ⟨e, 8, none⟩ (.int .i64 t2)) e 34 (epCells a0 a1 a2 a3 (lk.set 4 t2))) := by
          have := hc2.set 8 (.int .i64 t2)
          rwa [show 8 = 4 + 4 from rfl, epCells_set] at this
        clear R4 n4 hc2 hk2 fk2 n2 q0 q1 q3 hx
        go_wp2_with fail
        go_roundw
        case rel => exact ⟨5, ns2, lk.set 4 t2, by omega, by go_num, HR4.out, HN4.out, by unfold Hid; rw [List.length_set]; exact HL.out, HC4.out, (HD.out.keeps HS2.out.pre).put (by rw [HL.out]; decide) rfl HM2.out, HP.out.trans HS2.out.pre, by have h1 := HQ.out; have h2 := HS2.out.len; unfold Hid; omega⟩
        case measure => simp [intOf]
      · clear kw0 ho
        have hx : (Instr.index 86 (.agg #[.string ⟨#[105, 110, 105, 116]⟩, .pointer (some ⟨e, 4, none⟩), .string ⟨#[100, 97, 116, 97]⟩, .pointer (some ⟨e, 5, none⟩), .string ⟨#[114, 97, 116, 99, 104, 101, 116, 115]⟩, .pointer (some ⟨e, 6, none⟩), .string ⟨#[101, 120, 112, 111, 114, 116, 101, 114]⟩, .pointer (some ⟨e, 7, none⟩), .string ⟨#[101, 120, 116, 101, 114, 110, 97, 108]⟩, .pointer (some ⟨e, 8, none⟩), .string ⟨#[99, 111, 110, 102, 105, 114, 109]⟩, .pointer (some ⟨e, 9, none⟩), .string ⟨#[109, 101, 109, 98, 101, 114, 115, 104, 105, 112]⟩, .pointer (some ⟨e, 10, none⟩), .string ⟨#[114, 101, 115, 117, 109, 112, 116, 105, 111, 110]⟩, .pointer (some ⟨e, 11, none⟩), .string ⟨#[97, 117, 116, 104, 101, 110, 116, 105, 99, 97, 116, 111, 114]⟩, .pointer (some ⟨e, 12, none⟩)]) (.int .i64 5)).run Tryd.prog wr = .ok (.agg #[.string ⟨#[99, 111, 110, 102, 105, 114, 109]⟩, .pointer (some ⟨e, 9, none⟩)]) wr := by
          refine (idx86 wr _ 5 (by decide)).trans ?_
          simp
        have hal : Below wr.heap.size wr ((wr.alloc (.cells #[.string ⟨#[99, 111, 110, 102, 105, 114, 109]⟩, .pointer (some ⟨e, 9, none⟩)] 85)).drew) := ((Below.refl _ _).alloc (Nat.le_refl _) _).drew
        have HWE : Hid (wr.heap.size ≠ e) := by unfold Hid; omega
        have q3 := (hal.cell (p := ⟨e, 3, none⟩) hcl).trans c3
        have q0 : ((wr.alloc (.cells #[.string ⟨#[99, 111, 110, 102, 105, 114, 109]⟩, .pointer (some ⟨e, 9, none⟩)] 85)).drew).cell? ⟨wr.heap.size, 0, none⟩ = some (.string ⟨#[99, 111, 110, 102, 105, 114, 109]⟩) := by go_simp
        have q1 : ((wr.alloc (.cells #[.string ⟨#[99, 111, 110, 102, 105, 114, 109]⟩, .pointer (some ⟨e, 9, none⟩)] 85)).drew).cell? ⟨wr.heap.size, 1, none⟩ = some (.pointer (some ⟨e, 9, none⟩)) := by go_simp
        have HR2 : Hid (Run s w0 ((wr.alloc (.cells #[.string ⟨#[99, 111, 110, 102, 105, 114, 109]⟩, .pointer (some ⟨e, 9, none⟩)] 85)).drew) ns0 nsk dr (c + 1 + 5)) := HR.out.after hal
        have nd : ¬ Own ((wr.alloc (.cells #[.string ⟨#[99, 111, 110, 102, 105, 114, 109]⟩, .pointer (some ⟨e, 9, none⟩)] 85)).drew) s wr.heap.size := fun ho => by
          have hh := HR.out.seat.st.own_lt ((own_below1 HR.out.seat.st.lt hal _).1 ho)
          omega
        have ne : ¬ Own ((wr.alloc (.cells #[.string ⟨#[99, 111, 110, 102, 105, 114, 109]⟩, .pointer (some ⟨e, 9, none⟩)] 85)).drew) s e := fun ho => HN.out ((own_below1 HR.out.seat.st.lt hal _).1 ho)
        have HC2 : Hid (Cells ((wr.alloc (.cells #[.string ⟨#[99, 111, 110, 102, 105, 114, 109]⟩, .pointer (some ⟨e, 9, none⟩)] 85)).drew) e 34 (epCells a0 a1 a2 a3 lk)) := Cells.below HC.out hal
        have ld : wr.heap.size < ((wr.alloc (.cells #[.string ⟨#[99, 111, 110, 102, 105, 114, 109]⟩, .pointer (some ⟨e, 9, none⟩)] 85)).drew).heap.size := by simp
        have Hnd : Hid (¬ Own ((wr.alloc (.cells #[.string ⟨#[99, 111, 110, 102, 105, 114, 109]⟩, .pointer (some ⟨e, 9, none⟩)] 85)).drew) s wr.heap.size ∧ wr.heap.size < ((wr.alloc (.cells #[.string ⟨#[99, 111, 110, 102, 105, 114, 109]⟩, .pointer (some ⟨e, 9, none⟩)] 85)).drew).heap.size) := ⟨nd, ld⟩
        have Hne : Hid (¬ Own ((wr.alloc (.cells #[.string ⟨#[99, 111, 110, 102, 105, 114, 109]⟩, .pointer (some ⟨e, 9, none⟩)] 85)).drew) s e) := ne
        clear c3 hal nd ne ld
        go_wp2_with (rw [hx])
        go_region_held3 (fun w' => w'.cell? ⟨wr.heap.size, 0, none⟩ = some (.string ⟨#[99, 111, 110, 102, 105, 114, 109]⟩) ∧ w'.cell? ⟨wr.heap.size, 1, none⟩ = some (.pointer (some ⟨e, 9, none⟩)) ∧ w'.cell? ⟨e, 3, none⟩ = some (.int .i64 a3))
          (first | exact ⟨q0, q1, q3⟩ | exact ⟨(World.cell?_of_block (w := w2) (a := ⟨wr.heap.size, 0, none⟩) (Below.heap_setCell _ _ _ _ HWE.out)).trans q0, (World.cell?_of_block (w := w2) (a := ⟨wr.heap.size, 1, none⟩) (Below.heap_setCell _ _ _ _ HWE.out)).trans q1, by rw [Cells.cell (Cells.set hc2 9 (.int .i64 t2))]; rfl⟩)
          (first
            | (go_at_call 29; refine (kdf_m HR2.out.seat kConfirm (by decide) HQ2.out (HE1.out.keeps HP.out) (HM1.out.keeps HP.out)).mono ?_; rintro r w2 ⟨t2, ns2, rfl, r2, m2⟩; replace q0 := (r2.cell Hnd.out.2 Hnd.out.1 0).trans q0; replace q1 := (r2.cell Hnd.out.2 Hnd.out.1 1).trans q1; replace q3 := (r2.cell HC2.out.lt Hne.out 3).trans q3; have hc2 := Cells.run HC2.out r2 Hne.out; have hk2 : w2.cell? ⟨e, 9, none⟩ = some (.int .i64 o) := by { rw [hc2.cell]; simp [epCells, Ho.out] }; have fk2 : w2.frozen? ⟨e, 9, none⟩ = false := hc2.frozen _; have n2 := r2.mv.free HC2.out.lt Hne.out; have HR3 : Hid (Run s w0 w2 ns0 ns2 dr (c + 1 + 5 + 1)) := HR2.out.trans r2; have HM2 : Hid (Means ns2 t2 (ofT kConfirm E)) := m2; have HS2 : Hid (Stp nsk ns2 1) := r2.st; clear r2 m2)
            | fail)
        obtain ⟨R4, n4⟩ := HR3.out.setE Hb.out Hee.out n2 9 (.int .i64 t2)
        have HR4 : Hid (Run s w0 (w2.setCell ⟨e, 9, none⟩ (.int .i64 t2)) ns0 ns2 dr (c + 1 + 5 + 1)) := R4
        have HN4 : Hid (¬ Own (w2.setCell ⟨e, 9, none⟩ (.int .i64 t2)) s e) := n4
        have HC4 : Hid (Cells (w2.setCell ⟨e, 9, none⟩ (.int .i64 t2)) e 34 (epCells a0 a1 a2 a3 (lk.set 5 t2))) := by
          have := hc2.set 9 (.int .i64 t2)
          rwa [show 9 = 4 + 5 from rfl, epCells_set] at this
        clear R4 n4 hc2 hk2 fk2 n2 q0 q1 q3 hx
        go_wp2_with fail
        go_roundw
        case rel => exact ⟨6, ns2, lk.set 5 t2, by omega, by go_num, HR4.out, HN4.out, by unfold Hid; rw [List.length_set]; exact HL.out, HC4.out, (HD.out.keeps HS2.out.pre).put (by rw [HL.out]; decide) rfl HM2.out, HP.out.trans HS2.out.pre, by have h1 := HQ.out; have h2 := HS2.out.len; unfold Hid; omega⟩
        case measure => simp [intOf]
      · clear kw0 ho
        have hx : (Instr.index 86 (.agg #[.string ⟨#[105, 110, 105, 116]⟩, .pointer (some ⟨e, 4, none⟩), .string ⟨#[100, 97, 116, 97]⟩, .pointer (some ⟨e, 5, none⟩), .string ⟨#[114, 97, 116, 99, 104, 101, 116, 115]⟩, .pointer (some ⟨e, 6, none⟩), .string ⟨#[101, 120, 112, 111, 114, 116, 101, 114]⟩, .pointer (some ⟨e, 7, none⟩), .string ⟨#[101, 120, 116, 101, 114, 110, 97, 108]⟩, .pointer (some ⟨e, 8, none⟩), .string ⟨#[99, 111, 110, 102, 105, 114, 109]⟩, .pointer (some ⟨e, 9, none⟩), .string ⟨#[109, 101, 109, 98, 101, 114, 115, 104, 105, 112]⟩, .pointer (some ⟨e, 10, none⟩), .string ⟨#[114, 101, 115, 117, 109, 112, 116, 105, 111, 110]⟩, .pointer (some ⟨e, 11, none⟩), .string ⟨#[97, 117, 116, 104, 101, 110, 116, 105, 99, 97, 116, 111, 114]⟩, .pointer (some ⟨e, 12, none⟩)]) (.int .i64 6)).run Tryd.prog wr = .ok (.agg #[.string ⟨#[109, 101, 109, 98, 101, 114, 115, 104, 105, 112]⟩, .pointer (some ⟨e, 10, none⟩)]) wr := by
          refine (idx86 wr _ 6 (by decide)).trans ?_
          simp
        have hal : Below wr.heap.size wr ((wr.alloc (.cells #[.string ⟨#[109, 101, 109, 98, 101, 114, 115, 104, 105, 112]⟩, .pointer (some ⟨e, 10, none⟩)] 85)).drew) := ((Below.refl _ _).alloc (Nat.le_refl _) _).drew
        have HWE : Hid (wr.heap.size ≠ e) := by unfold Hid; omega
        have q3 := (hal.cell (p := ⟨e, 3, none⟩) hcl).trans c3
        have q0 : ((wr.alloc (.cells #[.string ⟨#[109, 101, 109, 98, 101, 114, 115, 104, 105, 112]⟩, .pointer (some ⟨e, 10, none⟩)] 85)).drew).cell? ⟨wr.heap.size, 0, none⟩ = some (.string ⟨#[109, 101, 109, 98, 101, 114, 115, 104, 105, 112]⟩) := by go_simp
        have q1 : ((wr.alloc (.cells #[.string ⟨#[109, 101, 109, 98, 101, 114, 115, 104, 105, 112]⟩, .pointer (some ⟨e, 10, none⟩)] 85)).drew).cell? ⟨wr.heap.size, 1, none⟩ = some (.pointer (some ⟨e, 10, none⟩)) := by go_simp
        have HR2 : Hid (Run s w0 ((wr.alloc (.cells #[.string ⟨#[109, 101, 109, 98, 101, 114, 115, 104, 105, 112]⟩, .pointer (some ⟨e, 10, none⟩)] 85)).drew) ns0 nsk dr (c + 1 + 6)) := HR.out.after hal
        have nd : ¬ Own ((wr.alloc (.cells #[.string ⟨#[109, 101, 109, 98, 101, 114, 115, 104, 105, 112]⟩, .pointer (some ⟨e, 10, none⟩)] 85)).drew) s wr.heap.size := fun ho => by
          have hh := HR.out.seat.st.own_lt ((own_below1 HR.out.seat.st.lt hal _).1 ho)
          omega
        have ne : ¬ Own ((wr.alloc (.cells #[.string ⟨#[109, 101, 109, 98, 101, 114, 115, 104, 105, 112]⟩, .pointer (some ⟨e, 10, none⟩)] 85)).drew) s e := fun ho => HN.out ((own_below1 HR.out.seat.st.lt hal _).1 ho)
        have HC2 : Hid (Cells ((wr.alloc (.cells #[.string ⟨#[109, 101, 109, 98, 101, 114, 115, 104, 105, 112]⟩, .pointer (some ⟨e, 10, none⟩)] 85)).drew) e 34 (epCells a0 a1 a2 a3 lk)) := Cells.below HC.out hal
        have ld : wr.heap.size < ((wr.alloc (.cells #[.string ⟨#[109, 101, 109, 98, 101, 114, 115, 104, 105, 112]⟩, .pointer (some ⟨e, 10, none⟩)] 85)).drew).heap.size := by simp
        have Hnd : Hid (¬ Own ((wr.alloc (.cells #[.string ⟨#[109, 101, 109, 98, 101, 114, 115, 104, 105, 112]⟩, .pointer (some ⟨e, 10, none⟩)] 85)).drew) s wr.heap.size ∧ wr.heap.size < ((wr.alloc (.cells #[.string ⟨#[109, 101, 109, 98, 101, 114, 115, 104, 105, 112]⟩, .pointer (some ⟨e, 10, none⟩)] 85)).drew).heap.size) := ⟨nd, ld⟩
        have Hne : Hid (¬ Own ((wr.alloc (.cells #[.string ⟨#[109, 101, 109, 98, 101, 114, 115, 104, 105, 112]⟩, .pointer (some ⟨e, 10, none⟩)] 85)).drew) s e) := ne
        clear c3 hal nd ne ld
        go_wp2_with (rw [hx])
        go_region_held3 (fun w' => w'.cell? ⟨wr.heap.size, 0, none⟩ = some (.string ⟨#[109, 101, 109, 98, 101, 114, 115, 104, 105, 112]⟩) ∧ w'.cell? ⟨wr.heap.size, 1, none⟩ = some (.pointer (some ⟨e, 10, none⟩)) ∧ w'.cell? ⟨e, 3, none⟩ = some (.int .i64 a3))
          (first | exact ⟨q0, q1, q3⟩ | exact ⟨(World.cell?_of_block (w := w2) (a := ⟨wr.heap.size, 0, none⟩) (Below.heap_setCell _ _ _ _ HWE.out)).trans q0, (World.cell?_of_block (w := w2) (a := ⟨wr.heap.size, 1, none⟩) (Below.heap_setCell _ _ _ _ HWE.out)).trans q1, by rw [Cells.cell (Cells.set hc2 10 (.int .i64 t2))]; rfl⟩)
          (first
            | (go_at_call 29; refine (kdf_m HR2.out.seat kMembership (by decide) HQ2.out (HE1.out.keeps HP.out) (HM1.out.keeps HP.out)).mono ?_; rintro r w2 ⟨t2, ns2, rfl, r2, m2⟩; replace q0 := (r2.cell Hnd.out.2 Hnd.out.1 0).trans q0; replace q1 := (r2.cell Hnd.out.2 Hnd.out.1 1).trans q1; replace q3 := (r2.cell HC2.out.lt Hne.out 3).trans q3; have hc2 := Cells.run HC2.out r2 Hne.out; have hk2 : w2.cell? ⟨e, 10, none⟩ = some (.int .i64 o) := by { rw [hc2.cell]; simp [epCells, Ho.out] }; have fk2 : w2.frozen? ⟨e, 10, none⟩ = false := hc2.frozen _; have n2 := r2.mv.free HC2.out.lt Hne.out; have HR3 : Hid (Run s w0 w2 ns0 ns2 dr (c + 1 + 6 + 1)) := HR2.out.trans r2; have HM2 : Hid (Means ns2 t2 (ofT kMembership E)) := m2; have HS2 : Hid (Stp nsk ns2 1) := r2.st; clear r2 m2)
            | fail)
        obtain ⟨R4, n4⟩ := HR3.out.setE Hb.out Hee.out n2 10 (.int .i64 t2)
        have HR4 : Hid (Run s w0 (w2.setCell ⟨e, 10, none⟩ (.int .i64 t2)) ns0 ns2 dr (c + 1 + 6 + 1)) := R4
        have HN4 : Hid (¬ Own (w2.setCell ⟨e, 10, none⟩ (.int .i64 t2)) s e) := n4
        have HC4 : Hid (Cells (w2.setCell ⟨e, 10, none⟩ (.int .i64 t2)) e 34 (epCells a0 a1 a2 a3 (lk.set 6 t2))) := by
          have := hc2.set 10 (.int .i64 t2)
          rwa [show 10 = 4 + 6 from rfl, epCells_set] at this
        clear R4 n4 hc2 hk2 fk2 n2 q0 q1 q3 hx
        go_wp2_with fail
        go_roundw
        case rel => exact ⟨7, ns2, lk.set 6 t2, by omega, by go_num, HR4.out, HN4.out, by unfold Hid; rw [List.length_set]; exact HL.out, HC4.out, (HD.out.keeps HS2.out.pre).put (by rw [HL.out]; decide) rfl HM2.out, HP.out.trans HS2.out.pre, by have h1 := HQ.out; have h2 := HS2.out.len; unfold Hid; omega⟩
        case measure => simp [intOf]
      · clear kw0 ho
        have hx : (Instr.index 86 (.agg #[.string ⟨#[105, 110, 105, 116]⟩, .pointer (some ⟨e, 4, none⟩), .string ⟨#[100, 97, 116, 97]⟩, .pointer (some ⟨e, 5, none⟩), .string ⟨#[114, 97, 116, 99, 104, 101, 116, 115]⟩, .pointer (some ⟨e, 6, none⟩), .string ⟨#[101, 120, 112, 111, 114, 116, 101, 114]⟩, .pointer (some ⟨e, 7, none⟩), .string ⟨#[101, 120, 116, 101, 114, 110, 97, 108]⟩, .pointer (some ⟨e, 8, none⟩), .string ⟨#[99, 111, 110, 102, 105, 114, 109]⟩, .pointer (some ⟨e, 9, none⟩), .string ⟨#[109, 101, 109, 98, 101, 114, 115, 104, 105, 112]⟩, .pointer (some ⟨e, 10, none⟩), .string ⟨#[114, 101, 115, 117, 109, 112, 116, 105, 111, 110]⟩, .pointer (some ⟨e, 11, none⟩), .string ⟨#[97, 117, 116, 104, 101, 110, 116, 105, 99, 97, 116, 111, 114]⟩, .pointer (some ⟨e, 12, none⟩)]) (.int .i64 7)).run Tryd.prog wr = .ok (.agg #[.string ⟨#[114, 101, 115, 117, 109, 112, 116, 105, 111, 110]⟩, .pointer (some ⟨e, 11, none⟩)]) wr := by
          refine (idx86 wr _ 7 (by decide)).trans ?_
          simp
        have hal : Below wr.heap.size wr ((wr.alloc (.cells #[.string ⟨#[114, 101, 115, 117, 109, 112, 116, 105, 111, 110]⟩, .pointer (some ⟨e, 11, none⟩)] 85)).drew) := ((Below.refl _ _).alloc (Nat.le_refl _) _).drew
        have HWE : Hid (wr.heap.size ≠ e) := by unfold Hid; omega
        have q3 := (hal.cell (p := ⟨e, 3, none⟩) hcl).trans c3
        have q0 : ((wr.alloc (.cells #[.string ⟨#[114, 101, 115, 117, 109, 112, 116, 105, 111, 110]⟩, .pointer (some ⟨e, 11, none⟩)] 85)).drew).cell? ⟨wr.heap.size, 0, none⟩ = some (.string ⟨#[114, 101, 115, 117, 109, 112, 116, 105, 111, 110]⟩) := by go_simp
        have q1 : ((wr.alloc (.cells #[.string ⟨#[114, 101, 115, 117, 109, 112, 116, 105, 111, 110]⟩, .pointer (some ⟨e, 11, none⟩)] 85)).drew).cell? ⟨wr.heap.size, 1, none⟩ = some (.pointer (some ⟨e, 11, none⟩)) := by go_simp
        have HR2 : Hid (Run s w0 ((wr.alloc (.cells #[.string ⟨#[114, 101, 115, 117, 109, 112, 116, 105, 111, 110]⟩, .pointer (some ⟨e, 11, none⟩)] 85)).drew) ns0 nsk dr (c + 1 + 7)) := HR.out.after hal
        have nd : ¬ Own ((wr.alloc (.cells #[.string ⟨#[114, 101, 115, 117, 109, 112, 116, 105, 111, 110]⟩, .pointer (some ⟨e, 11, none⟩)] 85)).drew) s wr.heap.size := fun ho => by
          have hh := HR.out.seat.st.own_lt ((own_below1 HR.out.seat.st.lt hal _).1 ho)
          omega
        have ne : ¬ Own ((wr.alloc (.cells #[.string ⟨#[114, 101, 115, 117, 109, 112, 116, 105, 111, 110]⟩, .pointer (some ⟨e, 11, none⟩)] 85)).drew) s e := fun ho => HN.out ((own_below1 HR.out.seat.st.lt hal _).1 ho)
        have HC2 : Hid (Cells ((wr.alloc (.cells #[.string ⟨#[114, 101, 115, 117, 109, 112, 116, 105, 111, 110]⟩, .pointer (some ⟨e, 11, none⟩)] 85)).drew) e 34 (epCells a0 a1 a2 a3 lk)) := Cells.below HC.out hal
        have ld : wr.heap.size < ((wr.alloc (.cells #[.string ⟨#[114, 101, 115, 117, 109, 112, 116, 105, 111, 110]⟩, .pointer (some ⟨e, 11, none⟩)] 85)).drew).heap.size := by simp
        have Hnd : Hid (¬ Own ((wr.alloc (.cells #[.string ⟨#[114, 101, 115, 117, 109, 112, 116, 105, 111, 110]⟩, .pointer (some ⟨e, 11, none⟩)] 85)).drew) s wr.heap.size ∧ wr.heap.size < ((wr.alloc (.cells #[.string ⟨#[114, 101, 115, 117, 109, 112, 116, 105, 111, 110]⟩, .pointer (some ⟨e, 11, none⟩)] 85)).drew).heap.size) := ⟨nd, ld⟩
        have Hne : Hid (¬ Own ((wr.alloc (.cells #[.string ⟨#[114, 101, 115, 117, 109, 112, 116, 105, 111, 110]⟩, .pointer (some ⟨e, 11, none⟩)] 85)).drew) s e) := ne
        clear c3 hal nd ne ld
        go_wp2_with (rw [hx])
        go_region_held3 (fun w' => w'.cell? ⟨wr.heap.size, 0, none⟩ = some (.string ⟨#[114, 101, 115, 117, 109, 112, 116, 105, 111, 110]⟩) ∧ w'.cell? ⟨wr.heap.size, 1, none⟩ = some (.pointer (some ⟨e, 11, none⟩)) ∧ w'.cell? ⟨e, 3, none⟩ = some (.int .i64 a3))
          (first | exact ⟨q0, q1, q3⟩ | exact ⟨(World.cell?_of_block (w := w2) (a := ⟨wr.heap.size, 0, none⟩) (Below.heap_setCell _ _ _ _ HWE.out)).trans q0, (World.cell?_of_block (w := w2) (a := ⟨wr.heap.size, 1, none⟩) (Below.heap_setCell _ _ _ _ HWE.out)).trans q1, by rw [Cells.cell (Cells.set hc2 11 (.int .i64 t2))]; rfl⟩)
          (first
            | (go_at_call 29; refine (kdf_m HR2.out.seat kResumption (by decide) HQ2.out (HE1.out.keeps HP.out) (HM1.out.keeps HP.out)).mono ?_; rintro r w2 ⟨t2, ns2, rfl, r2, m2⟩; replace q0 := (r2.cell Hnd.out.2 Hnd.out.1 0).trans q0; replace q1 := (r2.cell Hnd.out.2 Hnd.out.1 1).trans q1; replace q3 := (r2.cell HC2.out.lt Hne.out 3).trans q3; have hc2 := Cells.run HC2.out r2 Hne.out; have hk2 : w2.cell? ⟨e, 11, none⟩ = some (.int .i64 o) := by { rw [hc2.cell]; simp [epCells, Ho.out] }; have fk2 : w2.frozen? ⟨e, 11, none⟩ = false := hc2.frozen _; have n2 := r2.mv.free HC2.out.lt Hne.out; have HR3 : Hid (Run s w0 w2 ns0 ns2 dr (c + 1 + 7 + 1)) := HR2.out.trans r2; have HM2 : Hid (Means ns2 t2 (ofT kResumption E)) := m2; have HS2 : Hid (Stp nsk ns2 1) := r2.st; clear r2 m2)
            | fail)
        obtain ⟨R4, n4⟩ := HR3.out.setE Hb.out Hee.out n2 11 (.int .i64 t2)
        have HR4 : Hid (Run s w0 (w2.setCell ⟨e, 11, none⟩ (.int .i64 t2)) ns0 ns2 dr (c + 1 + 7 + 1)) := R4
        have HN4 : Hid (¬ Own (w2.setCell ⟨e, 11, none⟩ (.int .i64 t2)) s e) := n4
        have HC4 : Hid (Cells (w2.setCell ⟨e, 11, none⟩ (.int .i64 t2)) e 34 (epCells a0 a1 a2 a3 (lk.set 7 t2))) := by
          have := hc2.set 11 (.int .i64 t2)
          rwa [show 11 = 4 + 7 from rfl, epCells_set] at this
        clear R4 n4 hc2 hk2 fk2 n2 q0 q1 q3 hx
        go_wp2_with fail
        go_roundw
        case rel => exact ⟨8, ns2, lk.set 7 t2, by omega, by go_num, HR4.out, HN4.out, by unfold Hid; rw [List.length_set]; exact HL.out, HC4.out, (HD.out.keeps HS2.out.pre).put (by rw [HL.out]; decide) rfl HM2.out, HP.out.trans HS2.out.pre, by have h1 := HQ.out; have h2 := HS2.out.len; unfold Hid; omega⟩
        case measure => simp [intOf]
      · clear kw0 ho
        have hx : (Instr.index 86 (.agg #[.string ⟨#[105, 110, 105, 116]⟩, .pointer (some ⟨e, 4, none⟩), .string ⟨#[100, 97, 116, 97]⟩, .pointer (some ⟨e, 5, none⟩), .string ⟨#[114, 97, 116, 99, 104, 101, 116, 115]⟩, .pointer (some ⟨e, 6, none⟩), .string ⟨#[101, 120, 112, 111, 114, 116, 101, 114]⟩, .pointer (some ⟨e, 7, none⟩), .string ⟨#[101, 120, 116, 101, 114, 110, 97, 108]⟩, .pointer (some ⟨e, 8, none⟩), .string ⟨#[99, 111, 110, 102, 105, 114, 109]⟩, .pointer (some ⟨e, 9, none⟩), .string ⟨#[109, 101, 109, 98, 101, 114, 115, 104, 105, 112]⟩, .pointer (some ⟨e, 10, none⟩), .string ⟨#[114, 101, 115, 117, 109, 112, 116, 105, 111, 110]⟩, .pointer (some ⟨e, 11, none⟩), .string ⟨#[97, 117, 116, 104, 101, 110, 116, 105, 99, 97, 116, 111, 114]⟩, .pointer (some ⟨e, 12, none⟩)]) (.int .i64 8)).run Tryd.prog wr = .ok (.agg #[.string ⟨#[97, 117, 116, 104, 101, 110, 116, 105, 99, 97, 116, 111, 114]⟩, .pointer (some ⟨e, 12, none⟩)]) wr := by
          refine (idx86 wr _ 8 (by decide)).trans ?_
          simp
        have hal : Below wr.heap.size wr ((wr.alloc (.cells #[.string ⟨#[97, 117, 116, 104, 101, 110, 116, 105, 99, 97, 116, 111, 114]⟩, .pointer (some ⟨e, 12, none⟩)] 85)).drew) := ((Below.refl _ _).alloc (Nat.le_refl _) _).drew
        have HWE : Hid (wr.heap.size ≠ e) := by unfold Hid; omega
        have q3 := (hal.cell (p := ⟨e, 3, none⟩) hcl).trans c3
        have q0 : ((wr.alloc (.cells #[.string ⟨#[97, 117, 116, 104, 101, 110, 116, 105, 99, 97, 116, 111, 114]⟩, .pointer (some ⟨e, 12, none⟩)] 85)).drew).cell? ⟨wr.heap.size, 0, none⟩ = some (.string ⟨#[97, 117, 116, 104, 101, 110, 116, 105, 99, 97, 116, 111, 114]⟩) := by go_simp
        have q1 : ((wr.alloc (.cells #[.string ⟨#[97, 117, 116, 104, 101, 110, 116, 105, 99, 97, 116, 111, 114]⟩, .pointer (some ⟨e, 12, none⟩)] 85)).drew).cell? ⟨wr.heap.size, 1, none⟩ = some (.pointer (some ⟨e, 12, none⟩)) := by go_simp
        have HR2 : Hid (Run s w0 ((wr.alloc (.cells #[.string ⟨#[97, 117, 116, 104, 101, 110, 116, 105, 99, 97, 116, 111, 114]⟩, .pointer (some ⟨e, 12, none⟩)] 85)).drew) ns0 nsk dr (c + 1 + 8)) := HR.out.after hal
        have nd : ¬ Own ((wr.alloc (.cells #[.string ⟨#[97, 117, 116, 104, 101, 110, 116, 105, 99, 97, 116, 111, 114]⟩, .pointer (some ⟨e, 12, none⟩)] 85)).drew) s wr.heap.size := fun ho => by
          have hh := HR.out.seat.st.own_lt ((own_below1 HR.out.seat.st.lt hal _).1 ho)
          omega
        have ne : ¬ Own ((wr.alloc (.cells #[.string ⟨#[97, 117, 116, 104, 101, 110, 116, 105, 99, 97, 116, 111, 114]⟩, .pointer (some ⟨e, 12, none⟩)] 85)).drew) s e := fun ho => HN.out ((own_below1 HR.out.seat.st.lt hal _).1 ho)
        have HC2 : Hid (Cells ((wr.alloc (.cells #[.string ⟨#[97, 117, 116, 104, 101, 110, 116, 105, 99, 97, 116, 111, 114]⟩, .pointer (some ⟨e, 12, none⟩)] 85)).drew) e 34 (epCells a0 a1 a2 a3 lk)) := Cells.below HC.out hal
        have ld : wr.heap.size < ((wr.alloc (.cells #[.string ⟨#[97, 117, 116, 104, 101, 110, 116, 105, 99, 97, 116, 111, 114]⟩, .pointer (some ⟨e, 12, none⟩)] 85)).drew).heap.size := by simp
        have Hnd : Hid (¬ Own ((wr.alloc (.cells #[.string ⟨#[97, 117, 116, 104, 101, 110, 116, 105, 99, 97, 116, 111, 114]⟩, .pointer (some ⟨e, 12, none⟩)] 85)).drew) s wr.heap.size ∧ wr.heap.size < ((wr.alloc (.cells #[.string ⟨#[97, 117, 116, 104, 101, 110, 116, 105, 99, 97, 116, 111, 114]⟩, .pointer (some ⟨e, 12, none⟩)] 85)).drew).heap.size) := ⟨nd, ld⟩
        have Hne : Hid (¬ Own ((wr.alloc (.cells #[.string ⟨#[97, 117, 116, 104, 101, 110, 116, 105, 99, 97, 116, 111, 114]⟩, .pointer (some ⟨e, 12, none⟩)] 85)).drew) s e) := ne
        clear c3 hal nd ne ld
        go_wp2_with (rw [hx])
        go_region_held3 (fun w' => w'.cell? ⟨wr.heap.size, 0, none⟩ = some (.string ⟨#[97, 117, 116, 104, 101, 110, 116, 105, 99, 97, 116, 111, 114]⟩) ∧ w'.cell? ⟨wr.heap.size, 1, none⟩ = some (.pointer (some ⟨e, 12, none⟩)) ∧ w'.cell? ⟨e, 3, none⟩ = some (.int .i64 a3))
          (first | exact ⟨q0, q1, q3⟩ | exact ⟨(World.cell?_of_block (w := w2) (a := ⟨wr.heap.size, 0, none⟩) (Below.heap_setCell _ _ _ _ HWE.out)).trans q0, (World.cell?_of_block (w := w2) (a := ⟨wr.heap.size, 1, none⟩) (Below.heap_setCell _ _ _ _ HWE.out)).trans q1, by rw [Cells.cell (Cells.set hc2 12 (.int .i64 t2))]; rfl⟩)
          (first
            | (go_at_call 29; refine (kdf_m HR2.out.seat kAuthenticator (by decide) HQ2.out (HE1.out.keeps HP.out) (HM1.out.keeps HP.out)).mono ?_; rintro r w2 ⟨t2, ns2, rfl, r2, m2⟩; replace q0 := (r2.cell Hnd.out.2 Hnd.out.1 0).trans q0; replace q1 := (r2.cell Hnd.out.2 Hnd.out.1 1).trans q1; replace q3 := (r2.cell HC2.out.lt Hne.out 3).trans q3; have hc2 := Cells.run HC2.out r2 Hne.out; have hk2 : w2.cell? ⟨e, 12, none⟩ = some (.int .i64 o) := by { rw [hc2.cell]; simp [epCells, Ho.out] }; have fk2 : w2.frozen? ⟨e, 12, none⟩ = false := hc2.frozen _; have n2 := r2.mv.free HC2.out.lt Hne.out; have HR3 : Hid (Run s w0 w2 ns0 ns2 dr (c + 1 + 8 + 1)) := HR2.out.trans r2; have HM2 : Hid (Means ns2 t2 (ofT kAuthenticator E)) := m2; have HS2 : Hid (Stp nsk ns2 1) := r2.st; clear r2 m2)
            | fail)
        obtain ⟨R4, n4⟩ := HR3.out.setE Hb.out Hee.out n2 12 (.int .i64 t2)
        have HR4 : Hid (Run s w0 (w2.setCell ⟨e, 12, none⟩ (.int .i64 t2)) ns0 ns2 dr (c + 1 + 8 + 1)) := R4
        have HN4 : Hid (¬ Own (w2.setCell ⟨e, 12, none⟩ (.int .i64 t2)) s e) := n4
        have HC4 : Hid (Cells (w2.setCell ⟨e, 12, none⟩ (.int .i64 t2)) e 34 (epCells a0 a1 a2 a3 (lk.set 8 t2))) := by
          have := hc2.set 12 (.int .i64 t2)
          rwa [show 12 = 4 + 8 from rfl, epCells_set] at this
        clear R4 n4 hc2 hk2 fk2 n2 q0 q1 q3 hx
        go_wp2_with fail
        go_roundw
        case rel => exact ⟨9, ns2, lk.set 8 t2, by omega, by go_num, HR4.out, HN4.out, by unfold Hid; rw [List.length_set]; exact HL.out, HC4.out, (HD.out.keeps HS2.out.pre).put (by rw [HL.out]; decide) rfl HM2.out, HP.out.trans HS2.out.pre, by have h1 := HQ.out; have h2 := HS2.out.len; unfold Hid; omega⟩
        case measure => simp [intOf]
    · have hk9 : k = 9 := by omega
      subst hk9
      go_wp2_with fail
      go_end0
      exact ⟨rfl, nsk, lk, HR.out, HN.out, HL.out, HC.out, HD.out, HP1.out.trans HP.out⟩

end Go.Proofs.YtcfmagmhnemhaaaDoor
