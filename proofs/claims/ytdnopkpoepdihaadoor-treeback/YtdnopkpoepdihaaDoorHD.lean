/-
  Whether a place is below another: package heap's Under.
-/
import Derived.Test.YtdnopkpoepdihaaDoorHC
namespace Go.Proofs.YtdnopkpoepdihaaDoor
open Go.RowKit Go.Shelf
set_option linter.unusedSimpArgs false
set_option linter.unusedVariables false
attribute [local go_sem] Oper.semAt_some

set_option maxRecDepth 100000 in
set_option maxHeartbeats 2000000 in
theorem under_yes (x y n : Int) (hx : inB x n = true) (hy : inB y n = true) {w : World} (hT : Tab w) :
    CallsIn Fence.wide 3 Tryd.prog 86 #[.int .i64 x, .int .i64 y, .int .i64 n] w fun e W' => e = .returned (.bool ((up x n).contains y)) ∧ Below w.heap.size w W' := by
  have hts := hT.size
  refine callsIn_of_wp_marks Tryd.func86 rfl trivial ?_ rfl
  simp only [Tryd.ntmps86, List.size_toArray, List.length_cons, List.length_nil, Nat.reduceAdd, Nat.reduceSub, Array.replicate_succ, Array.replicate_zero, List.push_toArray, List.append_toArray, List.nil_append, List.cons_append]
  gi_wp2_with first
    | (refine ⟨trivial, ?_⟩; gi_at_call 74; refine (callsIn_wide.2 (isPlace_any _ _ _)).mono ?_; rintro e w' ⟨rfl, rfl⟩; simp only [hx, hy])
    | (refine ⟨trivial, ?_⟩; gi_at_call 75; refine (callsIn_wide.2 (upward_any _ _ _)).mono ?_; rintro e w' ⟨rfl, rfl⟩)
  have c0 := cell_new w (.int .i64 y) 3
  have c1 := cell_new (w.alloc (.cells #[.int .i64 y] 3)) (.bool false) 4
  have c2 := cell_new ((w.alloc (.cells #[.int .i64 y] 3)).alloc (.cells #[.bool false] 4)) (.int .i64 x) 3
  have c3 := cell_new (((w.alloc (.cells #[.int .i64 y] 3)).alloc (.cells #[.bool false] 4)).alloc (.cells #[.int .i64 x] 3)) (.int .i64 n) 3
  simp only [World.size_alloc] at c1 c2 c3
  have hB0 : Below w.heap.size w ((((w.alloc (.cells #[.int .i64 y] 3)).alloc (.cells #[.bool false] 4)).alloc (.cells #[.int .i64 x] 3)).alloc (.cells #[.int .i64 n] 3)) := ((((Below.refl _ w).alloc (Nat.le_refl _) _).alloc (by simp) _).alloc (by simp; omega) _).alloc (by simp; omega) _
  refine wpIn_rangeFunc_ownF rfl (by omega) (gf := 88) (lb := #[.pointer (some ⟨w.heap.size + 1 + 1, 0, none⟩), .pointer (some ⟨w.heap.size + 1 + 1 + 1, 0, none⟩)]) rfl trivial (enters_of Tryd.func88 (by kernel_rfl) rfl)
    (up_stops 2 (by omega) (w.heap.size + 1 + 1) (w.heap.size + 1 + 1 + 1) w.heap.size x n hx hts _ (hT.below hB0 hts) (by simp) (by simp) (cell_al _ c2.1) c3.1) Kp.t (Kp.b (by simp; omega) (by simp)) (Below.refl _ _) (fun _ => rfl)
    (fun pre W => (pre.contains y = false ∧ W.cell? ⟨w.heap.size, 0, none⟩ = some (.int .i64 y) ∧ W.cell? ⟨w.heap.size + 1, 0, none⟩ = some (.bool false) ∧ W.frozen? ⟨w.heap.size + 1, 0, none⟩ = false) ∧ Below w.heap.size w W)
    (fun c pre W => (c = .ret ∧ pre.contains y = true ∧ W.cell? ⟨w.heap.size + 1, 0, none⟩ = some (.bool true)) ∧ Below w.heap.size w W)
    (OwnFrom.and (Own.from (fun s A B row hs hg hr => ⟨hs.1, cell_kept hs.2.1 hg hr, cell_kept hs.2.2.1 hg hr, (frozen_kept hs.2.2.1 hg hr).trans hs.2.2.2⟩) _) (ownFrom_below (Nat.le_refl _) (by simp; omega)))
    (fun c => OwnFrom.and (Own.from (fun s A B row hs hg hr => ⟨hs.1, hs.2.1, cell_kept hs.2.2 hg hr⟩) _) (ownFrom_below (Nat.le_refl _) (by simp; omega)))
    ⟨⟨by simp, cell_al _ (cell_al _ (cell_al _ c0.1)), cell_al _ (cell_al _ c1.1), frozen_al _ (cell_al _ c1.1) (frozen_al _ c1.1 c1.2)⟩, hB0⟩
    (fun z => { tmps := #[.int .i64 x, .int .i64 y, .int .i64 n, undef, .pointer (some ⟨w.heap.size, 0, none⟩), undef, .pointer (some ⟨w.heap.size + 1, 0, none⟩), .int .i64 z, .int .i64 x, .int .i64 n, .bool true, .bool false, .bool false, .int .i64 y, .int .i64 n, .bool true, .bool false, .bool false, .int .i64 x, .int .i64 n, .func (.func 88) #[] #[.pointer (some ⟨w.heap.size + 1 + 1, 0, none⟩), .pointer (some ⟨w.heap.size + 1 + 1 + 1, 0, none⟩)], .int .i64 z, undef, undef, undef], defers := [] }) ?assign ?body ?done ?stop
  case assign =>
    intro l z W K hK
    gi_wp2
    exact hK
  case body =>
    rintro l pre z W ⟨⟨hp, hcw, hcr, hfr⟩, hB⟩ _
    gi_wp2
    · rename_i hz
      obtain rfl : z = y := eq_of_beq hz
      exact ⟨KeepsOthers.setCell _ _ _, ⟨rfl, by simp, World.cell?_setCell_same' _ _ _ (by rw [hcr]; rfl)⟩, hB.setCell (p := ⟨w.heap.size + 1, 0, none⟩) (by simp) _⟩
    · rename_i hz
      exact ⟨KeepsOthers.refl _, ⟨Below.refl _ _, id⟩, ⟨by simp at hz hp ⊢; exact ⟨hp, fun e => hz e.symm⟩, hcw, hcr, hfr⟩, hB⟩
  case done =>
    rintro D ys W hD rfl ⟨⟨hne, _, hcr, hfr⟩, hB⟩ hK
    gi_wp2
    have hK' := (KeepsOthers.setCell W ⟨w.heap.size + 1, 0, none⟩ (.bool false)).same D _ hK rfl
    refine ⟨by simp, .inl ⟨_, _, rfl, run_takeDeferred hK', ?_⟩⟩
    have hc5 := cell_kept (World.cell?_setCell_same' W ⟨w.heap.size + 1, 0, none⟩ (.bool false) (by rw [hcr]; rfl)) (grownBy_putObj' _ D (.deferred none)) (fun r e => by cases e; exact ⟨_, hK', rfl⟩)
    refine ⟨.bool false, ?_, by rw [hne], (hB.setCell (p := ⟨w.heap.size + 1, 0, none⟩) (by simp) _).trans (belowK_b (w := w) (Nat.le_refl _) _ D _ _ (by simp at hD; omega) hK' rfl rfl)⟩
    simp [results, Tryd.f86, go_sem, hc5]
  case stop =>
    rintro D c pre W hD hpre ⟨⟨rfl, hin, hcr⟩, hB⟩ hK
    gi_wp2
    refine ⟨by simp, .inl ⟨_, _, rfl, run_takeDeferred hK, ?_⟩⟩
    have hc5 := cell_kept hcr (grownBy_putObj' _ D (.deferred none)) (fun r e => by cases e; exact ⟨_, hK, rfl⟩)
    have hin' : (up x n).contains y = true := by simp at hin ⊢; exact hpre.subset hin
    refine ⟨.bool true, ?_, by rw [hin'], hB.trans (belowK_b (w := w) (Nat.le_refl _) W D _ _ (by simp at hD; omega) hK rfl rfl)⟩
    simp [results, Tryd.f86, go_sem, hc5]

set_option maxHeartbeats 1000000 in
theorem under_no (x y n : Int) (h : (inB x n && inB y n) = false) {w : World} :
    Calls Tryd.prog 86 #[.int .i64 x, .int .i64 y, .int .i64 n] w fun e W' => e = .returned (.bool false) ∧ Below w.heap.size w W' := by
  cases hx : inB x n with
  | true =>
    have hy : inB y n = false := by simpa [hx] using h
    go_enter Tryd.func86, Tryd.ntmps86
    go_wp2_with (go_at_call 74; refine (isPlace_any _ _ _).mono ?_; rintro e w' ⟨rfl, rfl⟩; simp only [hx, hy])
    exact bodyPost_ret (v := .bool false) (by have := (cell_new (w.alloc (Obj.cells #[Value.int IntKind.i64 y] 3)) (.bool false) 4).1; rw [World.size_alloc] at this; simp [results, Tryd.results86, go_sem, this]) rfl ⟨rfl, ((Below.refl _ w).alloc (Nat.le_refl _) _).alloc (by simp) _⟩
  | false =>
    go_enter Tryd.func86, Tryd.ntmps86
    go_wp2_with (go_at_call 74; refine (isPlace_any _ _ _).mono ?_; rintro e w' ⟨rfl, rfl⟩; simp only [hx])
    exact bodyPost_ret (v := .bool false) (by have := (cell_new (w.alloc (Obj.cells #[Value.int IntKind.i64 y] 3)) (.bool false) 4).1; rw [World.size_alloc] at this; simp [results, Tryd.results86, go_sem, this]) rfl ⟨rfl, ((Below.refl _ w).alloc (Nat.le_refl _) _).alloc (by simp) _⟩

theorem Under_any (x y n : Int) {w : World} (hT : Tab w) :
    Calls Tryd.prog 86 #[.int .i64 x, .int .i64 y, .int .i64 n] w fun e W' => e = .returned (.bool (underB x y n)) ∧ Below w.heap.size w W' := by
  cases h : inB x n && inB y n with
  | true =>
    have h' := h
    simp only [Bool.and_eq_true] at h
    have := (callsIn_wide (n := 3)).1 (under_yes x y n h.1 h.2 hT)
    rwa [show (up x n).contains y = underB x y n by simp [underB, h.1, h.2]] at this
  | false =>
    have := under_no x y n h (w := w)
    rwa [show false = underB x y n by simp [underB, h]] at this

end Go.Proofs.YtdnopkpoepdihaaDoor
