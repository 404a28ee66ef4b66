/-
  A step on both sides: the program's and the document's answers are one tree, or both refuse.
-/
import Derived.Test.YtdnopkpoepdihaaDoorSE
import Derived.Test.YtdnopkpoepdihaaDoorSF
import Derived.Deep.RegionLaw
namespace Go.Proofs.YtdnopkpoepdihaaDoor
open Go.RowKit
set_option linter.unusedSimpArgs false
set_option linter.unusedVariables false

theorem treeAt_nil (w : World) : TreeAt w (.slice none 0 0) [] := ⟨none, 0, rfl, by simp, fun h => absurd rfl h⟩

/-- A tree that a step answers: none, or a right one. -/
def Nxt (Q : Tree) : Prop := Q = [] ∨ Good Q

theorem add_both {P : Tree} (hG : Good P) (u : PV) (h : Value) : ∃ (Q : Tree) (i f : Int), Nxt Q ∧
    (∀ W v, TreeAt W v P → Tab W → Calls Tryd.prog 33 #[v, u.val h] W fun e w' => ∃ v', e = .returned (.tuple #[v', .int .i64 i, .int .i64 f]) ∧ TreeAt w' v' Q ∧ Below W.heap.size W w') ∧
    (∀ W v, TreeAt W v P → Calls Tryd.prog 39 #[v, u.val h] W fun e w' => ∃ v', e = .returned (.tuple #[v', .int .i64 i, .int .i64 f]) ∧ TreeAt w' v' Q ∧ Below W.heap.size W w') := by
  by_cases hr : least P = lv P ∧ lv P = 32
  · refine ⟨[], 0, 41, .inl rfl, fun W v ht _ => (add_no hG.fit ht u h hr.1 hr.2).mono ?_, fun W v ht => (refAdd_no hG.fit ht u h hr.1 hr.2).mono ?_⟩
    all_goals
      rintro e w' ⟨rfl, hb⟩
      exact ⟨_, rfl, treeAt_nil _, hb⟩
  · have hg := hG.add hr u
    refine ⟨addF P u, least P, 0, .inr hg, fun W v ht hT => (add_yes hG.fit ht hT u h hr).mono ?_, fun W v ht => (refAdd_yes hG.fit ht u h hr hg.fit).mono ?_⟩
    · rintro e w' ⟨v', hs, rfl, o, hb⟩
      exact ⟨v', rfl, o.treeF hg.fit, hb⟩
    · rintro e w' ⟨v', rfl, o, hb⟩
      exact ⟨v', rfl, o, hb⟩

theorem update_both {P : Tree} (hG : Good P) (i : Int) (u : PV) (h : Value) : ∃ (Q : Tree) (f : Int), Nxt Q ∧
    (∀ W v, TreeAt W v P → Tab W → Calls Tryd.prog 34 #[v, .int .i64 i, u.val h] W fun e w' => ∃ v', e = .returned (.tuple #[v', .int .i64 f]) ∧ TreeAt w' v' Q ∧ Below W.heap.size W w') ∧
    (∀ W v, TreeAt W v P → Calls Tryd.prog 44 #[v, .int .i64 i, u.val h] W fun e w' => ∃ v', e = .returned (.tuple #[v', .int .i64 f]) ∧ TreeAt w' v' Q ∧ Below W.heap.size W w') := by
  cases hi : fullB P i with
  | false =>
    refine ⟨[], 40, .inl rfl, fun W v ht _ => (update_no hG.fit ht i hi u h).mono ?_, fun W v ht => (refUpdate_no hG.fit ht i hi u h).mono ?_⟩
    all_goals
      rintro e w' ⟨rfl, hb⟩
      exact ⟨_, rfl, treeAt_nil _, hb⟩
  | true =>
    obtain ⟨k, hk, _, _⟩ := fullB_nat hi
    have hg : Good (putF P i (leafV u)) := by rw [hk]; exact (hG.upd (k := k) (by rw [isF_fullB, ← hk]; exact hi) (leafV u) ⟨rfl, rfl⟩).1
    exact ⟨putF P i (leafV u), 0, .inr hg, fun W v ht hT => update_yes hG.fit ht hT i hi u h, fun W v ht => refUpdate_yes hG.fit ht i hi u h⟩

theorem remove_both {P : Tree} (hG : Good P) (i : Int) : ∃ (Q : Tree) (f : Int), Nxt Q ∧
    (∀ W v, TreeAt W v P → Tab W → Calls Tryd.prog 35 #[v, .int .i64 i] W fun e w' => ∃ v', e = .returned (.tuple #[v', .int .i64 f]) ∧ TreeAt w' v' Q ∧ Below W.heap.size W w') ∧
    (∀ W v, TreeAt W v P → Calls Tryd.prog 45 #[v, .int .i64 i] W fun e w' => ∃ v', e = .returned (.tuple #[v', .int .i64 f]) ∧ TreeAt w' v' Q ∧ Below W.heap.size W w') := by
  cases hi : fullB P i with
  | false =>
    refine ⟨[], 40, .inl rfl, fun W v ht _ => (remove_no hG.fit ht i hi).mono ?_, fun W v ht => (refRemove_no hG.fit ht i (.inl hi)).mono ?_⟩
    all_goals
      rintro e w' ⟨rfl, hb⟩
      exact ⟨_, rfl, treeAt_nil _, hb⟩
  | true =>
    by_cases hm : (members P).length = 1
    · refine ⟨[], 40, .inl rfl, fun W v ht _ => (remove_only hG.fit ht i hi hm).mono ?_, fun W v ht => (refRemove_no hG.fit ht i (.inr (by omega))).mono ?_⟩
      all_goals
        rintro e w' ⟨rfl, hb⟩
        exact ⟨_, rfl, treeAt_nil _, hb⟩
    · obtain ⟨k, hk, _, _⟩ := fullB_nat hi
      have hg : Good (remF P i) := by rw [hk]; exact (rem_all hG (k := k) (by rw [isF_fullB, ← hk]; exact hi) hm).1
      have := members_ge hG
      exact ⟨remF P i, 0, .inr hg, fun W v ht hT => remove_yes hG.fit ht hT i hi hm, fun W v ht => refRemove_yes hG.fit ht i hi (by omega)⟩

theorem merge_both {P : Tree} (hG : Good P) (i : Int) (u : PV) (h : Value) (ks : List Int) : ∃ (Q : Tree) (f : Int), Nxt Q ∧
    (∀ W v vk vh, TreeAt W v P → Tab W → IntsAt W vk ks → IntsAt W vh ks → Calls Tryd.prog 37 #[v, .int .i64 i, u.val h, vk, vh] W fun e w' => ∃ v', e = .returned (.tuple #[v', .int .i64 f]) ∧ TreeAt w' v' Q ∧ Below W.heap.size W w') ∧
    (∀ W v vk vh, TreeAt W v P → IntsAt W vk ks → IntsAt W vh ks → Calls Tryd.prog 46 #[v, .int .i64 i, u.val h, vk, vh] W fun e w' => ∃ v', e = .returned (.tuple #[v', .int .i64 f]) ∧ TreeAt w' v' Q ∧ Below W.heap.size W w') := by
  cases hi : fullB P i with
  | false =>
    refine ⟨[], 40, .inl rfl, fun W v vk vh ht _ _ _ => (merge_no hG.fit ht i hi u h vk vh).mono ?_, fun W v vk vh ht _ _ => (refMerge_no hG.fit ht i hi u h vk vh).mono ?_⟩
    all_goals
      rintro e w' ⟨rfl, hb⟩
      exact ⟨_, rfl, treeAt_nil _, hb⟩
  | true =>
    by_cases hl : ks.length = (filt P i).length
    · obtain ⟨k, hk, _, _⟩ := fullB_nat hi
      have hg : Good (mergeF P i u ks ks) := by rw [hk]; exact (hG.merge (k := k) (by rw [isF_fullB, ← hk]; exact hi) u ks ks).1
      exact ⟨mergeF P i u ks ks, 0, .inr hg, fun W v vk vh ht hT h1 h2 => merge_yes hG.fit ht hT i hi u h h1 h2 hl hl, fun W v vk vh ht h1 h2 => refMerge_yes hG.fit ht i hi u h h1 h2 hl hl⟩
    · refine ⟨[], 30, .inl rfl, fun W v vk vh ht hT h1 h2 => (merge_bad hG.fit ht hT i hi u h h1 h2 (by omega)).mono ?_, fun W v vk vh ht h1 h2 => (refMerge_bad hG.fit ht i hi u h h1 h2 (by omega)).mono ?_⟩
      all_goals
        rintro e w' ⟨rfl, hb⟩
        exact ⟨_, rfl, treeAt_nil _, hb⟩

end Go.Proofs.YtdnopkpoepdihaaDoor
