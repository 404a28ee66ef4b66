/-
  The law HeapFamily: each place but the root is just one child of its parent, and its sibling's sibling is it.
-/
import Derived.Test.YtklbmpmmpikfhaaDoorK
namespace Go.Proofs.YtklbmpmmpikfhaaDoor
open Go.RowKit
set_option linter.unusedSimpArgs false
set_option linter.unusedVariables false

theorem family_facts {x n : Int} (h : inB x n = true) (hr : (x == n - 1) = false) :
    innerB (parI x) n = true ∧ hasParB (sibI x) n = true ∧ sibI (sibI x) = x ∧ ((parI x - halfI (parI x) == x) != (parI x + halfI (parI x) == x)) = true ∧
    (parI x - halfI (parI x)) + (parI x + halfI (parI x)) - x = sibI x ∧ lev (parI x) = lev x + 1 ∧ lev (sibI x) = lev x ∧ 0 < halfI (parI x) ∧ halfI (parI x) < 64 ∧ 0 ≤ parI x ∧ parI x < 64 ∧ 0 ≤ sibI x ∧ sibI x < 64 ∧ 0 ≤ lev x ∧ lev x < 6 := by
  have := forall_in (fun x n => x == n - 1 || decide (innerB (parI x) n = true ∧ hasParB (sibI x) n = true ∧ sibI (sibI x) = x ∧ ((parI x - halfI (parI x) == x) != (parI x + halfI (parI x) == x)) = true ∧
    (parI x - halfI (parI x)) + (parI x + halfI (parI x)) - x = sibI x ∧ lev (parI x) = lev x + 1 ∧ lev (sibI x) = lev x ∧ 0 < halfI (parI x) ∧ halfI (parI x) < 64 ∧ 0 ≤ parI x ∧ parI x < 64 ∧ 0 ≤ sibI x ∧ sibI x < 64 ∧ 0 ≤ lev x ∧ lev x < 6)) (by decide +kernel) x n h
  rw [hr, Bool.false_or, decide_eq_true_eq] at this
  exact this

set_option maxRecDepth 100000 in
set_option maxHeartbeats 2000000 in
theorem family_walk (x : Int) (wx : (Lit.int .i64 x).wf = true) (n : Int) (wn : (Lit.int .i64 n).wf = true) {w : World} (hT : Tab w) :
    Calls Tryd.prog 6 #[.int .i64 x, .int .i64 n] w fun e w' => e = .returned (.bool true) ∧ Below w.heap.size w w' := by
  have hts := hT.size
  clear wx wn
  cases hin : inB x n with
  | false =>
    go_enter Tryd.func6, Tryd.ntmps6
    go_wp2_with fail
    refine (anchor_any hT).mono ?_
    rintro e w1 ⟨rfl, b1⟩
    go_wp2_with (go_at_call 18; refine (refIn_any x n _).mono ?_; rintro e w' ⟨rfl, rfl⟩; rw [hin])
    go_ret
    exact ⟨rfl, b1⟩
  | true =>
    have hr := inB_right hin
    have hn := rightB_bounds hr
    have hxl := inB_lt hin
    cases hro : (x == n - 1) with
    | true =>
      have hp : hasParB x n = false := by simp [hasParB, hin]; simpa using hro
      go_enter Tryd.func6, Tryd.ntmps6
      go_wp2_with fail
      refine (anchor_any hT).mono ?_
      rintro e w1 ⟨rfl, b1⟩
      have hT1 := hT.below b1 hts
      go_wp2_with first
        | (go_at_call 18; refine (refIn_any x n _).mono ?_; rintro e w' ⟨rfl, rfl⟩; rw [hin])
        | (go_at_call 14; refine (Root_any n _).mono ?_; rintro e w' ⟨rfl, rfl⟩; simp only [hr, errIf, if_true])
        | (go_at_call 15; refine (Parent_any x n hT1).mono ?_; rintro e w' ⟨rfl, rfl⟩; simp only [hp, errIf, if_false, Bool.false_eq_true])
      all_goals go_ret
      all_goals exact ⟨rfl, b1⟩
    | false =>
      have hp : hasParB x n = true := by simp [hasParB, hin]; simpa using hro
      obtain ⟨f1, f2, f3, f4, f5, f6, f7, f8, f9, f10, f11, f12, f13, f14, f15⟩ := family_facts hin hro
      obtain ⟨P, hP⟩ : ∃ P, parI x = P := ⟨_, rfl⟩
      obtain ⟨S, hS⟩ : ∃ S, sibI x = S := ⟨_, rfl⟩
      obtain ⟨Hf, hH⟩ : ∃ Hf, halfI P = Hf := ⟨_, rfl⟩
      obtain ⟨L, hL⟩ : ∃ L, lev x = L := ⟨_, rfl⟩
      rw [hP, hH] at f4 f5 f8 f9
      rw [hP] at f1 f6 f10 f11
      rw [hS] at f2 f3 f5 f7 f12 f13
      rw [hL] at f6 f7 f14 f15
      go_enter Tryd.func6, Tryd.ntmps6
      go_wp2_with fail
      refine (anchor_any hT).mono ?_
      rintro e w1 ⟨rfl, b1⟩
      have hT1 := hT.below b1 hts
      go_wp2_with first
        | (go_at_call 18; refine (refIn_any x n _).mono ?_; rintro e w' ⟨rfl, rfl⟩; rw [hin])
        | (go_at_call 14; refine (Root_any n _).mono ?_; rintro e w' ⟨rfl, rfl⟩; simp only [hr, errIf, if_true])
        | (go_at_call 15; refine (Parent_any x n hT1).mono ?_; rintro e w' ⟨rfl, rfl⟩; simp only [hp, hP, errIf, if_true])
        | (go_at_call 17; refine (Children_any _ n hT1).mono ?_; rintro e w' ⟨rfl, rfl⟩; simp only [f1, hH, errIf, if_true])
        | (go_at_call 16; refine (Sibling_any _ n hT1).mono ?_; rintro e w' ⟨rfl, rfl⟩; first | simp only [hp, hS, errIf, if_true] | simp only [f2, f3, errIf, if_true])
        | (go_at_call 12; refine (level_any _ (by omega) hT1).mono ?_; rintro e w' ⟨rfl, rfl⟩; first | rw [hL] | rw [f6] | rw [f7])

      all_goals go_ret
      all_goals first | exact ⟨rfl, b1⟩ | (exfalso; have h : (P - Hf == x) = (P + Hf == x) := (by assumption); exact absurd f4 (by simp [h]))

end Go.Proofs.YtklbmpmmpikfhaaDoor
