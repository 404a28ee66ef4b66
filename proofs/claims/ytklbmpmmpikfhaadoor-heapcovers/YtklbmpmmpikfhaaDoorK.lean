/-
  The document's examples; the first law: which trees and places there are.
-/
import Derived.Test.YtklbmpmmpikfhaaDoorJ
namespace Go.Proofs.YtklbmpmmpikfhaaDoor
open Go.RowKit
set_option linter.unusedSimpArgs false
set_option linter.unusedVariables false

theorem path04 : pathI 0 4 = [1, 3] := by decide +kernel
theorem copath04 : copathI 0 4 = [2, 5] := by decide +kernel
theorem in04 : inB 0 4 = true := by decide +kernel
theorem u214 : underB 2 1 4 = true := by decide +kernel
theorem u414 : underB 4 1 4 = false := by decide +kernel

theorem ints_two (w : World) (a b : Int) : IntsAt (w.alloc (.cells #[.int .i64 a, .int .i64 b] 3)) (.slice (some ⟨w.heap.size, 0, none⟩) 2 2) [a, b] := by
  refine ⟨_, 2, rfl, by simp, fun _ => ⟨w.heap.size, 0, rfl, by simp, fun i x hi => ?_⟩⟩
  rw [World.cell?_alloc_new]
  match i, hi with
  | 0, hi => simp at hi; simp [hi]
  | 1, hi => simp at hi; simp [hi]
  | i + 2, hi => simp at hi

theorem on {w w1 w2 : World} (a : Below w.heap.size w w1) (b : Below w1.heap.size w1 w2) : Below w.heap.size w w2 := a.trans (b.mono a.size)

theorem Path_yes (x n : Int) (hx : inB x n = true) {w : World} (hT : Tab w) :
    Calls Tryd.prog 21 #[.int .i64 x, .int .i64 n] w fun e W' => ∃ v, e = .returned (.tuple #[v, .int .i64 0]) ∧ Made w.heap.size W' v (pathI x n) ∧ Below w.heap.size w W' :=
  (callsIn_wide (n := 3)).1 (path_yes x n hx hT)
theorem Copath_yes (x n : Int) (hx : inB x n = true) {w : World} (hT : Tab w) :
    Calls Tryd.prog 22 #[.int .i64 x, .int .i64 n] w fun e W' => ∃ v, e = .returned (.tuple #[v, .int .i64 0]) ∧ Made w.heap.size W' v (copathI x n) ∧ Below w.heap.size w W' :=
  (callsIn_wide (n := 3)).1 (copath_yes x n hx hT)

set_option maxRecDepth 100000 in
set_option maxHeartbeats 1000000 in
theorem anchor_any {w : World} (hT : Tab w) : Calls Tryd.prog 9 #[] w fun e w' => e = .returned (.bool true) ∧ Below w.heap.size w w' := by
  have hts := hT.size
  go_enter Tryd.func9, Tryd.ntmps9
  go_wp2_with fail
  refine (Path_yes 0 4 in04 hT).mono ?_
  rintro e w1 ⟨v1, rfl, m1, b1⟩
  have hT1 := hT.below b1 hts
  go_wp2_with fail
  refine (Copath_yes 0 4 in04 hT1).mono ?_
  rintro e w2 ⟨v2, rfl, m2, b2⟩
  have hT2 := hT1.below b2 hT1.size
  rw [path04] at m1
  rw [copath04] at m2
  have i1 := (m1.ints (by simp)).below b2
  have i2 := m2.ints (by simp)
  go_wp2_with fail
  refine (ints_any (i1.below ((Below.refl _ _).alloc (Nat.le_refl _) _)) (ints_two w2 1 3)).mono ?_
  rintro e w3 ⟨rfl, b3⟩
  have b23 : Below w2.heap.size w2 w3 := ((Below.refl _ _).alloc (Nat.le_refl _) _).trans (b3.mono (by simp))
  have i2' := i2.below b23
  have hT3 := hT2.below b23 hT2.size
  simp only [decide_true]
  go_wp2_with fail
  refine (ints_any (i2'.below ((Below.refl _ _).alloc (Nat.le_refl _) _)) (ints_two w3 2 5)).mono ?_
  rintro e w4 ⟨rfl, b4⟩
  have b34 : Below w3.heap.size w3 w4 := ((Below.refl _ _).alloc (Nat.le_refl _) _).trans (b4.mono (by simp))
  have hT4 := hT3.below b34 hT3.size
  simp only [decide_true]
  go_wp2_with fail
  refine (Under_any 2 1 4 hT4).mono ?_
  rintro e w5 ⟨rfl, b5⟩
  have hT5 := hT4.below b5 hT4.size
  rw [u214]
  go_wp2_with fail
  refine (Under_any 4 1 4 hT5).mono ?_
  rintro e w6 ⟨rfl, b6⟩
  rw [u414]
  go_wp2_with fail
  go_ret
  exact ⟨rfl, on (on (on (on (on b1 b2) b23) b34) b5) b6⟩

theorem wf_lt {x : Int} (h : (Lit.int .i64 x).wf = true) : -9223372036854775808 ≤ x ∧ x < 9223372036854775808 := by
  have h1 : IntKind.i64.min = -9223372036854775808 := rfl
  have h2 : IntKind.i64.max = 9223372036854775807 := rfl
  simp only [Lit.wf, h1, h2, Bool.and_eq_true, decide_eq_true_eq] at h
  omega

theorem par_child {x n : Int} (h : innerB x n = true) : inB (x - halfI x) n = true ∧ inB (x + halfI x) n = true ∧ parR (x - halfI x) n = x ∧ parR (x + halfI x) n = x ∧ 0 < halfI x ∧ halfI x < 64 := by
  have hx : inB x n = true := by simp [innerB] at h; exact h.1
  have := forall_in (fun x n => !innerB x n || decide (inB (x - halfI x) n = true ∧ inB (x + halfI x) n = true ∧ parR (x - halfI x) n = x ∧ parR (x + halfI x) n = x ∧ 0 < halfI x ∧ halfI x < 64)) (by decide +kernel) x n hx
  simpa [h] using this

set_option maxRecDepth 100000 in
set_option maxHeartbeats 2000000 in
theorem places_out (x : Int) (hx : -9223372036854775808 ≤ x ∧ x < 9223372036854775808) (n : Int) (hin : inB x n = false) {w : World} (hT : Tab w) :
    Calls Tryd.prog 3 #[.int .i64 x, .int .i64 n] w fun e w' => e = .returned (.bool true) ∧ Below w.heap.size w w' := by
  have hts := hT.size
  have hp : hasParB x n = false := by simp [hasParB, hin]
  have hc : innerB x n = false := by simp [innerB, hin]
  cases hr : rightB n with
  | false =>
    go_enter Tryd.func3, Tryd.ntmps3
    go_wp2_with fail
    refine (anchor_any hT).mono ?_
    rintro e w1 ⟨rfl, b1⟩
    have hT1 := hT.below b1 hts
    go_wp2_with first
      | (go_at_call 10; refine (right_any _ _).mono ?_; rintro e w' ⟨rfl, rfl⟩; rw [hr])
      | (go_at_call 11; refine (refRight_any _ _).mono ?_; rintro e w' ⟨rfl, rfl⟩; rw [hr])
      | (go_at_call 12; refine (level_any x hx.2 hT1).mono ?_; rintro e w' ⟨rfl, rfl⟩)
      | (go_at_call 13; refine (refLevel_any x hx.2).mono ?_; rintro e w' ⟨rfl, rfl⟩)
      | (go_at_call 14; refine (Root_any n _).mono ?_; rintro e w' ⟨rfl, rfl⟩; simp only [hr, errIf, if_true, if_false, Bool.false_eq_true])
      | (go_at_call 15; refine (Parent_any x n hT1).mono ?_; rintro e w' ⟨rfl, rfl⟩; simp only [hp, errIf, if_true, if_false, Bool.false_eq_true])
      | (go_at_call 16; refine (Sibling_any x n hT1).mono ?_; rintro e w' ⟨rfl, rfl⟩; simp only [hp, errIf, if_true, if_false, Bool.false_eq_true])
      | (go_at_call 17; refine (Children_any x n hT1).mono ?_; rintro e w' ⟨rfl, rfl⟩; simp only [hc, errIf, if_true, if_false, Bool.false_eq_true])
      | (go_at_call 18; refine (refIn_any x n _).mono ?_; rintro e w' ⟨rfl, rfl⟩; rw [hin])
    all_goals go_ret
    all_goals first | exact ⟨rfl, b1⟩ | (exfalso; omega)
  | true =>
    have hn := rightB_bounds hr
    go_enter Tryd.func3, Tryd.ntmps3
    go_wp2_with fail
    refine (anchor_any hT).mono ?_
    rintro e w1 ⟨rfl, b1⟩
    have hT1 := hT.below b1 hts
    go_wp2_with first
      | (go_at_call 10; refine (right_any _ _).mono ?_; rintro e w' ⟨rfl, rfl⟩; rw [hr])
      | (go_at_call 11; refine (refRight_any _ _).mono ?_; rintro e w' ⟨rfl, rfl⟩; rw [hr])
      | (go_at_call 12; refine (level_any x hx.2 hT1).mono ?_; rintro e w' ⟨rfl, rfl⟩)
      | (go_at_call 13; refine (refLevel_any x hx.2).mono ?_; rintro e w' ⟨rfl, rfl⟩)
      | (go_at_call 14; refine (Root_any n _).mono ?_; rintro e w' ⟨rfl, rfl⟩; simp only [hr, errIf, if_true, if_false, Bool.false_eq_true])
      | (go_at_call 15; refine (Parent_any x n hT1).mono ?_; rintro e w' ⟨rfl, rfl⟩; simp only [hp, errIf, if_true, if_false, Bool.false_eq_true])
      | (go_at_call 16; refine (Sibling_any x n hT1).mono ?_; rintro e w' ⟨rfl, rfl⟩; simp only [hp, errIf, if_true, if_false, Bool.false_eq_true])
      | (go_at_call 17; refine (Children_any x n hT1).mono ?_; rintro e w' ⟨rfl, rfl⟩; simp only [hc, errIf, if_true, if_false, Bool.false_eq_true])
      | (go_at_call 18; refine (refIn_any x n _).mono ?_; rintro e w' ⟨rfl, rfl⟩; rw [hin])
    all_goals go_ret
    all_goals first | exact ⟨rfl, b1⟩ | (exfalso; omega)

set_option maxRecDepth 100000 in
set_option maxHeartbeats 2000000 in
theorem places_rz (x : Int) (hx : -9223372036854775808 ≤ x ∧ x < 9223372036854775808) (n : Int) (hin : inB x n = true) (hro : (x == n - 1) = true) (hlz : (lev x == 0) = true) {w : World} (hT : Tab w) :
    Calls Tryd.prog 3 #[.int .i64 x, .int .i64 n] w fun e w' => e = .returned (.bool true) ∧ Below w.heap.size w w' := by
  have hts := hT.size
  have hr := inB_right hin
  have hn := rightB_bounds hr
  have hxl := inB_lt hin
  have hp : hasParB x n = false := by simp [hasParB, hin]; simpa using hro
  have hpr : parR x n = -1 := by simp [parR, hro]
  have hc : innerB x n = false := by simp [innerB, hin]; simpa using hlz
  clear hro
  go_enter Tryd.func3, Tryd.ntmps3
  go_wp2_with fail
  refine (anchor_any hT).mono ?_
  rintro e w1 ⟨rfl, b1⟩
  have hT1 := hT.below b1 hts
  go_wp2_with first
    | (go_at_call 10; refine (right_any _ _).mono ?_; rintro e w' ⟨rfl, rfl⟩; rw [hr])
    | (go_at_call 11; refine (refRight_any _ _).mono ?_; rintro e w' ⟨rfl, rfl⟩; rw [hr])
    | (go_at_call 12; refine (level_any x hx.2 hT1).mono ?_; rintro e w' ⟨rfl, rfl⟩)
    | (go_at_call 13; refine (refLevel_any x hx.2).mono ?_; rintro e w' ⟨rfl, rfl⟩)
    | (go_at_call 14; refine (Root_any n _).mono ?_; rintro e w' ⟨rfl, rfl⟩; simp only [hr, errIf, if_true, if_false, Bool.false_eq_true])
    | (go_at_call 15; refine (Parent_any x n hT1).mono ?_; rintro e w' ⟨rfl, rfl⟩; simp only [hp, errIf, if_true, if_false, Bool.false_eq_true])
    | (go_at_call 16; refine (Sibling_any x n hT1).mono ?_; rintro e w' ⟨rfl, rfl⟩; simp only [hp, errIf, if_true, if_false, Bool.false_eq_true])
    | (go_at_call 17; refine (Children_any x n hT1).mono ?_; rintro e w' ⟨rfl, rfl⟩; simp only [hc, errIf, if_true, if_false, Bool.false_eq_true])
    | (go_at_call 18; refine (refIn_any x n _).mono ?_; rintro e w' ⟨rfl, rfl⟩; rw [hin])
    | (go_at_call 19; refine (refParent_any _ _ (by assumption)).mono ?_; rintro e w' ⟨rfl, rfl⟩; first | rw [hpr] | rw [c3] | rw [c4])
  all_goals go_ret
  all_goals first | exact ⟨rfl, b1⟩ | (exfalso; omega)

set_option maxRecDepth 100000 in
set_option maxHeartbeats 2000000 in
theorem places_ri (x : Int) (hx : -9223372036854775808 ≤ x ∧ x < 9223372036854775808) (n : Int) (hin : inB x n = true) (hro : (x == n - 1) = true) (hlz : (lev x == 0) = false) {w : World} (hT : Tab w) :
    Calls Tryd.prog 3 #[.int .i64 x, .int .i64 n] w fun e w' => e = .returned (.bool true) ∧ Below w.heap.size w w' := by
  have hts := hT.size
  have hr := inB_right hin
  have hn := rightB_bounds hr
  have hxl := inB_lt hin
  have hp : hasParB x n = false := by simp [hasParB, hin]; simpa using hro
  have hpr : parR x n = -1 := by simp [parR, hro]
  have hc : innerB x n = true := by simp [innerB, hin]; simpa using hlz
  obtain ⟨c1, c2, c3, c4, c5, c6⟩ := par_child hc
  have c7 := inB_lt c1
  have c8 := inB_lt c2
  clear hro
  go_enter Tryd.func3, Tryd.ntmps3
  go_wp2_with fail
  refine (anchor_any hT).mono ?_
  rintro e w1 ⟨rfl, b1⟩
  have hT1 := hT.below b1 hts
  go_wp2_with first
    | (go_at_call 10; refine (right_any _ _).mono ?_; rintro e w' ⟨rfl, rfl⟩; rw [hr])
    | (go_at_call 11; refine (refRight_any _ _).mono ?_; rintro e w' ⟨rfl, rfl⟩; rw [hr])
    | (go_at_call 12; refine (level_any x hx.2 hT1).mono ?_; rintro e w' ⟨rfl, rfl⟩)
    | (go_at_call 13; refine (refLevel_any x hx.2).mono ?_; rintro e w' ⟨rfl, rfl⟩)
    | (go_at_call 14; refine (Root_any n _).mono ?_; rintro e w' ⟨rfl, rfl⟩; simp only [hr, errIf, if_true, if_false, Bool.false_eq_true])
    | (go_at_call 15; refine (Parent_any x n hT1).mono ?_; rintro e w' ⟨rfl, rfl⟩; simp only [hp, errIf, if_true, if_false, Bool.false_eq_true])
    | (go_at_call 16; refine (Sibling_any x n hT1).mono ?_; rintro e w' ⟨rfl, rfl⟩; simp only [hp, errIf, if_true, if_false, Bool.false_eq_true])
    | (go_at_call 17; refine (Children_any x n hT1).mono ?_; rintro e w' ⟨rfl, rfl⟩; simp only [hc, errIf, if_true, if_false, Bool.false_eq_true])
    | (go_at_call 18; refine (refIn_any x n _).mono ?_; rintro e w' ⟨rfl, rfl⟩; rw [hin])
    | (go_at_call 19; refine (refParent_any _ _ (by assumption)).mono ?_; rintro e w' ⟨rfl, rfl⟩; first | rw [hpr] | rw [c3] | rw [c4])
  all_goals go_ret
  all_goals first | exact ⟨rfl, b1⟩ | (exfalso; omega)

set_option maxRecDepth 100000 in
set_option maxHeartbeats 2000000 in
theorem places_nz (x : Int) (hx : -9223372036854775808 ≤ x ∧ x < 9223372036854775808) (n : Int) (hin : inB x n = true) (hro : (x == n - 1) = false) (hlz : (lev x == 0) = true) {w : World} (hT : Tab w) :
    Calls Tryd.prog 3 #[.int .i64 x, .int .i64 n] w fun e w' => e = .returned (.bool true) ∧ Below w.heap.size w w' := by
  have hts := hT.size
  have hr := inB_right hin
  have hn := rightB_bounds hr
  have hxl := inB_lt hin
  have hp : hasParB x n = true := by simp [hasParB, hin]; simpa using hro
  obtain ⟨hpr, h2, h3, h4⟩ := par_ge hin hro
  clear h4
  have hc : innerB x n = false := by simp [innerB, hin]; simpa using hlz
  go_enter Tryd.func3, Tryd.ntmps3
  go_wp2_with fail
  refine (anchor_any hT).mono ?_
  rintro e w1 ⟨rfl, b1⟩
  have hT1 := hT.below b1 hts
  go_wp2_with first
    | (go_at_call 10; refine (right_any _ _).mono ?_; rintro e w' ⟨rfl, rfl⟩; rw [hr])
    | (go_at_call 11; refine (refRight_any _ _).mono ?_; rintro e w' ⟨rfl, rfl⟩; rw [hr])
    | (go_at_call 12; refine (level_any x hx.2 hT1).mono ?_; rintro e w' ⟨rfl, rfl⟩)
    | (go_at_call 13; refine (refLevel_any x hx.2).mono ?_; rintro e w' ⟨rfl, rfl⟩)
    | (go_at_call 14; refine (Root_any n _).mono ?_; rintro e w' ⟨rfl, rfl⟩; simp only [hr, errIf, if_true, if_false, Bool.false_eq_true])
    | (go_at_call 15; refine (Parent_any x n hT1).mono ?_; rintro e w' ⟨rfl, rfl⟩; simp only [hp, errIf, if_true, if_false, Bool.false_eq_true])
    | (go_at_call 16; refine (Sibling_any x n hT1).mono ?_; rintro e w' ⟨rfl, rfl⟩; simp only [hp, errIf, if_true, if_false, Bool.false_eq_true])
    | (go_at_call 17; refine (Children_any x n hT1).mono ?_; rintro e w' ⟨rfl, rfl⟩; simp only [hc, errIf, if_true, if_false, Bool.false_eq_true])
    | (go_at_call 18; refine (refIn_any x n _).mono ?_; rintro e w' ⟨rfl, rfl⟩; rw [hin])
    | (go_at_call 19; refine (refParent_any _ _ (by assumption)).mono ?_; rintro e w' ⟨rfl, rfl⟩; first | rw [hpr] | rw [c3] | rw [c4])
    | (go_at_call 20; refine (refSibling_any x n hin hro).mono ?_; rintro e w' ⟨rfl, rfl⟩)
  all_goals go_ret
  all_goals first | exact ⟨rfl, b1⟩ | (exfalso; omega)

set_option maxRecDepth 100000 in
set_option maxHeartbeats 2000000 in
theorem places_ni (x : Int) (hx : -9223372036854775808 ≤ x ∧ x < 9223372036854775808) (n : Int) (hin : inB x n = true) (hro : (x == n - 1) = false) (hlz : (lev x == 0) = false) {w : World} (hT : Tab w) :
    Calls Tryd.prog 3 #[.int .i64 x, .int .i64 n] w fun e w' => e = .returned (.bool true) ∧ Below w.heap.size w w' := by
  have hts := hT.size
  have hr := inB_right hin
  have hn := rightB_bounds hr
  have hxl := inB_lt hin
  have hp : hasParB x n = true := by simp [hasParB, hin]; simpa using hro
  obtain ⟨hpr, h2, h3, h4⟩ := par_ge hin hro
  clear h4
  have hc : innerB x n = true := by simp [innerB, hin]; simpa using hlz
  obtain ⟨c1, c2, c3, c4, c5, c6⟩ := par_child hc
  have c7 := inB_lt c1
  have c8 := inB_lt c2
  go_enter Tryd.func3, Tryd.ntmps3
  go_wp2_with fail
  refine (anchor_any hT).mono ?_
  rintro e w1 ⟨rfl, b1⟩
  have hT1 := hT.below b1 hts
  go_wp2_with first
    | (go_at_call 10; refine (right_any _ _).mono ?_; rintro e w' ⟨rfl, rfl⟩; rw [hr])
    | (go_at_call 11; refine (refRight_any _ _).mono ?_; rintro e w' ⟨rfl, rfl⟩; rw [hr])
    | (go_at_call 12; refine (level_any x hx.2 hT1).mono ?_; rintro e w' ⟨rfl, rfl⟩)
    | (go_at_call 13; refine (refLevel_any x hx.2).mono ?_; rintro e w' ⟨rfl, rfl⟩)
    | (go_at_call 14; refine (Root_any n _).mono ?_; rintro e w' ⟨rfl, rfl⟩; simp only [hr, errIf, if_true, if_false, Bool.false_eq_true])
    | (go_at_call 15; refine (Parent_any x n hT1).mono ?_; rintro e w' ⟨rfl, rfl⟩; simp only [hp, errIf, if_true, if_false, Bool.false_eq_true])
    | (go_at_call 16; refine (Sibling_any x n hT1).mono ?_; rintro e w' ⟨rfl, rfl⟩; simp only [hp, errIf, if_true, if_false, Bool.false_eq_true])
    | (go_at_call 17; refine (Children_any x n hT1).mono ?_; rintro e w' ⟨rfl, rfl⟩; simp only [hc, errIf, if_true, if_false, Bool.false_eq_true])
    | (go_at_call 18; refine (refIn_any x n _).mono ?_; rintro e w' ⟨rfl, rfl⟩; rw [hin])
    | (go_at_call 19; refine (refParent_any _ _ (by assumption)).mono ?_; rintro e w' ⟨rfl, rfl⟩; first | rw [hpr] | rw [c3] | rw [c4])
    | (go_at_call 20; refine (refSibling_any x n hin hro).mono ?_; rintro e w' ⟨rfl, rfl⟩)
  all_goals go_ret
  all_goals first | exact ⟨rfl, b1⟩ | (exfalso; omega)

theorem places_walk (x : Int) (wx : (Lit.int .i64 x).wf = true) (n : Int) (wn : (Lit.int .i64 n).wf = true) {w : World} (hT : Tab w) :
    Calls Tryd.prog 3 #[.int .i64 x, .int .i64 n] w fun e w' => e = .returned (.bool true) ∧ Below w.heap.size w w' := by
  have hx := wf_lt wx
  cases hin : inB x n with
  | false => exact places_out x hx n hin hT
  | true =>
    cases hro : (x == n - 1) <;> cases hlz : (lev x == 0)
    · exact places_ni x hx n hin hro hlz hT
    · exact places_nz x hx n hin hro hlz hT
    · exact places_ri x hx n hin hro hlz hT
    · exact places_rz x hx n hin hro hlz hT

end Go.Proofs.YtklbmpmmpikfhaaDoor
