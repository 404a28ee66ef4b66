/-
  The law HeapPaths: paths, copaths, common places and what is below what.
-/
import Derived.Test.YtklbmpmmpikfhaaDoorK
namespace Go.Proofs.YtklbmpmmpikfhaaDoor
open Go.RowKit
set_option linter.unusedSimpArgs false
set_option linter.unusedVariables false

theorem path_len (x n : Int) : ((pathI x n).length : Int) ≤ 9223372036854775807 := by
  have h1 := up_len 6 x n
  have h2 : (pathI x n).length ≤ (up x n).length := List.length_filter_le _ _
  unfold up at h2
  omega
theorem copath_len (x n : Int) : ((copathI x n).length : Int) ≤ 9223372036854775807 := by
  have h1 := up_len 6 x n
  have h2 : (copathI x n).length ≤ (up x n).length := by simp only [copathI, List.length_map]; exact List.length_filter_le _ _
  unfold up at h2
  omega

theorem leaf_bounds {x n : Int} (h : leafB x n = true) : 0 ≤ x ∧ x < n := by simp [leafB] at h; exact ⟨h.1.2, h.2⟩
theorem leaf_false {x y n : Int} (h : (leafB x n && leafB y n) = false) (hr : rightB n = true) (h1 : 0 ≤ x) (h2 : 0 ≤ y) (h3 : x < n) (h4 : y < n) : False := by
  simp [leafB, hr] at h; omega

set_option maxRecDepth 100000 in
set_option maxHeartbeats 2000000 in
theorem paths_in_leaf (x y n : Int) (hin : inB x n = true) (hlf : (leafB x n && leafB y n) = true) {w : World} (hT : Tab w) :
    Calls Tryd.prog 4 #[.int .i64 x, .int .i64 y, .int .i64 n] w fun e w' => e = .returned (.bool true) ∧ Below w.heap.size w w' := by
  have hts := hT.size
  have Hlf : Hid ((leafB x n && leafB y n) = true) := hlf
  have h2 := hlf
  simp only [Bool.and_eq_true] at h2
  have hx := leaf_bounds h2.1
  have hy := leaf_bounds h2.2
  obtain ⟨hlx, hly⟩ := h2
  have hr : rightB n = true := inB_right (leafB_in hlx)
  clear hlf
  go_enter Tryd.func4, Tryd.ntmps4
  go_wp2_with fail
  refine (anchor_any hT).mono ?_
  rintro e w1 ⟨rfl, b1⟩
  have hT1 := hT.below b1 hts
  go_wp2_with fail
  refine (Path_yes x n hin hT1).mono ?_
  rintro e w2 ⟨v2, rfl, m2, b2⟩
  have hT2 := hT1.below b2 hT1.size
  go_wp2_with fail
  refine (Copath_yes x n hin hT2).mono ?_
  rintro e w3 ⟨v3, rfl, m3, b3⟩
  have hT3 := hT2.below b3 hT2.size
  have i2 := (m2.ints (path_len x n)).below b3
  have i3 := m3.ints (copath_len x n)
  clear m2 m3
  go_wp2_with fail
  refine (Under_any x y n hT3).mono ?_
  rintro e w4 ⟨rfl, b4⟩
  have hT4 := hT3.below b4 hT3.size
  have i2' := i2.below b4
  have i3' := i3.below b4
  clear i2 i3
  go_wp2_with (go_at_call 24; refine (refUnder_any _ _ _).mono ?_; rintro e w' ⟨rfl, rfl⟩)
  refine (Common_any x y n hT4).mono ?_
  rintro e w5 ⟨he, b5⟩
  have i2 := i2'.below b5
  have i3 := i3'.below b5
  clear i2' i3'
  have b15 := on (on (on (on b1 b2) b3) b4) b5
  clear b1 b2 b3 b4 b5 hT1 hT2 hT3 hT4
  simp only [commonIf, errIf, Hlf.out, if_true, if_false, Bool.false_eq_true] at he
  subst he
  go_wp2_with first
    | (go_at_call 11; refine (refRight_any _ _).mono ?_; rintro e w' ⟨rfl, rfl⟩; rw [hr])
    | (go_at_call 26; refine (refCommon_any x y n hlx hly).mono ?_; rintro e w' ⟨rfl, rfl⟩)
    | (go_at_call 18; refine (refIn_any x n _).mono ?_; rintro e w' ⟨rfl, rfl⟩; rw [hin])
  all_goals (refine (refPath_any x n hin).mono ?_; rintro e w6 ⟨v6, rfl, m6, b6⟩; have j2 := i2.below b6; have j3 := i3.below b6; have j6 := m6.ints (path_len x n); have b16 := on b15 b6; clear b6 m6; go_wp2_with fail)
  all_goals (refine (ints_any j2 j6).mono ?_; rintro e w7 ⟨he, b7⟩; simp only [decide_true] at he; subst he; have k3 := j3.below b7; have b17 := on b16 b7; clear b7 j2 j3 j6; go_wp2_with fail)
  all_goals (refine (refCopath_any x n hin).mono ?_; rintro e w8 ⟨v8, rfl, m8, b8⟩; have k3' := k3.below b8; have j8 := m8.ints (copath_len x n); have b18 := on b17 b8; clear b8 m8; go_wp2_with fail)
  all_goals (refine (ints_any k3' j8).mono ?_; rintro e w9 ⟨he, b9⟩; simp only [decide_true] at he; subst he; have b19 := on b18 b9; clear b9; go_wp2_with fail)
  all_goals go_ret
  all_goals exact ⟨rfl, b19⟩

set_option maxRecDepth 100000 in
set_option maxHeartbeats 2000000 in
theorem paths_in_no (x y n : Int) (hin : inB x n = true) (hlf : (leafB x n && leafB y n) = false) {w : World} (hT : Tab w) :
    Calls Tryd.prog 4 #[.int .i64 x, .int .i64 y, .int .i64 n] w fun e w' => e = .returned (.bool true) ∧ Below w.heap.size w w' := by
  have hts := hT.size
  have Hlf : Hid ((leafB x n && leafB y n) = false) := hlf
  clear hlf
  go_enter Tryd.func4, Tryd.ntmps4
  go_wp2_with fail
  refine (anchor_any hT).mono ?_
  rintro e w1 ⟨rfl, b1⟩
  have hT1 := hT.below b1 hts
  go_wp2_with fail
  refine (Path_yes x n hin hT1).mono ?_
  rintro e w2 ⟨v2, rfl, m2, b2⟩
  have hT2 := hT1.below b2 hT1.size
  go_wp2_with fail
  refine (Copath_yes x n hin hT2).mono ?_
  rintro e w3 ⟨v3, rfl, m3, b3⟩
  have hT3 := hT2.below b3 hT2.size
  have i2 := (m2.ints (path_len x n)).below b3
  have i3 := m3.ints (copath_len x n)
  clear m2 m3
  go_wp2_with fail
  refine (Under_any x y n hT3).mono ?_
  rintro e w4 ⟨rfl, b4⟩
  have hT4 := hT3.below b4 hT3.size
  have i2' := i2.below b4
  have i3' := i3.below b4
  clear i2 i3
  go_wp2_with (go_at_call 24; refine (refUnder_any _ _ _).mono ?_; rintro e w' ⟨rfl, rfl⟩)
  refine (Common_any x y n hT4).mono ?_
  rintro e w5 ⟨he, b5⟩
  have i2 := i2'.below b5
  have i3 := i3'.below b5
  clear i2' i3'
  have b15 := on (on (on (on b1 b2) b3) b4) b5
  clear b1 b2 b3 b4 b5 hT1 hT2 hT3 hT4
  simp only [commonIf, errIf, Hlf.out, if_true, if_false, Bool.false_eq_true] at he
  subst he
  go_wp2_with first
    | (go_at_call 11; refine (refRight_any _ _).mono ?_; rintro e w' ⟨rfl, rfl⟩)
    | (go_at_call 18; refine (refIn_any x n _).mono ?_; rintro e w' ⟨rfl, rfl⟩; rw [hin])
  all_goals try (exfalso; exact leaf_false Hlf.out (by assumption) (by omega) (by omega) (by omega) (by omega))
  all_goals (refine (refPath_any x n hin).mono ?_; rintro e w6 ⟨v6, rfl, m6, b6⟩; have j2 := i2.below b6; have j3 := i3.below b6; have j6 := m6.ints (path_len x n); have b16 := on b15 b6; clear b6 m6; go_wp2_with fail)
  all_goals (refine (ints_any j2 j6).mono ?_; rintro e w7 ⟨he, b7⟩; simp only [decide_true] at he; subst he; have k3 := j3.below b7; have b17 := on b16 b7; clear b7 j2 j3 j6; go_wp2_with fail)
  all_goals (refine (refCopath_any x n hin).mono ?_; rintro e w8 ⟨v8, rfl, m8, b8⟩; have k3' := k3.below b8; have j8 := m8.ints (copath_len x n); have b18 := on b17 b8; clear b8 m8; go_wp2_with fail)
  all_goals (refine (ints_any k3' j8).mono ?_; rintro e w9 ⟨he, b9⟩; simp only [decide_true] at he; subst he; have b19 := on b18 b9; clear b9; go_wp2_with fail)
  all_goals go_ret
  all_goals exact ⟨rfl, b19⟩

set_option maxRecDepth 100000 in
set_option maxHeartbeats 2000000 in
theorem paths_out_leaf (x y n : Int) (hin : inB x n = false) (hlf : (leafB x n && leafB y n) = true) {w : World} (hT : Tab w) :
    Calls Tryd.prog 4 #[.int .i64 x, .int .i64 y, .int .i64 n] w fun e w' => e = .returned (.bool true) ∧ Below w.heap.size w w' := by
  have hts := hT.size
  have Hlf : Hid ((leafB x n && leafB y n) = true) := hlf
  have h2 := hlf
  simp only [Bool.and_eq_true] at h2
  have hx := leaf_bounds h2.1
  have hy := leaf_bounds h2.2
  obtain ⟨hlx, hly⟩ := h2
  have hr : rightB n = true := inB_right (leafB_in hlx)
  clear hlf
  go_enter Tryd.func4, Tryd.ntmps4
  go_wp2_with fail
  refine (anchor_any hT).mono ?_
  rintro e w1 ⟨rfl, b1⟩
  have hT1 := hT.below b1 hts
  go_wp2_with fail
  refine (path_no x n hin).mono ?_
  rintro e w2 ⟨rfl, b2⟩
  have hT2 := hT1.below b2 hT1.size
  go_wp2_with fail
  refine (copath_no x n hin).mono ?_
  rintro e w3 ⟨rfl, b3⟩
  have hT3 := hT2.below b3 hT2.size
  go_wp2_with fail
  refine (Under_any x y n hT3).mono ?_
  rintro e w4 ⟨rfl, b4⟩
  have hT4 := hT3.below b4 hT3.size
  go_wp2_with (go_at_call 24; refine (refUnder_any _ _ _).mono ?_; rintro e w' ⟨rfl, rfl⟩)
  refine (Common_any x y n hT4).mono ?_
  rintro e w5 ⟨he, b5⟩
  have b15 := on (on (on (on b1 b2) b3) b4) b5
  clear b1 b2 b3 b4 b5 hT1 hT2 hT3 hT4
  simp only [commonIf, errIf, Hlf.out, if_true, if_false, Bool.false_eq_true] at he
  subst he
  go_wp2_with first
    | (go_at_call 11; refine (refRight_any _ _).mono ?_; rintro e w' ⟨rfl, rfl⟩; rw [hr])
    | (go_at_call 26; refine (refCommon_any x y n hlx hly).mono ?_; rintro e w' ⟨rfl, rfl⟩)
    | (go_at_call 18; refine (refIn_any x n _).mono ?_; rintro e w' ⟨rfl, rfl⟩; rw [hin])
  all_goals go_ret
  all_goals exact ⟨rfl, b15⟩

set_option maxRecDepth 100000 in
set_option maxHeartbeats 2000000 in
theorem paths_out_no (x y n : Int) (hin : inB x n = false) (hlf : (leafB x n && leafB y n) = false) {w : World} (hT : Tab w) :
    Calls Tryd.prog 4 #[.int .i64 x, .int .i64 y, .int .i64 n] w fun e w' => e = .returned (.bool true) ∧ Below w.heap.size w w' := by
  have hts := hT.size
  have Hlf : Hid ((leafB x n && leafB y n) = false) := hlf
  clear hlf
  go_enter Tryd.func4, Tryd.ntmps4
  go_wp2_with fail
  refine (anchor_any hT).mono ?_
  rintro e w1 ⟨rfl, b1⟩
  have hT1 := hT.below b1 hts
  go_wp2_with fail
  refine (path_no x n hin).mono ?_
  rintro e w2 ⟨rfl, b2⟩
  have hT2 := hT1.below b2 hT1.size
  go_wp2_with fail
  refine (copath_no x n hin).mono ?_
  rintro e w3 ⟨rfl, b3⟩
  have hT3 := hT2.below b3 hT2.size
  go_wp2_with fail
  refine (Under_any x y n hT3).mono ?_
  rintro e w4 ⟨rfl, b4⟩
  have hT4 := hT3.below b4 hT3.size
  go_wp2_with (go_at_call 24; refine (refUnder_any _ _ _).mono ?_; rintro e w' ⟨rfl, rfl⟩)
  refine (Common_any x y n hT4).mono ?_
  rintro e w5 ⟨he, b5⟩
  have b15 := on (on (on (on b1 b2) b3) b4) b5
  clear b1 b2 b3 b4 b5 hT1 hT2 hT3 hT4
  simp only [commonIf, errIf, Hlf.out, if_true, if_false, Bool.false_eq_true] at he
  subst he
  go_wp2_with first
    | (go_at_call 11; refine (refRight_any _ _).mono ?_; rintro e w' ⟨rfl, rfl⟩)
    | (go_at_call 18; refine (refIn_any x n _).mono ?_; rintro e w' ⟨rfl, rfl⟩; rw [hin])
  all_goals try (exfalso; exact leaf_false Hlf.out (by assumption) (by omega) (by omega) (by omega) (by omega))
  all_goals go_ret
  all_goals exact ⟨rfl, b15⟩

theorem paths_walk (x : Int) (wx : (Lit.int .i64 x).wf = true) (y : Int) (wy : (Lit.int .i64 y).wf = true) (n : Int) (wn : (Lit.int .i64 n).wf = true) {w : World} (hT : Tab w) :
    Calls Tryd.prog 4 #[.int .i64 x, .int .i64 y, .int .i64 n] w fun e w' => e = .returned (.bool true) ∧ Below w.heap.size w w' := by
  cases hin : inB x n <;> cases hlf : (leafB x n && leafB y n)
  · exact paths_out_no x y n hin hlf hT
  · exact paths_out_leaf x y n hin hlf hT
  · exact paths_in_no x y n hin hlf hT
  · exact paths_in_leaf x y n hin hlf hT

end Go.Proofs.YtklbmpmmpikfhaaDoor
