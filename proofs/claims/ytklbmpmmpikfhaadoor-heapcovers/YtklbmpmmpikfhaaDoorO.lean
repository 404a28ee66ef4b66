/-
  The law HeapCommonLow: the common place of two leaves is above both, the same in either order, and no lower one is above both.
-/
import Derived.Test.YtklbmpmmpikfhaaDoorM
namespace Go.Proofs.YtklbmpmmpikfhaaDoor
open Go.RowKit
set_option linter.unusedSimpArgs false
set_option linter.unusedVariables false

theorem forall_leaf2 (P : Int → Int → Int → Bool) (h : (sizes.all fun n => (List.range 32).all fun i => !leafB (i : Int) n || (List.range 32).all fun j => !leafB (j : Int) n || P (i : Int) (j : Int) n) = true) (i j n : Int) (hi : leafB i n = true) (hj : leafB j n = true) : P i j n = true := by
  rw [List.all_eq_true] at h
  have hr := inB_right (leafB_in hi)
  have hn := rightB_bounds hr
  have bi := leaf_bounds hi
  have bj := leaf_bounds hj
  have h1 := forall_lt 32 (fun i => !leafB i n || (List.range 32).all fun j => !leafB (j : Int) n || P i (j : Int) n) (h n (rightB_mem hr)) i bi.1 (by omega)
  rw [hi] at h1
  have h2 := forall_lt 32 (fun j => !leafB j n || P i j n) h1 j bj.1 (by omega)
  simpa [hj] using h2

theorem common_facts {i j n : Int} (hi : leafB i n = true) (hj : leafB j n = true) :
    commonI j i n = commonI i j n ∧ underB (2 * i) (commonI i j n) n = true ∧ underB (2 * j) (commonI i j n) n = true ∧ ((up (2 * i) n).all fun z => !underB (2 * j) z n || decide (lev (commonI i j n) ≤ lev z)) = true ∧ 0 ≤ commonI i j n ∧ commonI i j n < 63 := by
  have := forall_leaf2 (fun i j n => decide (commonI j i n = commonI i j n ∧ underB (2 * i) (commonI i j n) n = true ∧ underB (2 * j) (commonI i j n) n = true ∧ ((up (2 * i) n).all fun z => !underB (2 * j) z n || decide (lev (commonI i j n) ≤ lev z)) = true ∧ 0 ≤ commonI i j n ∧ commonI i j n < 63)) (by decide +kernel) i j n hi hj
  rwa [decide_eq_true_eq] at this

theorem low_of {i j n z : Int} (hi : leafB i n = true) (hj : leafB j n = true) (h1 : underB (2 * i) z n = true) (h2 : underB (2 * j) z n = true) : lev (commonI i j n) ≤ lev z := by
  have hf := (common_facts hi hj).2.2.2.1
  rw [List.all_eq_true] at hf
  have hm : z ∈ up (2 * i) n := by simp [underB] at h1; exact h1.2
  have := hf z hm
  simpa [h2] using this

set_option maxRecDepth 100000 in
set_option maxHeartbeats 2000000 in
theorem low_no (i j n : Int) (hlf : (leafB i n && leafB j n) = false) {w : World} (hT : Tab w) :
    Calls Tryd.prog 8 #[.int .i64 i, .int .i64 j, .int .i64 n] w fun e w' => e = .returned (.bool true) ∧ Below w.heap.size w w' := by
  have Hlf : Hid ((leafB i n && leafB j n) = false) := hlf
  clear hlf
  go_enter Tryd.func8, Tryd.ntmps8
  go_wp2_with fail
  refine (anchor_any hT).mono ?_
  rintro e w1 ⟨rfl, b1⟩
  go_wp2_with first
    | (go_at_call 11; refine (refRight_any _ _).mono ?_; rintro e w' ⟨rfl, rfl⟩)
    | (go_at_call 25; exfalso; exact leaf_false Hlf.out (by assumption) (by omega) (by omega) (by omega) (by omega))
  all_goals go_ret
  all_goals exact ⟨rfl, b1⟩

set_option maxRecDepth 100000 in
set_option maxHeartbeats 2000000 in
theorem low_yes (i j n : Int) (hi : leafB i n = true) (hj : leafB j n = true) {w : World} (hT : Tab w) :
    Calls Tryd.prog 8 #[.int .i64 i, .int .i64 j, .int .i64 n] w fun e w' => e = .returned (.bool true) ∧ Below w.heap.size w w' := by
  have hts := hT.size
  have hr : rightB n = true := inB_right (leafB_in hi)
  have hn := rightB_bounds hr
  have hx := leaf_bounds hi
  have hy := leaf_bounds hj
  obtain ⟨f1, f2, f3, f4, f5, f6⟩ := common_facts hi hj
  have Hlow : ∀ z, underB (2 * i) z n = true → underB (2 * j) z n = true → Hid (lev (commonI i j n) ≤ lev z) := fun z a b => low_of hi hj a b
  obtain ⟨c, hc⟩ : ∃ c, commonI i j n = c := ⟨_, rfl⟩
  rw [hc] at f1 f2 f3 f5 f6 Hlow
  clear f4
  have hc1 : commonIf i j n = c := by simp [commonIf, hi, hj, hc]
  have hc2 : commonIf j i n = c := by simp [commonIf, hi, hj, f1]
  have he1 : errIf (leafB i n && leafB j n) = 0 := by simp [hi, hj, errIf]
  have he2 : errIf (leafB j n && leafB i n) = 0 := by simp [hi, hj, errIf]
  have hlc := lev_small f5 f6
  clear f1 hc
  go_enter Tryd.func8, Tryd.ntmps8
  go_wp2_with fail
  refine (anchor_any hT).mono ?_
  rintro e w1 ⟨rfl, b1⟩
  have hT1 := hT.below b1 hts
  go_wp2_with (go_at_call 11; refine (refRight_any _ _).mono ?_; rintro e w' ⟨rfl, rfl⟩; rw [hr])
  refine (Common_any i j n hT1).mono ?_
  rintro e w2 ⟨he, b2⟩
  rw [hc1, he1] at he
  subst he
  have hT2 := hT1.below b2 hT1.size
  go_wp2_with fail
  refine (Common_any j i n hT2).mono ?_
  rintro e w3 ⟨he, b3⟩
  rw [hc2, he2] at he
  subst he
  have b13 := on (on b1 b2) b3
  clear b1 b2 b3 hT1 hT2 hc1 hc2 he1 he2
  go_wp2_with fail
  go_loopw [11] (fun z wr => ∃ k : Nat, (k : Int) ≤ 2 * n - 1 ∧ z = .int .i64 k ∧ Below w.heap.size w wr) (fun z _ => (2 * n - 1).toNat - (intOf z).toNat)
  case atStart => exact ⟨0, by omega, rfl, b13⟩
  case round =>
    obtain ⟨k, hk, rfl, hB⟩ := hrel
    have hTr := hT.below hB hts
    by_cases hlt : (k : Int) < 2 * n - 1
    · have hlk := lev_small (x := k) (by omega) (by omega)
      go_wp2_with fail
      refine (Under_any (2 * i) k n hTr).mono ?_
      rintro e w4 ⟨rfl, b4⟩
      have hB4 := hB.trans (b4.mono hB.size)
      have hT4 := hT.below hB4 hts
      cases u1 : underB (2 * i) k n with
      | false =>
        have hne : ((k : Int) == c) = false := by
          cases h : ((k : Int) == c) with
          | false => rfl
          | true => rw [← eq_of_beq h, u1] at f2; cases f2
        go_wp2_with fail
        go_roundw
        case rel => exact ⟨k + 1, by omega, by go_num, hB4⟩
        case measure => simp [intOf]; omega
      | true =>
        go_wp2_with fail
        refine (Under_any (2 * j) k n hT4).mono ?_
        rintro e w5 ⟨rfl, b5⟩
        have hB5 := hB4.trans (b5.mono hB4.size)
        have hT5 := hT.below hB5 hts
        cases u2 : underB (2 * j) k n with
        | false =>
          have hne : ((k : Int) == c) = false := by
            cases h : ((k : Int) == c) with
            | false => rfl
            | true => rw [← eq_of_beq h, u2] at f3; cases f3
          go_wp2_with fail
          go_roundw
          case rel => exact ⟨k + 1, by omega, by go_num, hB5⟩
          case measure => simp [intOf]; omega
        | true =>
          have hlow := (Hlow k u1 u2).out
          go_wp2_with (go_at_call 12; refine (level_any _ (by omega) hT5).mono ?_; rintro e w' ⟨rfl, rfl⟩)
          all_goals (
            go_roundw
            case rel => exact ⟨k + 1, by omega, by go_num, hB5⟩
            case measure => simp [intOf]; omega)
    · go_wp2_with fail
      go_ret
      exact ⟨rfl, hB⟩

theorem low_walk (i : Int) (wi : (Lit.int .i64 i).wf = true) (j : Int) (wj : (Lit.int .i64 j).wf = true) (n : Int) (wn : (Lit.int .i64 n).wf = true) {w : World} (hT : Tab w) :
    Calls Tryd.prog 8 #[.int .i64 i, .int .i64 j, .int .i64 n] w fun e w' => e = .returned (.bool true) ∧ Below w.heap.size w w' := by
  cases h : (leafB i n && leafB j n) with
  | false => exact low_no i j n h hT
  | true =>
    simp only [Bool.and_eq_true] at h
    exact low_yes i j n h.1 h.2 hT

end Go.Proofs.YtklbmpmmpikfhaaDoor
