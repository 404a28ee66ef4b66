/-
  Whether a tree is right: the walk of package tree's Check.
-/
import Derived.Test.YtdnopkpoepdihaaDoorTM
namespace Go.Proofs.YtdnopkpoepdihaaDoor
open Go.RowKit
set_option linter.unusedSimpArgs false
set_option linter.unusedVariables false

set_option maxRecDepth 100000 in
set_option maxHeartbeats 4000000 in
theorem check_sh {w : World} {v : Value} {t : Tree} (ht : TreeAt w v t) (hs : Sh t) (hT : Tab w) :
    Calls Tryd.prog 17 #[v] w fun e w' => e = .returned (.bool (checkB t)) ∧ Below w.heap.size w w' := by
  have hbd := hs.bounds
  have hq : checkB t = (vertsB t t.length && fromB t (lv t / 2)) := by simp [checkB, shB_iff.2 hs]
  rw [hq]
  obtain ⟨va, vcap, rfl, _⟩ := id ht
  have hn0 : ((lv t : Int) == 0) = false := by simp; omega
  have i5 : (lv t : Int) ≤ 32 := by omega
  have hlt63 : (t.length : Int) ≤ 63 := by omega
  go_enter Tryd.func17, Tryd.ntmps17
  go_wp2_with fail
  refine (Leaves_sh ht hs).mono ?_
  rintro e w' ⟨rfl, hw⟩
  obtain rfl := hw.symm
  go_wp2_with fail
  go_loopw [11] (fun q wr => ∃ j : Nat, j ≤ t.length ∧ q = .int .i64 j ∧ Hid (vertsB t j = true) ∧ Below w.heap.size w wr) (fun q _ => t.length - (intOf q).toNat)
  case atStart => exact ⟨0, Nat.zero_le _, rfl, rfl, Below.refl _ _⟩
  case round =>
    obtain ⟨j, hj, rfl, HV, hB⟩ := hrel
    have htr := ht.below hB
    have hTr := hT.below hB hT.size
    by_cases hlt : j < t.length
    · have i1 : (j : Int) < (t.length : Int) := by omega
      go_wp2_with fail
      refine (isRightVertex_any htr hs hTr hlt).mono ?_
      rintro e w1 ⟨rfl, b1⟩
      have hB1 := hB.trans (b1.mono hB.size)
      cases hv : vertB t j (vx t j) with
      | true =>
        have HN : Hid (vertsB t (j + 1) = true) := by show _ = _; rw [vertsB_succ, HV.out, hv]; rfl
        go_wp2_with fail
        go_roundw
        case rel => exact ⟨j + 1, by omega, by go_num, HN, hB1⟩
        case measure => simp [intOf]; omega
      | false =>
        have HN : Hid (vertsB t t.length = false) := vertsB_false hlt hv
        go_wp2_with fail
        go_ret
        exact ⟨by rw [HN.out]; rfl, hB1⟩
    · have e : j = t.length := by omega
      subst e
      have e2 : ((lv t : Int)) / 2 = ((lv t / 2 : Nat) : Int) := by omega
      have hff := fullFrom_any htr hs (lv t / 2)
      rw [← e2] at hff
      clear e2
      go_wp2_with fail
      refine hff.mono ?_
      rintro e w1 ⟨rfl, b1⟩
      go_wp2_with fail
      go_ret
      exact ⟨by rw [HV.out]; simp, hB.trans (b1.mono hB.size)⟩

set_option maxHeartbeats 1000000 in
theorem check_no {w : World} {v : Value} {t : Tree} (ht : TreeAt w v t) (hs : shB t = false) :
    Calls Tryd.prog 17 #[v] w fun e w' => e = .returned (.bool false) ∧ w' = w := by
  have hl := Leaves_any ht
  rw [show leavesI t = 0 by simp [leavesI, hs]] at hl
  go_enter Tryd.func17, Tryd.ntmps17
  go_wp2_with (go_at_call 22; refine hl.mono ?_; rintro e w' ⟨rfl, hw⟩; obtain rfl := hw.symm)
  go_ret
  exact ⟨rfl, rfl⟩

theorem Check_any {w : World} {v : Value} {t : Tree} (ht : TreeAt w v t) (hT : Tab w) :
    Calls Tryd.prog 17 #[v] w fun e w' => e = .returned (.bool (checkB t)) ∧ Below w.heap.size w w' := by
  cases hs : shB t with
  | true => exact check_sh ht (shB_iff.1 hs) hT
  | false =>
    refine (check_no ht hs).mono ?_
    rintro e w' ⟨rfl, rfl⟩
    exact ⟨by simp [checkB, hs], Below.refl _ _⟩

end Go.Proofs.YtdnopkpoepdihaaDoor
