/-
  Who is added and removed at once, pure.
-/
import Derived.Test.YtdnopkpoepdihaaDoorSE
namespace Go.Proofs.YtdnopkpoepdihaaDoor
open Go.RowKit
set_option linter.unusedSimpArgs false
set_option linter.unusedVariables false

theorem put_add (t : Tree) (u : PV) : putF (addF t u) (least t) PV.blank = putF (room t) (least t) PV.blank := by
  apply List.ext_getElem?
  intro x
  rw [putF_get, putF_get, addF_get, addF_lv]
  cases (room t)[x]? with
  | none => rfl
  | some v =>
    simp only [Option.map_some, Option.some.injEq]
    unfold putV addV
    split
    · rfl
    · split
      · rfl
      · rename_i h1 h2
        simp [h2]

theorem tight_of {t : Tree} (h : ∃ i, lv t / 2 ≤ i ∧ i < lv t ∧ (vx t (2 * i)).full = true) : tightB t = true := from_iff.2 h
theorem shr_good {t : Tree} (h : Good t) (f : Nat) : shr f t = t := by
  obtain ⟨i, a, b, c⟩ := h.tight
  apply shr_stop
  have := tight_of ⟨i, a, b, c⟩
  simp [this]

theorem far_under : ∀ n : Int, rightB n = true → rightB (2 * n) = true → ∀ x : Int, 0 ≤ x → x < 2 * n - 1 → underB (2 * n) x (2 * n) = false := by
  intro n hn h2 x h0 h1
  have hb := rightB_bounds hn
  have := forall_lt 33 (fun n => !(rightB n) || !(rightB (2 * n)) || (List.range 63).all fun x => decide (2 * n - 1 ≤ (x : Int)) || !(underB (2 * n) x (2 * n))) (by decide +kernel) n (by omega) (by omega)
  simp only [hn, h2, Bool.not_true, Bool.false_or, List.all_eq_true, List.mem_range] at this
  have := this x.toNat (by omega)
  rw [show ((x.toNat : Nat) : Int) = x by omega] at this
  simp at this
  rcases this with h | h
  · omega
  · exact h

theorem back_in {t : Tree} (h : Good t) (u : PV) (hl : least t < lv t) : remF (addF t u) (least t) = putF t (least t) PV.blank := by
  unfold remF
  rw [put_add]
  have hr : room t = t := by simp [room]; omega
  rw [hr]
  apply shr_stop
  have hls := least_spec t
  obtain ⟨i, a, b, c⟩ := h.tight
  have hne : i ≠ least t := by
    rintro rfl
    rw [hls.2.2 hl] at c
    cases c
  have hF := isF_put h.sh hl PV.blank i
  rw [if_neg hne] at hF
  have : tightB (putF t (least t) PV.blank) = true := by
    apply tight_of
    refine ⟨i, by rw [putF_lv]; exact a, by rw [putF_lv]; exact b, ?_⟩
    have h2 : isF t i = true := by simp [isF, b, c]
    rw [h2] at hF
    simp only [isF, Bool.and_eq_true, decide_eq_true_eq] at hF
    exact hF.2
  simp [this]

theorem back_out {t : Tree} (h : Good t) (u : PV) (hl : least t = lv t) (h32 : lv t ≠ 32) : remF (addF t u) (least t) = t := by
  have hb := h.sh.bounds
  obtain ⟨hsr, hll, hdb, hsm⟩ := room_sh h.sh (t := t) (by omega)
  have hlr := hdb hl
  unfold remF
  rw [put_add]
  have hr : room t = dbl t := by simp [room, hl]
  have hPl : lv (putF (room t) (least t) PV.blank) = 2 * lv t := by rw [putF_lv, hlr]
  have hsp : Sh (putF (room t) (least t) PV.blank) := by
    refine ⟨by rw [putF_lv]; exact hsr.1, ?_⟩
    rw [putF_lv, putF_len]; exact hsr.2
  have h2 : tightB (putF (room t) (least t) PV.blank) = false := by
    rw [Bool.eq_false_iff]
    intro ht
    obtain ⟨i, a, b, c⟩ := from_iff.1 ht
    rw [hPl] at a b
    have hF := isF_put hsr (k := least t) (by rw [hlr]; omega) PV.blank i
    have h3 : isF (putF (room t) (least t) PV.blank) i = true := by simp [isF, hPl, b, c]
    rw [h3] at hF
    split at hF
    · cases hF
    · have := room_full h.sh (t := t) (by omega) i
      simp only [isF] at hF
      rw [this] at hF
      have : decide (i < lv t) = false := by simp; omega
      simp [this] at hF
  rw [shr_go (by omega) h2, hPl]
  have e : (putF (room t) (least t) PV.blank).take (2 * lv t - 1) = t := by
    apply List.ext_getElem?
    intro x
    by_cases hx : x < 2 * lv t - 1
    · rw [List.getElem?_take_of_lt hx, putF_get, hlr]
      have hx2 : x < t.length := by omega
      have : (room t)[x]? = t[x]? := by rw [hr, dbl, List.getElem?_append_left hx2]
      rw [this]
      cases hq : t[x]? with
      | none => rfl
      | some v =>
        have h2r : rightB (2 * (lv t : Int)) = true := by
          have := hsr.1
          rw [hlr] at this
          simpa using this
        have hu := far_under (lv t) h.sh.1 h2r x (by omega) (by omega)
        have e1 : ¬ ((x : Int) = 2 * (lv t : Int)) := by omega
        simp only [Option.map_some, putV, hl]
        rw [if_neg e1, show (((2 * lv t : Nat)) : Int) = 2 * (lv t : Int) by omega, hu]
        rfl
    · rw [List.getElem?_eq_none (by simp; omega), List.getElem?_eq_none (by omega)]
  rw [e]
  exact shr_good h 5

theorem members_ge {t : Tree} (h : Good t) : 1 ≤ (members t).length := by
  obtain ⟨i, a, b, c⟩ := h.tight
  have : ((i : Nat) : Int) ∈ members t := mem_members.2 (by simp [fullB, b, c])
  exact List.length_pos_of_mem this

theorem add_members {t : Tree} (h : Good t) (hr : ¬ (least t = lv t ∧ lv t = 32)) (u : PV) : (members (addF t u)).length = (members t).length + 1 := by
  have hls := least_spec t
  refine members_more h.sh (h.add hr u).sh (k := least t) ?_ ?_ ?_
  · unfold isF
    by_cases hl : least t < lv t
    · rw [hls.2.2 hl]; simp
    · simp [hl]
  · rw [isF_add h.sh hr]; simp
  · intro j hj
    rw [isF_add h.sh hr]; simp [hj]

theorem members_all {t : Tree} (hl : least t = lv t) : (members t).length = lv t := by
  have hls := least_spec t
  have : ∀ k, k ≤ lv t → (membersN t k).length = k := by
    intro k
    induction k with
    | zero => intro _; simp [membersN]
    | succ k ih =>
      intro hk
      rw [membersN_succ, hls.2.1 k (by omega)]
      simp [ih (by omega)]
  exact this _ (Nat.le_refl _)

end Go.Proofs.YtdnopkpoepdihaaDoor
