/-
  The document's answers: widths, what is below what, parents, siblings, the common place.
-/
import Derived.Test.YtdnopkpoepdihaaDoorHF
namespace Go.Proofs.YtdnopkpoepdihaaDoor
open Go.RowKit
set_option linter.unusedSimpArgs false
set_option linter.unusedVariables false

def pw (j : Nat) : Int := (2 ^ j : Nat)
def widthI (y : Int) : Int := pw (lev y).toNat - 1

theorem pw_next (j : Nat) (h : j < 6) : 2 * pw j = pw (j + 1) ∧ pw j < 64 ∧ 0 < pw j := by
  have : ∀ j : Fin 6, 2 * pw j.1 = pw (j.1 + 1) ∧ pw j.1 < 64 ∧ 0 < pw j.1 := by decide +kernel
  exact this ⟨j, h⟩

set_option maxHeartbeats 1000000 in
theorem width_any (y : Int) (h0 : 0 ≤ y) (h1 : y < 63) {w : World} :
    Calls Tryd.prog 56 #[.int .i64 y] w fun e w' => e = .returned (.int .i64 (widthI y)) ∧ w' = w := by
  have hl := lev_small h0 h1
  go_enter Tryd.func56, Tryd.ntmps56
  go_wp2_with (go_at_call 81; refine (refLevel_any y (by omega)).mono ?_; rintro e w' ⟨rfl, rfl⟩)
  go_loop [3, 4] (fun c k => ∃ j m : Nat, j + m = (lev y).toNat ∧ c = .int .i64 (pw j) ∧ k = .int .i64 m) (fun _ k => (intOf k).toNat)
  case atStart => exact ⟨0, (lev y).toNat, by omega, rfl, by rw [Int.toNat_of_nonneg hl.1]⟩
  case round =>
    obtain ⟨j, m, hj, rfl, rfl⟩ := hrel
    obtain ⟨hp, hp1, hp2⟩ := pw_next j (by omega)
    by_cases hm : m = 0
    · subst hm
      have hw : widthI y = pw j - 1 := by simp [widthI, ← hj]
      go_wp2
      all_goals go_ret
      all_goals exact ⟨by first | rfl | rw [hw], rfl⟩
    · go_wp2
      case roundEnd => exact ⟨⟨j + 1, m - 1, by omega, by rw [← hp], by go_num⟩, by simp [intOf]; omega⟩

def refUnderB (x y n : Int) : Bool := inB x n && inB y n && decide (y - widthI y ≤ x) && decide (x ≤ y + widthI y)

theorem forall_in2 (P : Int → Int → Int → Bool) (h : (sizes.all fun n => (List.range 63).all fun x => !inB (x : Int) n || (List.range 63).all fun y => !inB (y : Int) n || P (x : Int) (y : Int) n) = true) (x y n : Int) (hx : inB x n = true) (hy : inB y n = true) : P x y n = true := by
  have h1 := forall_in (fun x n => (List.range 63).all fun y => !inB (y : Int) n || P x (y : Int) n) h x n hx
  have h2 := forall_lt 63 (fun y => !inB y n || P x y n) h1 y (inB_lt hy).1 (inB_lt hy).2
  simpa [hy] using h2

theorem refUnder_eq (x y n : Int) : refUnderB x y n = underB x y n := by
  cases hx : inB x n
  · simp [refUnderB, underB, hx]
  cases hy : inB y n
  · simp [refUnderB, underB, hx, hy]
  exact eq_of_beq (forall_in2 (fun x y n => refUnderB x y n == underB x y n) (by decide +kernel) x y n hx hy)

set_option maxHeartbeats 1000000 in
theorem refUnder_any (x y n : Int) {w : World} :
    Calls Tryd.prog 32 #[.int .i64 x, .int .i64 y, .int .i64 n] w fun e w' => e = .returned (.bool (underB x y n)) ∧ w' = w := by
  rw [← refUnder_eq]
  cases hx : inB x n with
  | false =>
    have e : refUnderB x y n = false := by simp [refUnderB, hx]
    rw [e]
    go_enter Tryd.func32, Tryd.ntmps32
    go_wp2_with (go_at_call 60; refine (refIn_any _ _ _).mono ?_; rintro e w' ⟨rfl, rfl⟩; simp only [hx])
    all_goals go_ret
    all_goals exact ⟨rfl, rfl⟩
  | true =>
    cases hy : inB y n with
    | false =>
      have e : refUnderB x y n = false := by simp [refUnderB, hy]
      rw [e]
      go_enter Tryd.func32, Tryd.ntmps32
      go_wp2_with (go_at_call 60; refine (refIn_any _ _ _).mono ?_; rintro e w' ⟨rfl, rfl⟩; simp only [hx, hy])
      all_goals go_ret
      all_goals exact ⟨rfl, rfl⟩
    | true =>
      have hxl := inB_lt hx
      have hyl := inB_lt hy
      have hw : 0 ≤ widthI y ∧ widthI y < 64 := by
        have := forall_lt 63 (fun y => decide (0 ≤ widthI y ∧ widthI y < 64)) (by decide +kernel) y hyl.1 hyl.2
        simpa using this
      go_enter Tryd.func32, Tryd.ntmps32
      go_wp2_with first
        | (go_at_call 60; refine (refIn_any _ _ _).mono ?_; rintro e w' ⟨rfl, rfl⟩; simp only [hx, hy])
        | (go_at_call 56; refine (width_any y hyl.1 hyl.2).mono ?_; rintro e w' ⟨rfl, rfl⟩)
      all_goals go_ret
      all_goals exact ⟨by simp [refUnderB, hx, hy]; omega, rfl⟩

/-- The document's search for the lowest place above. -/
def bestI (x n : Int) : Nat → Int
  | 0 => -1
  | k + 1 => if ((k : Int) != x) && underB x k n && (decide (bestI x n k < 0) || decide (lev k < lev (bestI x n k))) then k else bestI x n k
def parR (x n : Int) : Int := if x == n - 1 then -1 else parI x

theorem best_le (x n : Int) : ∀ k : Nat, bestI x n k < k + 1
  | 0 => by simp [bestI]
  | k + 1 => by
    have := best_le x n k
    unfold bestI
    split <;> omega

theorem best_end {x n : Int} (h : inB x n = true) : bestI x n (2 * n - 1).toNat = parR x n :=
  eq_of_beq (forall_in (fun x n => bestI x n (2 * n - 1).toNat == parR x n) (by decide +kernel) x n h)

set_option maxHeartbeats 2000000 in
theorem refParent_any (x n : Int) (hx : inB x n = true) {w : World} :
    Calls Tryd.prog 78 #[.int .i64 x, .int .i64 n] w fun e w' => e = .returned (.int .i64 (parR x n)) ∧ w' = w := by
  have hn := rightB_bounds (inB_right hx)
  have hxl := inB_lt hx
  go_enter Tryd.func78, Tryd.ntmps78
  go_wp2
  go_loop [5, 6] (fun b y => ∃ k : Nat, (k : Int) ≤ 2 * n - 1 ∧ y = .int .i64 k ∧ b = .int .i64 (bestI x n k)) (fun _ y => (2 * n - 1).toNat - (intOf y).toNat)
  case atStart => exact ⟨0, by omega, rfl, rfl⟩
  case round =>
    obtain ⟨k, hk, rfl, rfl⟩ := hrel
    have hb := best_le x n k
    by_cases hlt : (k : Int) < 2 * n - 1
    · go_wp2_with first
        | (go_at_call 32; refine (refUnder_any _ _ _).mono ?_; rintro e w' ⟨rfl, rfl⟩)
        | (go_at_call 81; refine (refLevel_any _ (by omega)).mono ?_; rintro e w' ⟨rfl, rfl⟩)
      all_goals (refine ⟨⟨k + 1, by omega, by go_num, ?_⟩, by simp [intOf]; omega⟩; simp [bestI, *] <;> (intro h; omega))
    · have hkk : (2 * n - 1).toNat = k := by omega
      have hbe := best_end hx
      rw [hkk] at hbe
      go_wp2
      all_goals go_ret
      all_goals exact ⟨by first | rfl | rw [hbe], rfl⟩

theorem par_ge {x n : Int} (h : inB x n = true) (hr : (x == n - 1) = false) : parR x n = parI x ∧ 0 ≤ parI x ∧ parI x < 63 ∧ sibI x = parI x + parI x - x := by
  have h1 := inB_lt (par_in h hr)
  have := forall_in (fun x n => x == n - 1 || sibI x == parI x + parI x - x) (by decide +kernel) x n h
  refine ⟨by simp [parR, hr], h1.1, h1.2, by simpa [hr] using this⟩

set_option maxHeartbeats 1000000 in
theorem refSibling_any (x n : Int) (hx : inB x n = true) (hr : (x == n - 1) = false) {w : World} :
    Calls Tryd.prog 79 #[.int .i64 x, .int .i64 n] w fun e w' => e = .returned (.int .i64 (sibI x)) ∧ w' = w := by
  obtain ⟨h1, h2, h3, h4⟩ := par_ge hx hr
  have hxl := inB_lt hx
  rw [h4]
  go_enter Tryd.func79, Tryd.ntmps79
  go_wp2_with (go_at_call 78; refine (refParent_any _ _ hx).mono ?_; rintro e w' ⟨rfl, rfl⟩; simp only [h1])
  go_ret
  exact ⟨rfl, rfl⟩

theorem root_above {j n : Int} (hj : leafB j n = true) : underB (2 * j) (n - 1) n = true := by
  have hx := leafB_in hj
  exact forall_in (fun x n => underB x (n - 1) n) (by decide +kernel) _ n hx

end Go.Proofs.YtdnopkpoepdihaaDoor
