/-
  Levels by the document, parents, siblings, children, roots: as the calls answer them.
-/
import Derived.Test.YtdnopkpoepdihaaDoorHA
namespace Go.Proofs.YtdnopkpoepdihaaDoor
open Go.RowKit
set_option linter.unusedSimpArgs false
set_option linter.unusedVariables false

theorem level_any (x : Int) (hb : x < 9223372036854775808) {w : World} (hT : Tab w) :
    Calls Tryd.prog 68 #[.int .i64 x] w fun e w' => e = .returned (.int .i64 (lev x)) ∧ w' = w := by
  by_cases hx : x < 0
  · have := level_neg x hx w
    rwa [show (0 : Int) = lev x by simp [lev, show x.toNat = 0 by omega, levN]] at this
  · have := level_nat x.toNat (by omega) hT
    rwa [Int.toNat_of_nonneg (by omega)] at this

theorem levN_zero : ∀ f, levN f 0 = 0
  | 0 => rfl
  | f + 1 => by simp [levN]

set_option maxHeartbeats 1000000 in
theorem refLevel_nat (x : Nat) (h : x < 9223372036854775808) {w : World} :
    Calls Tryd.prog 81 #[.int .i64 x] w fun e w' => e = .returned (.int .i64 (levN 64 x : Nat)) ∧ w' = w := by
  go_enter Tryd.func81, Tryd.ntmps81
  go_wp2
  go_loop [0, 3] (fun c k => ∃ f a j : Nat, c = .int .i64 a ∧ k = .int .i64 j ∧ Hid (levN 64 x = j + levN f a) ∧ Hid (a < 2 ^ f) ∧ a < 9223372036854775808 ∧ f + j = 64) (fun c _ => (intOf c).toNat)
  case atStart => exact ⟨64, x, 0, rfl, rfl, (by rw [Nat.zero_add] : levN 64 x = 0 + levN 64 x), (by omega : x < 2 ^ 64), h, rfl⟩
  case round =>
    obtain ⟨f, a, j, rfl, rfl, HL, HA, ha, hf⟩ := hrel
    by_cases hodd : a % 2 = 1
    · have hodd' : ((a : Int) % 2 == 1) = true := by rw [beq_iff_eq]; omega
      have hpos : decide ((0 : Int) < a) = true := by rw [decide_eq_true_eq]; omega
      have hfp : ∃ g, f = g + 1 := by
        cases f with
        | zero => have := HA.out; simp at this; omega
        | succ g => exact ⟨g, rfl⟩
      obtain ⟨g, rfl⟩ := hfp
      go_wp2
      case roundEnd =>
        refine ⟨⟨g, a / 2, j + 1, by go_num, by go_num, ?_, ?_, by omega, by omega⟩, by simp [intOf]; omega⟩
        · have := HL.out
          rw [show levN (g + 1) a = levN g (a / 2) + 1 by simp [levN, hodd]] at this
          show levN 64 x = j + 1 + levN g (a / 2)
          omega
        · have := HA.out
          show a / 2 < 2 ^ g
          rw [Nat.pow_succ] at this; omega
      all_goals (exfalso; omega)
    · have hodd' : ((a : Int) % 2 == 1) = false := by rw [beq_eq_false_iff_ne]; omega
      have hz : levN f a = 0 := by cases f <;> simp [levN, hodd]
      have hL : levN 64 x = j := by have := HL.out; omega
      rw [hL]
      go_wp2
      all_goals go_ret
      all_goals exact ⟨rfl, rfl⟩

theorem refLevel_any (x : Int) (hb : x < 9223372036854775808) {w : World} :
    Calls Tryd.prog 81 #[.int .i64 x] w fun e w' => e = .returned (.int .i64 (lev x)) ∧ w' = w := by
  by_cases hx : x < 0
  · have e : lev x = 0 := by simp [lev, show x.toNat = 0 by omega, levN]
    rw [e]
    go_enter Tryd.func81, Tryd.ntmps81
    go_wp2
    go_loop [0, 3] (fun c k => c = .int .i64 x ∧ k = .int .i64 0) (fun _ _ => 0)
    case atStart => exact ⟨rfl, rfl⟩
    case round =>
      obtain ⟨rfl, rfl⟩ := hrel
      go_wp2
      all_goals first | (exfalso; omega) | (go_ret; exact ⟨rfl, rfl⟩)
  · have := refLevel_nat x.toNat (by omega) (w := w)
    rwa [Int.toNat_of_nonneg (by omega)] at this

theorem lev_small {x : Int} (h0 : 0 ≤ x) (h1 : x < 63) : 0 ≤ lev x ∧ lev x ≤ 5 := by
  have := forall_lt 63 (fun x => decide (0 ≤ lev x ∧ lev x ≤ 5)) (by decide +kernel) x h0 h1
  simpa using this

set_option maxHeartbeats 400000 in
theorem parent_any (x : Int) (h0 : 0 ≤ x) (h1 : x < 63) {w : World} (hT : Tab w) :
    Calls Tryd.prog 89 #[.int .i64 x] w fun e w' => e = .returned (.int .i64 (parI x)) ∧ w' = w := by
  have hl := lev_small h0 h1
  go_enter Tryd.func89, Tryd.ntmps89
  go_wp2_with (go_at_call 68; refine (level_any x (by omega) hT).mono ?_; rintro e w' ⟨rfl, rfl⟩)
  go_ret
  refine ⟨?_, rfl⟩
  have := forall_lt 63 (fun x => bits BinOp.andNot IntKind.i64 (bits BinOp.or IntKind.i64 x (wrap64 (2 ^ (lev x).toNat))) (wrap64 (2 * wrap64 (2 ^ (lev x).toNat))) == parI x) (by decide +kernel) x h0 h1
  rw [← eq_of_beq this]; rfl

set_option maxHeartbeats 400000 in
theorem sibling_any (x : Int) (h0 : 0 ≤ x) (h1 : x < 63) {w : World} (hT : Tab w) :
    Calls Tryd.prog 77 #[.int .i64 x] w fun e w' => e = .returned (.int .i64 (sibI x)) ∧ w' = w := by
  have hl := lev_small h0 h1
  go_enter Tryd.func77, Tryd.ntmps77
  go_wp2_with (go_at_call 68; refine (level_any x (by omega) hT).mono ?_; rintro e w' ⟨rfl, rfl⟩)
  go_ret
  refine ⟨?_, rfl⟩
  have := forall_lt 63 (fun x => bits BinOp.xor IntKind.i64 x (wrap64 (2 * 2 ^ (lev x).toNat)) == sibI x) (by decide +kernel) x h0 h1
  rw [← eq_of_beq this]; rfl

def errIf (b : Bool) : Int := if b then 0 else 30

def innerB (x n : Int) : Bool := inB x n && (lev x != 0)
def halfI (x : Int) : Int := 2 ^ (lev x - 1).toNat

set_option maxHeartbeats 1000000 in
theorem Children_any (x n : Int) {w : World} (hT : Tab w) :
    Calls Tryd.prog 54 #[.int .i64 x, .int .i64 n] w fun e w' => e = .returned (.tuple #[.int .i64 (if innerB x n then x - halfI x else 0), .int .i64 (if innerB x n then x + halfI x else 0), .int .i64 (errIf (innerB x n))]) ∧ w' = w := by
  cases hp : inB x n with
  | false =>
    have hr : innerB x n = false := by simp [innerB, hp]
    rw [hr]
    go_enter Tryd.func54, Tryd.ntmps54
    go_wp2_with (go_at_call 74; refine (isPlace_any _ _ _).mono ?_; rintro e w' ⟨rfl, rfl⟩; rw [hp])
    go_ret3
    exact ⟨rfl, rfl⟩
  | true =>
    have hb := inB_lt hp
    have hl := lev_small hb.1 hb.2
    cases hz : (lev x == 0) with
    | true =>
      have hr : innerB x n = false := by simp [innerB, hp]; simpa using hz
      rw [hr]
      go_enter Tryd.func54, Tryd.ntmps54
      go_wp2_with first
        | (go_at_call 74; refine (isPlace_any _ _ _).mono ?_; rintro e w' ⟨rfl, rfl⟩; rw [hp])
        | (go_at_call 68; refine (level_any _ (by omega) hT).mono ?_; rintro e w' ⟨rfl, rfl⟩)
      go_ret3
      exact ⟨rfl, rfl⟩
    | false =>
      have hr : innerB x n = true := by simp [innerB, hp]; simpa using hz
      have hz' : lev x ≠ 0 := by simpa using hz
      have hq : wrap64 (2 ^ ((lev x).toNat - 1)) = halfI x := by
        have := forall_lt 63 (fun x => wrap64 (2 ^ ((lev x).toNat - 1)) == halfI x || lev x == 0) (by decide +kernel) x hb.1 hb.2
        simpa [hz'] using this
      have hq2 : 1 ≤ halfI x ∧ halfI x ≤ 16 := by
        have := forall_lt 63 (fun x => lev x == 0 || decide (1 ≤ halfI x ∧ halfI x ≤ 16)) (by decide +kernel) x hb.1 hb.2
        simpa [hz'] using this
      rw [hr]
      go_enter Tryd.func54, Tryd.ntmps54
      go_wp2_with first
        | (go_at_call 74; refine (isPlace_any _ _ _).mono ?_; rintro e w' ⟨rfl, rfl⟩; rw [hp])
        | (go_at_call 68; refine (level_any _ (by omega) hT).mono ?_; rintro e w' ⟨rfl, rfl⟩)
      all_goals go_ret3
      all_goals exact ⟨rfl, rfl⟩

end Go.Proofs.YtdnopkpoepdihaaDoor
