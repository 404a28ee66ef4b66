/-
  The calls of package heap that only reckon, and the document's: which trees and places there are, levels, roots.
-/
import Derived.Test.YtdnopkpoepdihaaDoorRows
import Derived.Test.YtdnopkpoepdihaaDoorHPure
import Derived.BigGuardPart
import Derived.WalkKit
import Derived.WalkSpells
import Derived.WalkLawsBesides
import Derived.Laws.Bits64b
namespace Go.Proofs.YtdnopkpoepdihaaDoor
open Go.RowKit
set_option linter.unusedSimpArgs false
set_option linter.unusedVariables false

/-- The table of math/bits as it is laid. -/
def Tab (w : World) : Prop := ∀ j, j < 64 → w.cell? ⟨1, j, none⟩ = some (.int .u8 (Lib.deBruijn64tab.getD j 0 : Nat))

theorem Tab.size {w : World} (h : Tab w) : 1 < w.heap.size := by
  have := h 0 (by decide)
  by_cases hs : 1 < w.heap.size
  · exact hs
  · exfalso
    have hn : w.heap[1]? = none := Array.getElem?_eq_none (by omega)
    simp [World.cell?, hn] at this

theorem Tab.below {n : Nat} {w w' : World} (h : Tab w) (hb : Below n w w') (hn : 1 < n) : Tab w' := fun j hj =>
  (hb.cell (p := ⟨1, j, none⟩) hn).trans (h j hj)

set_option maxHeartbeats 400000 in
theorem right_any (n : Int) (w : World) :
    Calls Tryd.prog 47 #[.int .i64 n] w fun e w' => e = .returned (.bool (rightB n)) ∧ w' = w := by
  have key : ∀ n : Int, 1 ≤ n → n ≤ 32 → (bits BinOp.and IntKind.i64 n (n - 1) == 0) = rightB n := by
    intro n h1 h2
    have := forall_lt 33 (fun n => decide (n < 1) || ((bits BinOp.and IntKind.i64 n (n - 1) == 0) == rightB n)) (by decide +kernel) n (by omega) (by omega)
    simp only [Bool.or_eq_true, decide_eq_true_eq] at this
    rcases this with h | h
    · omega
    · exact eq_of_beq h
  have no : ∀ n : Int, ¬ (1 ≤ n ∧ n ≤ 32) → rightB n = false := by
    intro n h; simp [rightB]; omega
  go_enter Tryd.func47, Tryd.ntmps47
  go_wp2
  all_goals go_ret
  all_goals first | exact ⟨rfl, rfl⟩ | exact ⟨by rw [no n (by omega)]; rfl, rfl⟩

set_option maxHeartbeats 400000 in
theorem refRight_any (n : Int) (w : World) :
    Calls Tryd.prog 57 #[.int .i64 n] w fun e w' => e = .returned (.bool (rightB n)) ∧ w' = w := by
  go_enter Tryd.func57, Tryd.ntmps57
  go_wp2
  all_goals go_ret
  all_goals exact ⟨by simp [rightB, *], rfl⟩

theorem wrap_two {n : Int} (h : rightB n = true) (k : Int) (hk0 : 0 ≤ k) (hk : k ≤ 2) : wrap64 (wrap64 (2 * n) - k) = 2 * n - k := by
  have := rightB_bounds h
  rw [IntWalk.wrap64_in (2 * n) (by omega), IntWalk.wrap64_in _ (by omega)]

set_option maxHeartbeats 400000 in
theorem isPlace_any (x n : Int) (w : World) :
    Calls Tryd.prog 74 #[.int .i64 x, .int .i64 n] w fun e w' => e = .returned (.bool (inB x n)) ∧ w' = w := by
  go_enter Tryd.func74, Tryd.ntmps74
  go_wp2_with (go_at_call 47; refine (right_any _ _).mono ?_; rintro e w' ⟨rfl, rfl⟩)
  all_goals go_ret
  · rename_i h0 h1
    have hr : rightB n = true := by assumption
    rw [wrap_two hr 2 (by omega) (by omega)]
    refine ⟨?_, rfl⟩
    simp [inB, *]
    omega
  all_goals exact ⟨by simp [inB, *] <;> omega, rfl⟩

set_option maxHeartbeats 400000 in
theorem refIn_any (x n : Int) (w : World) :
    Calls Tryd.prog 60 #[.int .i64 x, .int .i64 n] w fun e w' => e = .returned (.bool (inB x n)) ∧ w' = w := by
  go_enter Tryd.func60, Tryd.ntmps60
  go_wp2_with (go_at_call 57; refine (refRight_any _ _).mono ?_; rintro e w' ⟨rfl, rfl⟩)
  all_goals go_ret
  · have hr : rightB n = true := by assumption
    rw [wrap_two hr 1 (by omega) (by omega)]
    refine ⟨?_, rfl⟩
    simp [inB, *]
  all_goals exact ⟨by simp [inB, *] <;> omega, rfl⟩

set_option maxHeartbeats 400000 in
theorem root_any (n : Int) (w : World) :
    Calls Tryd.prog 76 #[.int .i64 n] w fun e w' => e = .returned (.int .i64 (wrap64 (n - 1))) ∧ w' = w := by
  go_enter Tryd.func76, Tryd.ntmps76
  go_wp2
  go_ret
  exact ⟨rfl, rfl⟩

theorem root_right {n : Int} (h : rightB n = true) (w : World) :
    Calls Tryd.prog 76 #[.int .i64 n] w fun e w' => e = .returned (.int .i64 (n - 1)) ∧ w' = w := by
  have := rightB_bounds h
  have := root_any n w
  rwa [IntWalk.wrap64_in _ (by omega)] at this

def hasParB (x n : Int) : Bool := inB x n && (x != n - 1)

theorem tz_key (x a : Nat) (hx : x < 18446744073709551616) (hx0 : x ≠ 0) (hlow : x &&& (18446744073709551616 - x) = a) :
    IntKind.u64.wrap (bits BinOp.and IntKind.u64 (x : Int) (IntKind.u64.wrap (-(x : Int))) * 285870213051353865) / 288230376151711744 = ((a * 285870213051353865 % 18446744073709551616 / 288230376151711744 : Nat) : Int) := by
  have e1 : IntKind.u64.wrap (-(x : Int)) = ((18446744073709551616 - x : Nat) : Int) := by rw [IntKind.wrap_u64]; omega
  rw [e1, bits_and_u64_nat x _ hx (by omega), hlow, IntKind.wrap_u64]
  omega

set_option maxHeartbeats 1000000 in
theorem tz64_core (x k idx : Nat) (w : World) (hx0 : ((x : Int) == 0) = false)
    (key : IntKind.u64.wrap (bits BinOp.and IntKind.u64 (x : Int) (IntKind.u64.wrap (-(x : Int))) * 285870213051353865) / 288230376151711744 = (idx : Int))
    (hi : idx < 64) (hk : k < 64) (hcell : w.cell? ⟨1, idx, none⟩ = some (.int .u8 k)) :
    Calls Tryd.prog 95 #[.int .u64 x] w fun e w' => e = .returned (.int .i64 k) ∧ w' = w := by
  go_enter Tryd.func95, Tryd.ntmps95
  go_wp2_with (simp only [key])
  go_ret
  exact ⟨rfl, rfl⟩

theorem tz64 (x : Nat) (hx : x < 18446744073709551616) (hx0 : x ≠ 0) {w : World} (hT : Tab w) :
    Calls Tryd.prog 95 #[.int .u64 x] w fun e w' => e = .returned (.int .i64 (Lib.ctz 64 x)) ∧ w' = w := by
  obtain ⟨hlow, hk⟩ := Lib.lowest_bit 64 x hx0 hx
  obtain ⟨hi, htab⟩ := Lib.deBruijn64_at _ hk
  have hcell := hT _ hi
  rw [htab] at hcell
  exact tz64_core x _ _ w (by simp; omega) (tz_key x _ hx hx0 hlow) hi hk hcell

set_option maxHeartbeats 400000 in
theorem tz (x : Nat) (hx : x < 18446744073709551616) (hx0 : x ≠ 0) {w : World} (hT : Tab w) :
    Calls Tryd.prog 85 #[.int .u64 x] w fun e w' => e = .returned (.int .i64 (Lib.ctz 64 x)) ∧ w' = w := by
  go_enter Tryd.func85, Tryd.ntmps85
  go_wp2_with (go_at_call 95; refine (tz64 x hx hx0 hT).mono ?_; rintro e w' ⟨rfl, rfl⟩)
  go_ret
  exact ⟨rfl, rfl⟩

set_option maxHeartbeats 400000 in
theorem level_neg (x : Int) (h : x < 0) (w : World) :
    Calls Tryd.prog 68 #[.int .i64 x] w fun e w' => e = .returned (.int .i64 0) ∧ w' = w := by
  go_enter Tryd.func68, Tryd.ntmps68
  go_wp2
  go_ret
  exact ⟨rfl, rfl⟩

theorem xor_max (x : Nat) (h : x < 18446744073709551616) : bits BinOp.xor IntKind.u64 IntKind.u64.max (x : Int) = ((18446744073709551615 - x : Nat) : Int) := by
  have h1 : (BitVec.ofInt 64 (x : Int)).toNat = x := by
    rw [BitVec.ofInt_natCast, BitVec.toNat_ofNat]; exact Nat.mod_eq_of_lt (by omega)
  have h2 : BitVec.ofInt 64 IntKind.u64.max = BitVec.allOnes 64 := by decide
  show IntKind.u64.wrap ((BitVec.ofInt 64 IntKind.u64.max ^^^ BitVec.ofInt 64 (x : Int)).toNat : Int) = _
  rw [h2, BitVec.allOnes_xor, BitVec.toNat_not, h1, IntKind.wrap_u64]
  omega

set_option maxHeartbeats 400000 in
theorem level_nat (x : Nat) (h : x < 9223372036854775808) {w : World} (hT : Tab w) :
    Calls Tryd.prog 68 #[.int .i64 x] w fun e w' => e = .returned (.int .i64 (levN 64 x : Nat)) ∧ w' = w := by
  have hx := tz (18446744073709551615 - x) (by omega) (by omega) hT
  rw [ctz_lev x h] at hx
  have hs : IntKind.u64.signed = false := rfl
  have hk := xor_max x (by omega)
  go_enter Tryd.func68, Tryd.ntmps68
  go_wp2_with first
    | simp only [hk]
    | (go_at_call 85; refine hx.mono ?_; rintro e w' ⟨rfl, rfl⟩)
  all_goals go_ret
  all_goals exact ⟨rfl, rfl⟩

end Go.Proofs.YtdnopkpoepdihaaDoor
