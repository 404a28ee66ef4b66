/-
  class, and the Writer's number: its class.
-/
import Derived.Test.YtjajgllkbchapaaBase
import Derived.Test.YtjajgllkbchapaaLib
namespace Go.Proofs.Ytjajgllkbchapaa
open Go.RowKit
set_option linter.unusedSimpArgs false
set_option linter.unusedVariables false

theorem ret_int {k : IntKind} {a b : Int} (h : a = b) : Ending.returned (.int k a) = .returned (.int k b) := by rw [h]

theorem cls_0 {n : Nat} (h : n < 64) : cls n = 0 := by simp [cls, h]
theorem cls_1 {n : Nat} (h : 64 ≤ n) (h2 : n < 16384) : cls n = 1 := by unfold cls; rw [if_neg (by omega), if_pos h2]
theorem cls_2 {n : Nat} (h : 16384 ≤ n) (h2 : n < 1073741824) : cls n = 2 := by unfold cls; rw [if_neg (by omega), if_neg (by omega), if_pos h2]
theorem cls_3 {n : Nat} (h : 1073741824 ≤ n) : cls n = 3 := by unfold cls; rw [if_neg (by omega), if_neg (by omega), if_neg (by omega)]

set_option maxHeartbeats 400000 in
theorem class_in (w : World) (n : Int) (C : Int) (h0 : 0 ≤ n) (h1 : n < 4611686018427387904) (HC : Hid (C = (cls n.toNat : Nat))) :
    Calls Try.prog 101 #[.int .i64 n] w fun e w' => e = .returned (.int .i64 C) ∧ w' = w := by
  go_enter Try.func101, Try.ntmps101
  go_wp2_with fail
  go_loop [3] (fun c => ∃ k : Int, (k = 0 ∨ k = 1 ∧ 64 ≤ n ∨ k = 2 ∧ 16384 ≤ n ∨ k = 3 ∧ 1073741824 ≤ n) ∧ c = .int .i64 k) (fun c => (3 - intOf c).toNat)
  case atStart => exact ⟨0, Or.inl rfl, rfl⟩
  case round =>
    obtain ⟨k, hk, rfl⟩ := hrel
    rcases hk with rfl | ⟨rfl, hk⟩ | ⟨rfl, hk⟩ | ⟨rfl, hk⟩
    · by_cases hc : n < 64
      · have hq : (n / 64 != 0) = false := by simp; omega
        go_wp2_with fail
        go_ret
        exact ⟨ret_int (by rw [HC.out, cls_0 (by omega)]; rfl), rfl⟩
      · have hq : (n / 64 != 0) = true := by simp; omega
        go_wp2_with fail
        go_round
        case rel => exact ⟨1, Or.inr (Or.inl ⟨rfl, by omega⟩), rfl⟩
        case measure => simp [intOf]
    · by_cases hc : n < 16384
      · have hq : (n / 16384 != 0) = false := by simp; omega
        go_wp2_with fail
        go_ret
        exact ⟨ret_int (by rw [HC.out, cls_1 (by omega) (by omega)]; rfl), rfl⟩
      · have hq : (n / 16384 != 0) = true := by simp; omega
        go_wp2_with fail
        go_round
        case rel => exact ⟨2, Or.inr (Or.inr (Or.inl ⟨rfl, by omega⟩)), rfl⟩
        case measure => simp [intOf]
    · by_cases hc : n < 1073741824
      · have hq : (n / 1073741824 != 0) = false := by simp; omega
        go_wp2_with fail
        go_ret
        exact ⟨ret_int (by rw [HC.out, cls_2 (by omega) (by omega)]; rfl), rfl⟩
      · have hq : (n / 1073741824 != 0) = true := by simp; omega
        go_wp2_with fail
        go_round
        case rel => exact ⟨3, Or.inr (Or.inr (Or.inr ⟨rfl, by omega⟩)), rfl⟩
        case measure => simp [intOf]
    · have hq : (n / 4611686018427387904 != 0) = false := by simp; omega
      go_wp2_with fail
      go_ret
      exact ⟨ret_int (by rw [HC.out, cls_3 (by omega)]; rfl), rfl⟩

theorem info5 : (Try.prog.info? 5).map (fun i => (i.zero, i.size, i.bytes)) = some (some (.int .u8 0), 1, 1) := by kernel_rfl

set_option maxHeartbeats 400000 in
theorem number_err {w : World} {p : Nat} {bs : List UInt8} {er : Int} (h : WAt w p bs er) (he : (er != 0) = true) (n : Int) :
    Calls Try.prog 54 #[.pointer (some ⟨p, 0, none⟩), .int .i64 n] w fun e w' => e = .returned (.tuple #[]) ∧ w' = w := by
  obtain ⟨a, c, c0, c1, cf, hrow, hlt, hne⟩ := h.cells
  go_enter Try.func54, Try.ntmps54
  go_wp2_with fail
  refine bodyPost_ret (results_none rfl _ _ _) rfl ?_
  exact ⟨rfl, rfl⟩

set_option maxHeartbeats 400000 in
theorem number_bad {w : World} {p : Nat} {bs : List UInt8} (h : WAt w p bs 0) (n : Int) (hn : n < 0 ∨ 4611686018427387903 < n) :
    Calls Try.prog 54 #[.pointer (some ⟨p, 0, none⟩), .int .i64 n] w fun e w' => e = .returned (.tuple #[]) ∧ WAt w' p bs 22 ∧ WFr p w w' := by
  obtain ⟨a, c, c0, c1, cf, hrow, hlt, hne⟩ := h.cells
  have hf := h.fail 22
  have hw := (WFr.refl p w).setP (o := 1) (.int .i64 22)
  rcases hn with hn | hn
  · have hd : decide (n < 0) = true := by simpa using hn
    go_enter Try.func54, Try.ntmps54
    go_wp2_with fail
    refine bodyPost_ret (results_none rfl _ _ _) rfl ?_
    exact ⟨rfl, hf, hw⟩
  · have hd : ¬ n < 0 := by omega
    go_enter Try.func54, Try.ntmps54
    go_wp2_with fail
    refine bodyPost_ret (results_none rfl _ _ _) rfl ?_
    exact ⟨rfl, hf, hw⟩

end Go.Proofs.Ytjajgllkbchapaa
