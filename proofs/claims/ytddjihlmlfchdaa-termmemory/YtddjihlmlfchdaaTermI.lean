/-
  Ints: whether two lists of numbers are the same.
-/
import Derived.Test.YtddjihlmlfchdaaTermH
namespace Go.Proofs.Ytddjihlmlfchdaa
open Go.RowKit
set_option linter.unusedSimpArgs false
set_option linter.unusedVariables false

set_option maxRecDepth 100000 in
set_option maxHeartbeats 2000000 in
theorem ints_any {w : World} {va vb : Value} {a b : List Int} (ha : IntsAt w va a) (hb : IntsAt w vb b) :
    Calls Try.prog 26 #[va, vb] w fun e w' => e = .returned (.bool (decide (a = b))) ∧ ∃ n, w' = w.drewN n := by
  obtain ⟨a1, cap1, rfl, hl1, hc1⟩ := ha
  obtain ⟨a2, cap2, rfl, hl2, hc2⟩ := hb
  by_cases hlen : a.length = b.length
  · have hlb : ((a.length : Int) != (b.length : Int)) = false := by simp [hlen]
    have Hlen : Hid (a.length = b.length) := hlen
    have hle : (b.length : Int) ≤ a.length := by omega
    have hge : (a.length : Int) ≤ b.length := by omega
    clear hlen
    go_enter Try.func26, Try.ntmps26
    go_wp2_with fail
    go_loopw [5] (fun i wr => ∃ k : Nat, k ≤ a.length ∧ i = .int .i64 k ∧ a.take k = b.take k ∧ ∃ n, wr = w.drewN n) (fun i _ => a.length - (intOf i).toNat)
    case atStart => exact ⟨0, Nat.zero_le _, rfl, by simp, 0, rfl⟩
    case round =>
      obtain ⟨k, hk, rfl, htk, n, rfl⟩ := hrel
      have Htk : Hid (a.take k = b.take k) := htk
      clear htk
      by_cases hlt : k < a.length
      · have hlt2 : k < b.length := by omega
        obtain ⟨x, hx⟩ : ∃ x, a[k]? = some x := ⟨a[k], by simp [hlt]⟩
        obtain ⟨y, hy⟩ : ∃ y, b[k]? = some y := ⟨b[k], by simp [hlt2]⟩
        obtain ⟨b1, o1, rfl, hb1, c1⟩ := hc1 (by rintro rfl; simp at hx)
        obtain ⟨b2, o2, rfl, hb2, c2⟩ := hc2 (by rintro rfl; simp at hy)
        have d1 := c1 k x hx
        have d2 := c2 k y hy
        have i1 : (k : Int) < (a.length : Int) := by omega
        have i2 : (k : Int) < (b.length : Int) := by omega
        have Hx : Hid (a[k]? = some x) := hx
        have Hy : Hid (b[k]? = some y) := hy
        clear c1 c2 hx hy hc1 hc2
        by_cases hxy : x = y
        · subst hxy
          go_wp2_with fail
          go_quiet (fail)
          go_wp2_with fail
          go_roundw
          case rel =>
            refine ⟨k + 1, by omega, by go_num, ?_, _, rfl⟩
            rw [List.take_add_one, List.take_add_one, Htk.out, Hx.out, Hy.out]
          case measure => simp [intOf]; omega
        · have hxy' : (x != y) = true := by simp [hxy]
          have Hne : Hid (decide (a = b) = false) := dec_false (fun e => by
            have h1 := Hx.out
            rw [e, Hy.out] at h1
            simp at h1
            exact hxy h1.symm)
          clear hxy
          go_wp2_with fail
          go_quiet (fail)
          go_wp2_with fail
          go_ret
          rw [Hne.out]
          exact ⟨rfl, n + nq, by simp [World.drewN, Nat.add_assoc]⟩
      · have He : Hid (decide (a = b) = true) := by
          have h1 := Htk.out
          rw [List.take_of_length_le (by omega), List.take_of_length_le (by have := Hlen.out; omega)] at h1
          simp [Hid, h1]
        go_wp2_with fail
        go_ret
        rw [He.out]
        exact ⟨rfl, _, rfl⟩
  · have hlb : ((a.length : Int) != (b.length : Int)) = true := by simp; omega
    have Hne : Hid (decide (a = b) = false) := dec_false (fun e => hlen (by rw [e]))
    clear hlen
    go_enter Try.func26, Try.ntmps26
    go_wp2_with fail
    go_ret
    rw [Hne.out]
    exact ⟨rfl, 0, rfl⟩

end Go.Proofs.Ytddjihlmlfchdaa
