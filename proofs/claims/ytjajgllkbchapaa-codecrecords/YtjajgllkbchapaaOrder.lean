/-
  CodecOrder: its walk.
-/
import Derived.Test.YtjajgllkbchapaaSizes
import Derived.Test.YtjajgllkbchapaaPureC
namespace Go.Proofs.Ytjajgllkbchapaa
open Go.RowKit
set_option linter.unusedSimpArgs false
set_option linter.unusedVariables false

theorem ret_bool {a : Bool} (h : a = true) : Ending.returned (.bool a) = .returned (.bool true) := by rw [h]

theorem enc_bad {n : Int} (hn : n < 0 ∨ 4611686018427387904 ≤ n) : encRes (putN n) = .tuple #[.string ⟨#[]⟩, .int .i64 22] := by
  have : okN n = false := by simp [okN]; omega
  simp [putN, this, encRes]
theorem enc_good {n : Int} (h0 : 0 ≤ n) (h1 : n < 4611686018427387904) : encRes (putN n) = .tuple #[.string ⟨(enc n.toNat).toArray⟩, .int .i64 0] := by
  have : okN n = true := by simp [okN]; omega
  simp [putN, this, encRes]

set_option maxRecDepth 100000 in
set_option maxHeartbeats 1000000 in
theorem order_no (a b ea eb : Int) (sa sb : ByteArray) (Ha : Hid (encRes (putN a) = .tuple #[.string sa, .int .i64 ea])) (Hb : Hid (encRes (putN b) = .tuple #[.string sb, .int .i64 eb]))
    (ta tb : Bool) (h1 : (ea != 0) = ta) (h2 : (eb != 0) = tb) (h3 : (decide (a < 0) || decide (4611686018427387904 ≤ a)) = ta) (h4 : (decide (b < 0) || decide (4611686018427387904 ≤ b)) = tb) (h5 : (ta || tb) = true) {w : World} :
    Calls Try.prog 10 #[.int .i64 a, .int .i64 b] w fun e w' => e = .returned (.bool true) ∧ Below w.heap.size w w' := by
  by_cases a0 : a < 0 <;> by_cases b0 : b < 0 <;> by_cases a1 : 4611686018427387904 ≤ a <;> by_cases b1' : 4611686018427387904 ≤ b
  all_goals simp only [a0, b0, a1, b1', decide_true, decide_false, Bool.or_true, Bool.true_or, Bool.or_false, Bool.false_or] at h3 h4
  all_goals subst h3 h4
  all_goals first | (exfalso; omega) | skip
  all_goals first | (simp at h5; done) | skip
  all_goals
    first | (have da := decide_eq_true a0) | (have da := decide_eq_false a0)
    first | (have db := decide_eq_true b0) | (have db := decide_eq_false b0)
    first | (have fa := decide_eq_true a1) | (have fa := decide_eq_false a1)
    first | (have fb := decide_eq_true b1') | (have fb := decide_eq_false b1')
    go_enter Try.func10, Try.ntmps10
    go_wp2_with fail
    refine (anchor_any _).mono ?_
    rintro e w1 ⟨rfl, b1⟩
    go_wp2_with fail
    refine (number_codec _).mono ?_
    rintro e w2 ⟨rfl, b2⟩
    go_wp2_with fail
    refine (encodeN _ _ _).mono ?_
    rintro e w3 ⟨he, b3⟩
    rw [Ha.out] at he
    subst he
    go_wp2_with fail
    refine (number_codec _).mono ?_
    rintro e w4 ⟨rfl, b4⟩
    go_wp2_with fail
    refine (encodeN _ _ _).mono ?_
    rintro e w5 ⟨he, b5⟩
    rw [Hb.out] at he
    subst he
    go_wp2_with fail
    all_goals first | (exfalso; omega) | (go_ret; exact ⟨rfl, on (on (on (on b1 b2) b3) b4) b5⟩) | (go_ret; refine ⟨ret_bool ?_, on (on (on (on b1 b2) b3) b4) b5⟩; simp; omega)

set_option maxRecDepth 100000 in
set_option maxHeartbeats 1000000 in
theorem order_yes (a b : Int) (sa sb : ByteArray) (Ha : Hid (encRes (putN a) = .tuple #[.string sa, .int .i64 0])) (Hb : Hid (encRes (putN b) = .tuple #[.string sb, .int .i64 0]))
    (t u : Bool) (h1 : decide (a < b) = t) (h2 : Op.bytesLess sa.toList sb.toList = t) (h3 : (a == b) = u) (h4 : (sa.toList == sb.toList) = u) {w : World} :
    Calls Try.prog 10 #[.int .i64 a, .int .i64 b] w fun e w' => e = .returned (.bool true) ∧ Below w.heap.size w w' := by
  cases t <;> cases u
  all_goals
    go_enter Try.func10, Try.ntmps10
    go_wp2_with fail
    refine (anchor_any _).mono ?_
    rintro e w1 ⟨rfl, b1⟩
    go_wp2_with fail
    refine (number_codec _).mono ?_
    rintro e w2 ⟨rfl, b2⟩
    go_wp2_with fail
    refine (encodeN _ _ _).mono ?_
    rintro e w3 ⟨he, b3⟩
    rw [Ha.out] at he
    subst he
    go_wp2_with fail
    refine (number_codec _).mono ?_
    rintro e w4 ⟨rfl, b4⟩
    go_wp2_with fail
    refine (encodeN _ _ _).mono ?_
    rintro e w5 ⟨he, b5⟩
    rw [Hb.out] at he
    subst he
    go_wp2_with fail
    go_ret
    exact ⟨rfl, on (on (on (on b1 b2) b3) b4) b5⟩

theorem order_walk (a : Int) (ha : (Lit.int .i64 a).wf = true) (b : Int) (hb : (Lit.int .i64 b).wf = true) {w : World} : Calls Try.prog 10 #[.int .i64 a, .int .i64 b] w fun e w' => e = .returned (.bool true) ∧ Below w.heap.size w w' := by
  by_cases h1 : a < 0 ∨ 4611686018427387904 ≤ a
  · by_cases h2 : b < 0 ∨ 4611686018427387904 ≤ b
    · exact order_no a b 22 22 _ _ (enc_bad h1) (enc_bad h2) true true rfl rfl (by simpa using h1) (by simpa using h2) rfl
    · exact order_no a b 22 0 _ _ (enc_bad h1) (enc_good (by omega) (by omega)) true false rfl rfl (by simpa using h1) (by simp; omega) rfl
  · by_cases h2 : b < 0 ∨ 4611686018427387904 ≤ b
    · exact order_no a b 0 22 _ _ (enc_good (by omega) (by omega)) (enc_bad h2) false true rfl rfl (by simp; omega) (by simpa using h2) rfl
    · refine order_yes a b _ _ (enc_good (by omega) (by omega)) (enc_good (by omega) (by omega)) (decide (a < b)) (a == b) rfl ?_ rfl ?_
      · rw [ByteArray.toList_eq, ByteArray.toList_eq]
        show Op.bytesLess (enc a.toNat) (enc b.toNat) = _
        rw [less_enc (by omega) (by omega), Bool.eq_iff_iff]
        simp only [decide_eq_true_eq]
        omega
      · rw [ByteArray.toList_eq, ByteArray.toList_eq]
        show (enc a.toNat == enc b.toNat) = _
        rw [enc_beq (by omega) (by omega), Bool.eq_iff_iff]
        simp only [decide_eq_true_eq, beq_iff_eq]
        omega

end Go.Proofs.Ytjajgllkbchapaa
