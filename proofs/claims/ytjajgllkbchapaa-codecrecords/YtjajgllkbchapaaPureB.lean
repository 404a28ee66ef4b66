/-
  A number's form is read back, and no number has two forms.
-/
import Derived.Test.YtjajgllkbchapaaPure
namespace Go.Proofs.Ytjajgllkbchapaa
set_option linter.unusedSimpArgs false
set_option linter.unusedVariables false

theorem num_be (m : Nat) : ∀ k, num (m / 256 ^ k) (be k m) = m
  | 0 => by simp [be, num]
  | k + 1 => by
    have h := num_be m k
    simp only [be, num]
    have e : m / 256 ^ (k + 1) * 256 + (UInt8.ofNat (m / 256 ^ k)).toNat = m / 256 ^ k := by
      rw [Nat.pow_succ, ← Nat.div_div_eq_div_mul, UInt8.toNat_ofNat']
      generalize m / 256 ^ k = q
      omega
    rw [e]
    exact h

theorem num_div (xs : List UInt8) : ∀ a, num a xs / 256 ^ xs.length = a := by
  induction xs with
  | nil => intro a; simp [num]
  | cons x r ih =>
    intro a
    have hx := x.toNat_lt
    simp only [num, List.length_cons]
    rw [Nat.pow_succ, ← Nat.div_div_eq_div_mul, ih]
    omega

theorem be_num (xs : List UInt8) : ∀ a, be xs.length (num a xs) = xs := by
  induction xs with
  | nil => intro a; rfl
  | cons x r ih =>
    intro a
    have hx := x.toNat_lt
    simp only [num, List.length_cons, be]
    rw [ih, num_div]
    congr 1
    apply UInt8.toNat_inj.1
    rw [UInt8.toNat_ofNat']
    omega

theorem num_lt (xs : List UInt8) : ∀ a, num a xs < (a + 1) * 256 ^ xs.length := by
  induction xs with
  | nil => intro a; simp [num]
  | cons x r ih =>
    intro a
    have hx := x.toNat_lt
    simp only [num, List.length_cons]
    refine Nat.lt_of_lt_of_le (ih _) ?_
    rw [Nat.pow_succ, Nat.mul_comm (256 ^ r.length) 256, ← Nat.mul_assoc]
    exact Nat.mul_le_mul_right _ (by omega)

theorem getN_enc (m : Nat) (hm : m < 4611686018427387904) (t : List UInt8) : getN (enc m ++ t) = .ok (m, t) := by
  have hlt := be_head_lt hm
  have hc := cls_le m
  have hb : (UInt8.ofNat (m / 256 ^ (2 ^ cls m - 1) + 64 * cls m)).toNat = m / 256 ^ (2 ^ cls m - 1) + 64 * cls m := by
    rw [UInt8.toNat_ofNat']
    generalize m / 256 ^ (2 ^ cls m - 1) = q at *
    omega
  have e1 : (m / 256 ^ (2 ^ cls m - 1) + 64 * cls m) / 64 = cls m := by
    generalize m / 256 ^ (2 ^ cls m - 1) = q at *
    omega
  have e2 : (m / 256 ^ (2 ^ cls m - 1) + 64 * cls m) % 64 = m / 256 ^ (2 ^ cls m - 1) := by
    generalize m / 256 ^ (2 ^ cls m - 1) = q at *
    omega
  simp only [enc, List.cons_append, getN, hb, e1, e2]
  have hl : (be (2 ^ cls m - 1) m).length = 2 ^ cls m - 1 := be_length _ _
  rw [if_neg (by rw [List.length_append, hl]; omega)]
  have e3 : (be (2 ^ cls m - 1) m ++ t).take (2 ^ cls m - 1) = be (2 ^ cls m - 1) m := by
    rw [List.take_append_of_le_length (by omega), List.take_of_length_le (by omega)]
  have e4 : (be (2 ^ cls m - 1) m ++ t).drop (2 ^ cls m - 1) = t := by
    rw [List.drop_append_of_le_length (by omega), List.drop_of_length_le (by omega), List.nil_append]
  rw [e3, e4, num_be, if_pos rfl]

theorem getN_inv {l t : List UInt8} {n : Nat} (h : getN l = .ok (n, t)) : l = enc n ++ t ∧ n < 4611686018427387904 := by
  cases l with
  | nil => simp [getN] at h
  | cons b r =>
    simp only [getN] at h
    split at h
    · simp at h
    · rename_i hlen
      split at h
      · rename_i hcl
        simp at h
        obtain ⟨hn, ht⟩ := h
        have hb := b.toNat_lt
        have hk : (r.take (2 ^ (b.toNat / 64) - 1)).length = 2 ^ (b.toNat / 64) - 1 := by rw [List.length_take]; omega
        have h1 := num_div (r.take (2 ^ (b.toNat / 64) - 1)) (b.toNat % 64)
        have h2 := be_num (r.take (2 ^ (b.toNat / 64) - 1)) (b.toNat % 64)
        have h3 := num_lt (r.take (2 ^ (b.toNat / 64) - 1)) (b.toNat % 64)
        rw [hk] at h1 h2 h3
        rw [hn] at h1 h2 h3 hcl
        constructor
        · unfold enc
          rw [hcl, h1, h2, ← ht]
          rw [List.cons_append, List.take_append_drop]
          congr 1
          apply UInt8.toNat_inj.1
          rw [UInt8.toNat_ofNat']
          omega
        · have h7 : 2 ^ (b.toNat / 64) - 1 ≤ 7 := by
            have : b.toNat / 64 = 0 ∨ b.toNat / 64 = 1 ∨ b.toNat / 64 = 2 ∨ b.toNat / 64 = 3 := by omega
            rcases this with h | h | h | h <;> rw [h] <;> decide
          have h8 : (b.toNat % 64 + 1) * 256 ^ (2 ^ (b.toNat / 64) - 1) ≤ 64 * 256 ^ 7 := Nat.mul_le_mul (by omega) (Nat.pow_le_pow_right (by decide) h7)
          exact Nat.lt_of_lt_of_le h3 h8
      · simp at h

end Go.Proofs.Ytjajgllkbchapaa
