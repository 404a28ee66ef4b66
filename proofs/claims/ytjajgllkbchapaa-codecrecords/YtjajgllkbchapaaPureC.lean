/-
  Of two numbers the greater one's bytes are the greater ones.
-/
import Derived.Test.YtjajgllkbchapaaPureB
namespace Go.Proofs.Ytjajgllkbchapaa
set_option linter.unusedSimpArgs false
set_option linter.unusedVariables false

theorem div_lt_imp {m n Q : Nat} (hQ : 0 < Q) (h : m / Q < n / Q) : m < n := by
  rcases Nat.lt_or_ge m n with h1 | h1
  · exact h1
  · have := Nat.div_le_div_right (c := Q) h1
    omega

theorem byte_lt (p q : Nat) : (UInt8.ofNat p < UInt8.ofNat q) ↔ p % 256 < q % 256 := by
  rw [UInt8.lt_iff_toNat_lt, UInt8.toNat_ofNat', UInt8.toNat_ofNat']

theorem byte_eq (p q : Nat) : (UInt8.ofNat p == UInt8.ofNat q) = decide (p % 256 = q % 256) := by
  rw [Bool.eq_iff_iff]
  simp only [beq_iff_eq, decide_eq_true_eq]
  rw [← UInt8.toNat_inj, UInt8.toNat_ofNat', UInt8.toNat_ofNat']

theorem less_be : ∀ (k m n : Nat), m / 256 ^ k = n / 256 ^ k → Op.bytesLess (be k m) (be k n) = decide (m < n)
  | 0, m, n, h => by
    simp at h
    simp [be, Op.bytesLess, h]
  | k + 1, m, n, h => by
    have hQ : 0 < 256 ^ k := Nat.pow_pos (by decide)
    rw [Nat.pow_succ, ← Nat.div_div_eq_div_mul, ← Nat.div_div_eq_div_mul] at h
    simp only [be, Op.bytesLess]
    rw [byte_eq, Bool.eq_iff_iff]
    simp only [Bool.or_eq_true, Bool.and_eq_true, decide_eq_true_eq, byte_lt]
    rcases Nat.lt_trichotomy (m / 256 ^ k) (n / 256 ^ k) with h1 | h1 | h1
    · have := div_lt_imp hQ h1
      constructor
      · intro _; exact this
      · intro _; left; omega
    · have ih := less_be k m n h1
      rw [ih]
      simp only [decide_eq_true_eq, h1]
      constructor
      · rintro (h2 | h2)
        · omega
        · exact h2.2
      · intro h2; exact Or.inr ⟨trivial, h2⟩
    · have := div_lt_imp hQ h1
      constructor
      · rintro (h2 | h2)
        · omega
        · omega
      · intro h2; omega

theorem cls_mono {m n : Nat} (h : cls m < cls n) : m < n := by
  unfold cls at h
  repeat' split at h
  all_goals omega

theorem less_enc {m n : Nat} (hm : m < 4611686018427387904) (hn : n < 4611686018427387904) : Op.bytesLess (enc m) (enc n) = decide (m < n) := by
  have pm := be_head_lt hm
  have pn := be_head_lt hn
  have cm := cls_le m
  have cn := cls_le n
  unfold enc
  simp only [Op.bytesLess]
  rw [byte_eq, Bool.eq_iff_iff]
  simp only [Bool.or_eq_true, Bool.and_eq_true, decide_eq_true_eq, byte_lt]
  rcases Nat.lt_trichotomy (cls m) (cls n) with h1 | h1 | h1
  · have := cls_mono h1
    constructor
    · intro _; exact this
    · intro _
      left
      generalize m / 256 ^ (2 ^ cls m - 1) = p at *
      generalize n / 256 ^ (2 ^ cls n - 1) = q at *
      omega
  · rw [h1] at pm ⊢
    have hQ : 0 < 256 ^ (2 ^ cls n - 1) := Nat.pow_pos (by decide)
    rcases Nat.lt_trichotomy (m / 256 ^ (2 ^ cls n - 1)) (n / 256 ^ (2 ^ cls n - 1)) with h2 | h2 | h2
    · have := div_lt_imp hQ h2
      constructor
      · intro _; exact this
      · intro _
        left
        generalize m / 256 ^ (2 ^ cls n - 1) = p at *
        generalize n / 256 ^ (2 ^ cls n - 1) = q at *
        omega
    · rw [less_be _ m n h2, h2]
      simp
    · have := div_lt_imp hQ h2
      constructor
      · rintro (h3 | h3)
        · exfalso
          generalize m / 256 ^ (2 ^ cls n - 1) = p at *
          generalize n / 256 ^ (2 ^ cls n - 1) = q at *
          omega
        · exfalso
          have h4 := h3.1
          generalize m / 256 ^ (2 ^ cls n - 1) = p at *
          generalize n / 256 ^ (2 ^ cls n - 1) = q at *
          omega
      · intro h3; omega
  · have := cls_mono h1
    constructor
    · rintro (h3 | h3)
      · exfalso
        generalize m / 256 ^ (2 ^ cls m - 1) = p at *
        generalize n / 256 ^ (2 ^ cls n - 1) = q at *
        omega
      · exfalso
        have h4 := h3.1
        generalize m / 256 ^ (2 ^ cls m - 1) = p at *
        generalize n / 256 ^ (2 ^ cls n - 1) = q at *
        omega
    · intro h3; omega

theorem enc_inj {m n : Nat} (hm : m < 4611686018427387904) (hn : n < 4611686018427387904) (h : enc m = enc n) : m = n := by
  have h1 := getN_enc m hm []
  have h2 := getN_enc n hn []
  rw [h, h2] at h1
  simp at h1
  exact h1.symm

theorem enc_beq {m n : Nat} (hm : m < 4611686018427387904) (hn : n < 4611686018427387904) : (enc m == enc n) = decide (m = n) := by
  rw [Bool.eq_iff_iff]
  simp only [beq_iff_eq, decide_eq_true_eq]
  exact ⟨enc_inj hm hn, fun e => by rw [e]⟩

end Go.Proofs.Ytjajgllkbchapaa
