/-
  The arithmetic of trees in an array, as functions on numbers; facts of the few trees that there are, by reckoning each.
-/
import Derived.Lib.TrailingZeros
namespace Go.Proofs.YtdnopkpoepdihaaDoor
set_option linter.unusedVariables false

def sizes : List Int := [1, 2, 4, 8, 16, 32]
def rightB (n : Int) : Bool := n == 1 || n == 2 || n == 4 || n == 8 || n == 16 || n == 32
def inB (x n : Int) : Bool := rightB n && decide (0 ≤ x) && decide (x < 2 * n - 1)
def leafB (i n : Int) : Bool := rightB n && decide (0 ≤ i) && decide (i < n)

/-- How many ones a number ends with. -/
def levN : Nat → Nat → Nat
  | 0, _ => 0
  | f + 1, x => if x % 2 = 1 then levN f (x / 2) + 1 else 0
def lev (x : Int) : Int := (levN 64 x.toNat : Nat)

def bitN (x : Int) : Nat := 2 ^ levN 64 x.toNat
def parI (x : Int) : Int := (((x.toNat ||| bitN x) - (if (x.toNat / (2 * bitN x)) % 2 = 1 then 2 * bitN x else 0) : Nat) : Int)
def sibI (x : Int) : Int := ((x.toNat ^^^ (2 * bitN x) : Nat) : Int)

/-- From a place up to the root. -/
def upF : Nat → Int → Int → List Int
  | 0, x, _ => [x]
  | f + 1, x, n => if x == n - 1 then [x] else x :: upF f (parI x) n
def upOk : Nat → Int → Int → Bool
  | 0, x, n => x == n - 1
  | f + 1, x, n => x == n - 1 || upOk f (parI x) n
def up (x n : Int) : List Int := upF 6 x n

def pathI (x n : Int) : List Int := (up x n).filter fun y => y != x
def copathI (x n : Int) : List Int := ((up x n).filter fun y => y != n - 1).map sibI
def underB (x y n : Int) : Bool := inB x n && inB y n && (up x n).contains y
def commonI (i j n : Int) : Int := ((up (2 * i) n).find? fun y => underB (2 * j) y n).getD (n - 1)

theorem rightB_mem {n : Int} (h : rightB n = true) : n ∈ sizes := by
  simp [rightB] at h; simp [sizes]; omega

theorem inB_right {x n : Int} (h : inB x n = true) : rightB n = true := by
  simp [inB] at h; exact h.1.1
theorem inB_bounds {x n : Int} (h : inB x n = true) : 0 ≤ x ∧ x < 2 * n - 1 := by
  simp [inB] at h; exact ⟨h.1.2, h.2⟩
theorem rightB_bounds {n : Int} (h : rightB n = true) : 1 ≤ n ∧ n ≤ 32 := by
  simp [rightB] at h; omega
theorem inB_lt {x n : Int} (h : inB x n = true) : 0 ≤ x ∧ x < 63 := by
  have h1 := inB_bounds h; have h2 := rightB_bounds (inB_right h); omega
theorem leafB_in {i n : Int} (h : leafB i n = true) : inB (2 * i) n = true := by
  simp [leafB] at h; simp [inB, h.1.1]; omega

theorem forall_lt (k : Nat) (P : Int → Bool) (h : ((List.range k).all fun x => P (x : Int)) = true) (x : Int) (h0 : 0 ≤ x) (h1 : x < k) : P x = true := by
  rw [List.all_eq_true] at h
  have := h x.toNat (List.mem_range.2 (by omega))
  rwa [Int.toNat_of_nonneg h0] at this

theorem forall_in (P : Int → Int → Bool) (h : (sizes.all fun n => (List.range 63).all fun x => !inB (x : Int) n || P (x : Int) n) = true) (x n : Int) (hx : inB x n = true) : P x n = true := by
  rw [List.all_eq_true] at h
  have h1 := h n (rightB_mem (inB_right hx))
  have h2 := forall_lt 63 (fun x => !inB x n || P x n) h1 x (inB_lt hx).1 (inB_lt hx).2
  simpa [hx] using h2

theorem up_ok {x n : Int} (h : inB x n = true) : upOk 6 x n = true := forall_in (fun x n => upOk 6 x n) (by decide +kernel) x n h
theorem par_in {x n : Int} (h : inB x n = true) (hr : (x == n - 1) = false) : inB (parI x) n = true := by
  have := forall_in (fun x n => x == n - 1 || inB (parI x) n) (by decide +kernel) x n h
  simpa [hr] using this
theorem up_in {x n : Int} (h : inB x n = true) {y : Int} (hy : y ∈ up x n) : inB y n = true := by
  have := forall_in (fun x n => (up x n).all fun y => inB y n) (by decide +kernel) x n h
  exact List.all_eq_true.1 this y hy
theorem up_len (f : Nat) : ∀ x n : Int, (upF f x n).length ≤ f + 1 := by
  induction f with
  | zero => intro x n; simp [upF]
  | succ f ih => intro x n; unfold upF; split <;> simp; have := ih (parI x) n; omega

/-- The level by the lowest zero bit. -/
theorem ctzFrom_lev (f : Nat) : ∀ (k x : Nat), f ≤ k → x < 2 ^ k → Lib.ctzFrom f (2 ^ k - 1 - x) = levN f x := by
  induction f with
  | zero => intro k x _ _; rfl
  | succ f ih =>
    intro k x hk hx
    obtain ⟨k, rfl⟩ : ∃ j, k = j + 1 := ⟨k - 1, by omega⟩
    have hp : 2 ^ (k + 1) = 2 * 2 ^ k := by rw [Nat.pow_succ]; omega
    have h0 : 0 < 2 ^ k := Nat.pow_pos (by decide)
    unfold Lib.ctzFrom levN
    by_cases hx1 : x % 2 = 1
    · rw [if_neg (by omega), if_pos hx1]
      have e : (2 ^ (k + 1) - 1 - x) / 2 = 2 ^ k - 1 - x / 2 := by omega
      rw [e, ih k (x / 2) (by omega) (by omega)]; omega
    · rw [if_pos (by omega), if_neg hx1]

theorem ctz_lev (x : Nat) (hx : x < 9223372036854775808) : Lib.ctz 64 (18446744073709551615 - x) = levN 64 x := by
  have e : Lib.ctz 64 (18446744073709551615 - x) = Lib.ctzFrom 64 (18446744073709551615 - x) := by
    unfold Lib.ctz; rw [if_neg (by omega)]
  rw [e]
  exact ctzFrom_lev 64 64 x (Nat.le_refl _) (by omega)

end Go.Proofs.YtdnopkpoepdihaaDoor
