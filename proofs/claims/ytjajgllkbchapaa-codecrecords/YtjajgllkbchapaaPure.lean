/-
  The plain words of the codec: the class of a number, its bytes, and how bytes are read back.
-/
import Derived.Test.YtjajgllkbchapaaRows
import Derived.Laws.BitsAllLaws
namespace Go.Proofs.Ytjajgllkbchapaa
set_option linter.unusedSimpArgs false
set_option linter.unusedVariables false

/-- The class of a number: its form has 2 ^ cls n bytes. -/
def cls (n : Nat) : Nat := if n < 64 then 0 else if n < 16384 then 1 else if n < 1073741824 then 2 else 3

theorem cls_le (n : Nat) : cls n ≤ 3 := by unfold cls; split <;> (try split) <;> (try split) <;> omega

/-- The k lowest bytes, the highest first. -/
def be : Nat → Nat → List UInt8
  | 0, _ => []
  | k + 1, n => UInt8.ofNat (n / 256 ^ k) :: be k n

theorem be_length (k n : Nat) : (be k n).length = k := by
  induction k with
  | zero => rfl
  | succ k ih => simp [be, ih]

/-- A number's form. -/
def enc (n : Nat) : List UInt8 := UInt8.ofNat (n / 256 ^ (2 ^ cls n - 1) + 64 * cls n) :: be (2 ^ cls n - 1) n

theorem enc_length (n : Nat) : (enc n).length = 2 ^ cls n := by
  have : 1 ≤ 2 ^ cls n := Nat.one_le_two_pow
  simp [enc, be_length]; omega

theorem enc_pos (n : Nat) : 1 ≤ (enc n).length := by simp [enc]

theorem enc_le (n : Nat) : (enc n).length ≤ 8 := by
  rw [enc_length]
  have h := cls_le n
  have : cls n = 0 ∨ cls n = 1 ∨ cls n = 2 ∨ cls n = 3 := by omega
  rcases this with h | h | h | h <;> rw [h] <;> decide

/-- Bytes as a number behind another one. -/
def num (n : Nat) : List UInt8 → Nat
  | [] => n
  | b :: r => num (n * 256 + b.toNat) r

/-- A number read off the head of bytes; or the error. -/
def getN : List UInt8 → Except Int (Nat × List UInt8)
  | [] => .error 20
  | h :: t =>
    let c := h.toNat / 64
    if t.length < 2 ^ c - 1 then .error 20
    else
      let n := num (h.toNat % 64) (t.take (2 ^ c - 1))
      if cls n = c then .ok (n, t.drop (2 ^ c - 1)) else .error 21

def boundF (m : Int) : Int := min (max m 0) 1048576

theorem be_get (n : Nat) : ∀ (L j : Nat), j + 1 ≤ L → (be L n)[L - (j + 1)]? = some (UInt8.ofNat (n / 256 ^ j))
  | 0, j, h => by omega
  | L + 1, j, h => by
    by_cases e : j = L
    · subst e; simp [be]
    · have h2 : L + 1 - (j + 1) = (L - (j + 1)) + 1 := by omega
      rw [h2, be, List.getElem?_cons_succ]
      exact be_get n L j (by omega)

theorem be_take_succ (n L j : Nat) (h : j + 1 ≤ L) : (be L n).take (L - j) = (be L n).take (L - (j + 1)) ++ [UInt8.ofNat (n / 256 ^ j)] := by
  have h2 : L - j = (L - (j + 1)) + 1 := by omega
  rw [h2, List.take_add_one, be_get n L j h]
  rfl

theorem u8_wrap_div (n : Int) (j : Nat) (h : 0 ≤ n) : IntKind.u8.wrap (n / 256 ^ j) = ((UInt8.ofNat (n.toNat / 256 ^ j)).toNat : Int) := by
  obtain ⟨m, rfl⟩ : ∃ m : Nat, n = m := ⟨n.toNat, by omega⟩
  have e : ((m : Int) / 256 ^ j) = ((m / 256 ^ j : Nat) : Int) := by simp
  rw [e]
  simp [IntKind.wrap, IntKind.bits, IntKind.signed, UInt8.toNat_ofNat']

theorem shift_256 (j : Nat) : (2 : Int) ^ (8 * (j : Int)).toNat = 256 ^ j := by
  have : (8 * (j : Int)).toNat = 8 * j := by omega
  rw [this, Int.pow_mul]
  rfl

/-- The head of a number's bytes leaves two bits free. -/
theorem be_head_lt {n : Nat} (h : n < 4611686018427387904) : n / 256 ^ (2 ^ cls n - 1) < 64 := by
  unfold cls
  split
  · simpa using by omega
  · split
    · simpa using by omega
    · split
      · simpa using by omega
      · simpa using by omega

theorem enc_set {n : Nat} (bs : List UInt8) (h : n < 4611686018427387904) (b : UInt8) (hb : (b.toNat : Int) = ((n / 256 ^ (2 ^ cls n - 1) ||| 64 * cls n : Nat) : Int)) :
    (bs ++ be (2 ^ cls n) n).set bs.length b = bs ++ enc n := by
  have h1 : 1 ≤ 2 ^ cls n := Nat.one_le_two_pow
  obtain ⟨k, hk⟩ : ∃ k, 2 ^ cls n = k + 1 := ⟨2 ^ cls n - 1, by omega⟩
  have hlt := be_head_lt h
  have hc := cls_le n
  have hor : (n / 256 ^ (2 ^ cls n - 1) ||| 64 * cls n) = n / 256 ^ (2 ^ cls n - 1) + 64 * cls n := by
    rw [Nat.or_comm, nat_join 6 _ _ (by omega) (by simpa using hlt), Nat.add_comm]
  have e : b = UInt8.ofNat (n / 256 ^ (2 ^ cls n - 1) + 64 * cls n) := by
    apply UInt8.toNat_inj.1
    rw [UInt8.toNat_ofNat', ← hor]
    have : (n / 256 ^ (2 ^ cls n - 1) ||| 64 * cls n) < 2 ^ 8 := by rw [hor]; omega
    omega
  rw [List.set_append_right _ _ (Nat.le_refl _)]
  simp only [enc, Nat.sub_self]
  rw [hk] at e ⊢
  simp [be, e]

end Go.Proofs.Ytjajgllkbchapaa
