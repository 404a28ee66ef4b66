/-
  Hashes of trees as terms: what the hash of a place is made of, that it tells the tree below, and the chain of parent hashes.
-/
import Derived.Test.YtcfmagmhnemhaaaDoorDA
import Derived.Lib.ItoaNum
import Derived.Lib.ItoaLen
namespace Go.Proofs.YtcfmagmhnemhaaaDoor
open Go.RowKit
set_option linter.unusedSimpArgs false
set_option linter.unusedVariables false

def numT (n : Int) : Tm := .text ⟨(Lib.itoa n).toArray⟩

theorem ofNat_inj {a b : Nat} (ha : a < 256) (hb : b < 256) (h : UInt8.ofNat a = UInt8.ofNat b) : a = b := by
  have := congrArg UInt8.toNat h
  simp only [UInt8.toNat_ofNat'] at this
  omega

theorem decDigits_ne (n : Nat) : Lib.decDigits n ≠ [] := by
  rw [Lib.decDigits]; split <;> simp

theorem decDigits_inj : ∀ (n m : Nat), Lib.decDigits n = Lib.decDigits m → n = m := by
  intro n
  induction n using Nat.strongRecOn with
  | _ n ih =>
    intro m h
    rw [Lib.decDigits, Lib.decDigits.eq_1 m] at h
    by_cases hn : n < 10 <;> by_cases hm : m < 10
    · rw [dif_pos hn, dif_pos hm] at h
      simp only [List.cons.injEq, and_true] at h
      have := ofNat_inj (by omega) (by omega) h
      omega
    · rw [dif_pos hn, dif_neg hm] at h
      have h2 := congrArg List.length h
      have h3 := List.length_pos_iff.2 (decDigits_ne (m / 10))
      simp only [List.length_cons, List.length_append, List.length_nil] at h2
      omega
    · rw [dif_neg hn, dif_pos hm] at h
      have h2 := congrArg List.length h
      have h3 := List.length_pos_iff.2 (decDigits_ne (n / 10))
      simp only [List.length_cons, List.length_append, List.length_nil] at h2
      omega
    · rw [dif_neg hn, dif_neg hm] at h
      have h2 := (List.append_inj' h rfl)
      have h3 := ih (n / 10) (by omega) (m / 10) h2.1
      have h4 := h2.2
      simp only [List.cons.injEq, and_true] at h4
      have := ofNat_inj (by omega) (by omega) h4
      omega

theorem decDigits_low (n : Nat) : ∀ d ∈ Lib.decDigits n, 48 ≤ d.toNat := by
  induction n using Nat.strongRecOn with
  | _ n ih =>
    intro d hd
    rw [Lib.decDigits] at hd
    split at hd
    · simp only [List.mem_singleton] at hd; subst hd
      simp only [UInt8.toNat_ofNat']
      omega
    · simp only [List.mem_append, List.mem_singleton] at hd
      rcases hd with hd | rfl
      · exact ih (n / 10) (by omega) d hd
      · simp only [UInt8.toNat_ofNat']
        omega

theorem dash_not (n m : Nat) : (45 :: Lib.decDigits n) ≠ Lib.decDigits m := by
  intro h
  have := decDigits_low m 45 (by rw [← h]; simp)
  revert this
  decide

theorem itoa_inj {n m : Int} (h : Lib.itoa n = Lib.itoa m) : n = m := by
  unfold Lib.itoa at h
  by_cases hn : n < 0 <;> by_cases hm : m < 0
  · rw [if_pos hn, if_pos hm] at h
    simp only [List.cons.injEq, true_and] at h
    have := decDigits_inj _ _ h
    omega
  · rw [if_pos hn, if_neg hm] at h
    exact absurd h (dash_not _ _)
  · rw [if_neg hn, if_pos hm] at h
    exact absurd h.symm (dash_not _ _)
  · rw [if_neg hn, if_neg hm] at h
    have := decDigits_inj _ _ h
    omega

theorem numT_inj {n m : Int} (h : numT n = numT m) : n = m := by
  simp only [numT, Tm.text.injEq, ByteArray.mk.injEq] at h
  exact itoa_inj (by simpa using congrArg Array.toList h)

end Go.Proofs.YtcfmagmhnemhaaaDoor
