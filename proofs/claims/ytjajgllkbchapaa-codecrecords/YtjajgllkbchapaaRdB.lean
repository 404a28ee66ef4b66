/-
  The Reader's number.
-/
import Derived.Test.YtjajgllkbchapaaRdA
namespace Go.Proofs.Ytjajgllkbchapaa
open Go.RowKit
set_option linter.unusedSimpArgs false
set_option linter.unusedVariables false

def gotN (w : World) (r : Nat) (x : Except Int (Nat × List UInt8)) (e : Ending) (w' : World) : Prop :=
  match x with
  | .ok (n, l) => e = .returned (.int .i64 n) ∧ ROk w' r l ∧ w.grownBy w' (some r)
  | .error er => e = .returned (.int .i64 0) ∧ RBad w' r er ∧ w.grownBy w' (some r)

set_option maxHeartbeats 400000 in
theorem readN_empty {w : World} {r : Nat} (h : ROk w r []) :
    Calls Try.prog 55 #[.pointer (some ⟨r, 0, none⟩)] w fun e w' => e = .returned (.int .i64 0) ∧ RBad w' r 20 ∧ w.grownBy w' (some r) := by
  go_enter Try.func55, Try.ntmps55
  go_wp2_with (go_at_call 72; refine (take_short h 1 (by simp)).mono ?_; rintro e w1 ⟨rfl, h1, g1⟩)
  go_ret
  exact ⟨rfl, h1, g1⟩

theorem take_one {w : World} {r : Nat} {b : UInt8} {t : List UInt8} (h : ROk w r (b :: t)) :
    Calls Try.prog 72 #[.pointer (some ⟨r, 0, none⟩), .int .i64 1] w fun e w' => e = .returned (.string ⟨#[b]⟩) ∧ ROk w' r t ∧ w.grownBy w' (some r) := take_ok h 1 (by simp)

set_option maxHeartbeats 400000 in
theorem readN_short {w : World} {r : Nat} {b : UInt8} {t : List UInt8} (h : ROk w r (b :: t)) (C A M : Int) (hC : wrap64 (((ByteArray.mk #[b])[0]'(by simp [ByteArray.size])).toNat / 64 : Int) = C) (g0 : 0 ≤ C) (g3 : C ≤ 3)
    (hA : bits BinOp.and IntKind.u8 ((ByteArray.mk #[b])[0]'(by simp [ByteArray.size])).toNat 63 = A) (a0 : 0 ≤ A) (a63 : A ≤ 63) (hM : wrap64 (wrap64 (2 ^ C.toNat) - 1) = M) (hs : (t.length : Int) < M) :
    Calls Try.prog 55 #[.pointer (some ⟨r, 0, none⟩)] w fun e w' => e = .returned (.int .i64 0) ∧ RBad w' r 20 ∧ w.grownBy w' (some r) := by
  go_enter Try.func55, Try.ntmps55
  go_wp2_with fail
  refine (take_one h).mono ?_
  rintro e w1 ⟨rfl, h1, g1⟩
  go_wp2_with fail
  refine (take_short h1 M hs).mono ?_
  rintro e w2 ⟨rfl, h2, g2⟩
  go_wp2_with fail
  obtain ⟨s, k, h3⟩ := h2
  obtain ⟨c0, c1, c2, cf, hlt⟩ := h3.cells
  go_loop [6, 27] (fun n i => n = .int .i64 A ∧ i = .int .i64 0) (fun _ _ => 0)
  case atStart => exact ⟨rfl, rfl⟩
  case round =>
    obtain ⟨rfl, rfl⟩ := hrel
    go_wp2_with fail
    go_ret
    exact ⟨rfl, ⟨s, k, h3⟩, g1.trans g2⟩

theorem or_i64 (a b : Nat) (ha : a < 4611686018427387904) (hb : b < 256) : bits .or .i64 (a : Int) (b : Int) = ((a ||| b : Nat) : Int) := by
  have hx : a ||| b < 2 ^ 62 := Nat.or_lt_two_pow (by omega) (by omega)
  have h1 : (BitVec.ofInt 64 (a : Int)).toNat = a := by
    rw [BitVec.ofInt_natCast, BitVec.toNat_ofNat]; exact Nat.mod_eq_of_lt (by omega)
  have h2 : (BitVec.ofInt 64 (b : Int)).toNat = b := by
    rw [BitVec.ofInt_natCast, BitVec.toNat_ofNat]; exact Nat.mod_eq_of_lt (by omega)
  show IntKind.i64.wrap ((BitVec.ofInt 64 (a : Int) ||| BitVec.ofInt 64 (b : Int)).toNat : Int) = _
  rw [BitVec.toNat_or, h1, h2]
  simp [IntKind.wrap, IntKind.bits, IntKind.signed]
  omega

theorem or_byte (a : Nat) (b : UInt8) (ha : a < 18014398509481984) : bits .or .i64 (wrap64 ((a : Int) * 256)) (b.toNat : Int) = ((a * 256 + b.toNat : Nat) : Int) := by
  have hb : b.toNat < 256 := b.toNat_lt
  have e : wrap64 ((a : Int) * 256) = ((a * 256 : Nat) : Int) := by unfold wrap64; omega
  rw [e, or_i64 _ _ (by omega) hb, nat_join 8 _ _ (by omega) (by omega)]

theorem step_lt {a b Q : Nat} (ha : a < Q) (hb : b < 256) : a * 256 + b < Q * 256 := by omega

theorem bnd {j : Nat} (h : j ≤ 6) : 64 * 256 ^ j ≤ 18014398509481984 := by
  have : j = 0 ∨ j = 1 ∨ j = 2 ∨ j = 3 ∨ j = 4 ∨ j = 5 ∨ j = 6 := by omega
  rcases this with rfl | rfl | rfl | rfl | rfl | rfl | rfl <;> decide

set_option maxHeartbeats 1000000 in
theorem readN_full {w : World} {r : Nat} {b : UInt8} {t : List UInt8} (h : ROk w r (b :: t)) (C A : Int) (m n : Nat) (hC : wrap64 (((ByteArray.mk #[b])[0]'(by simp [ByteArray.size])).toNat / 64 : Int) = C) (g0 : 0 ≤ C) (g3 : C ≤ 3)
    (hA : bits BinOp.and IntKind.u8 ((ByteArray.mk #[b])[0]'(by simp [ByteArray.size])).toNat 63 = A) (a0 : 0 ≤ A) (a63 : A ≤ 63) (hM : wrap64 (wrap64 (2 ^ C.toNat) - 1) = m) (m7 : m ≤ 7) (hs : m ≤ t.length)
    (HN : Hid (num A.toNat (t.take m) = n)) (X : Except Int (Nat × List UInt8)) (HX : Hid (X = if (cls n : Int) = C then .ok (n, t.drop m) else .error 21)) :
    Calls Try.prog 55 #[.pointer (some ⟨r, 0, none⟩)] w (gotN w r X) := by
  go_enter Try.func55, Try.ntmps55
  go_wp2_with fail
  refine (take_one h).mono ?_
  rintro e w1 ⟨rfl, h1, g1⟩
  go_wp2_with fail
  refine (take_ok h1 m hs).mono ?_
  rintro e w2 ⟨rfl, h2, g2⟩
  obtain ⟨R, hR⟩ : ∃ R, R = ByteArray.mk (t.take m).toArray := ⟨_, rfl⟩
  have HR : Hid (R = ByteArray.mk (t.take m).toArray) := hR
  have hRs : (R.size : Int) = m := by rw [hR]; simp [ByteArray.size]; omega
  rw [← hR]
  have HRl : Hid (R.data.toList = t.take m) := by rw [hR]; rfl
  have HRs : Hid ((R.size : Int) = m) := hRs
  have hR7 : (R.size : Int) ≤ 7 := by omega
  clear hR hRs
  go_wp2_with fail
  go_loop [6, 27] (fun x i => ∃ j a : Nat, j ≤ R.size ∧ i = .int .i64 j ∧ x = .int .i64 a ∧ a < 64 * 256 ^ j ∧ num a (R.data.toList.drop j) = n) (fun _ i => R.size - (intOf i).toNat)
  case atStart => exact ⟨0, A.toNat, by omega, rfl, by congr 1; omega, by omega, by rw [HRl.out]; exact HN.out⟩
  case round =>
    obtain ⟨j, a, hj, rfl, rfl, ha, hn⟩ := hrel
    have Ha : Hid (a < 64 * 256 ^ j) := ha
    have Hn : Hid (num a (R.data.toList.drop j) = n) := hn
    clear ha hn
    by_cases hlt : j < R.size
    · go_wp2_with fail
      go_round
      case rel =>
        have hb := (R[j]).toNat_lt
        have hb64 := bnd (j := j) (by omega)
        have e1 : wrap64 ((R[j]).toNat : Int) = (R[j]).toNat := by unfold wrap64; omega
        have ha := Ha.out
        refine ⟨j + 1, a * 256 + (R[j]).toNat, by omega, by go_num, ?_, ?_, ?_⟩
        · rw [e1, or_byte a R[j] (by omega)]
        · have e3 : 64 * 256 ^ (j + 1) = (64 * 256 ^ j) * 256 := by rw [Nat.pow_succ, Nat.mul_assoc]
          rw [e3]
          exact step_lt ha hb
        · have e2 : R.data.toList.drop j = R[j] :: R.data.toList.drop (j + 1) := List.drop_eq_getElem_cons (by simpa using hlt)
          have := Hn.out
          rw [e2] at this
          exact this
      case measure => simp [intOf]; omega
    · obtain ⟨s, k, h3, hdr⟩ := h2
      obtain ⟨c0, c1, c2, cf, hlt2⟩ := h3.cells
      have han : a = n := by
        have := Hn.out
        rw [List.drop_of_length_le (by rw [Array.length_toList]; exact Nat.le_of_not_lt hlt)] at this
        exact this
      subst han
      have ha : a < 4611686018427387904 := by
        have h7 : 64 * 256 ^ j ≤ 4611686018427387904 := by
          have : 256 ^ j ≤ 256 ^ 7 := Nat.pow_le_pow_right (by decide) (by omega)
          omega
        exact Nat.lt_of_lt_of_le Ha.out h7
      have Hal : Hid (a < 4611686018427387904) := ha
      have hcl := cls_le a
      clear ha
      by_cases hcc : ((cls a : Nat) : Int) = C
      · have HX2 : Hid (X = .ok (a, t.drop m)) := by rw [HX.out, if_pos hcc]; rfl
        subst hcc
        go_wp2_with (go_at_call 101; refine (class_in _ a (cls a : Nat) (by omega) (by have := Hal.out; omega) (by simp [Hid])).mono ?_; rintro e w3 ⟨rfl, hw3⟩; subst hw3)
        go_ret
        rw [HX2.out]
        exact ⟨rfl, ⟨s, k, h3, hdr⟩, g1.trans g2⟩
      · have HX2 : Hid (X = .error 21) := by rw [HX.out, if_neg hcc]; rfl
        have hne : (((cls a : Nat) : Int) != C) = true := by simpa using hcc
        clear hcc
        go_wp2_with (go_at_call 101; refine (class_in _ a (cls a : Nat) (by omega) (by have := Hal.out; omega) (by simp [Hid])).mono ?_; rintro e w3 ⟨rfl, hw3⟩; subst hw3)
        go_ret
        rw [HX2.out]
        exact ⟨rfl, ⟨s, k, h3.fail 21⟩, grown_set (g1.trans g2) _ _⟩

theorem head_facts (b : UInt8) : wrap64 (((ByteArray.mk #[b])[0]'(by simp [ByteArray.size])).toNat / 64 : Int) = ((b.toNat / 64 : Nat) : Int) ∧
    bits BinOp.and IntKind.u8 ((ByteArray.mk #[b])[0]'(by simp [ByteArray.size])).toNat 63 = ((b.toNat % 64 : Nat) : Int) ∧ b.toNat / 64 ≤ 3 ∧
    wrap64 (wrap64 (2 ^ ((b.toNat / 64 : Nat) : Int).toNat) - 1) = ((2 ^ (b.toNat / 64) - 1 : Nat) : Int) ∧ 2 ^ (b.toNat / 64) - 1 ≤ 7 := by
  have hb := b.toNat_lt
  have e0 : (ByteArray.mk #[b])[0]'(by simp [ByteArray.size]) = b := rfl
  rw [e0]
  have h3 : b.toNat / 64 ≤ 3 := by omega
  refine ⟨by unfold wrap64; omega, ?_, h3, ?_, ?_⟩
  · have := u8_and (b.toNat : Int) 63 (by omega) (by omega) (by omega) (by omega)
    rw [this]
    congr 1
    exact Nat.and_two_pow_sub_one_eq_mod (b.toNat) 6
  · have : b.toNat / 64 = 0 ∨ b.toNat / 64 = 1 ∨ b.toNat / 64 = 2 ∨ b.toNat / 64 = 3 := by omega
    rcases this with h | h | h | h <;> rw [h] <;> simp [wrap64]
  · have : b.toNat / 64 = 0 ∨ b.toNat / 64 = 1 ∨ b.toNat / 64 = 2 ∨ b.toNat / 64 = 3 := by omega
    rcases this with h | h | h | h <;> rw [h] <;> decide

/-- The Reader's number, whatever is before it. -/
theorem readN_any {w : World} {r : Nat} {l : List UInt8} (h : ROk w r l) :
    Calls Try.prog 55 #[.pointer (some ⟨r, 0, none⟩)] w (gotN w r (getN l)) := by
  cases l with
  | nil => exact readN_empty h
  | cons b t =>
    obtain ⟨f1, f2, f3, f4, f5⟩ := head_facts b
    by_cases hs : t.length < 2 ^ (b.toNat / 64) - 1
    · have e : getN (b :: t) = .error 20 := by simp [getN, hs]
      rw [e]
      exact readN_short h _ _ _ f1 (by omega) (by omega) f2 (by omega) (by omega) f4 (by omega)
    · refine readN_full h _ _ _ (num (b.toNat % 64) (t.take (2 ^ (b.toNat / 64) - 1))) f1 (by omega) (by omega) f2 (by omega) (by omega) f4 f5 (by omega) rfl _ ?_
      show getN (b :: t) = _
      simp only [getN, if_neg hs]
      congr 1
      apply propext
      constructor <;> intro hh <;> omega

end Go.Proofs.Ytjajgllkbchapaa
