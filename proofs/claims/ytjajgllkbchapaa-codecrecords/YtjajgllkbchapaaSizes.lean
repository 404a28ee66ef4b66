/-
  CodecSizes: its walk.
-/
import Derived.Test.YtjajgllkbchapaaAnchor
import Derived.Test.YtjajgllkbchapaaPureB
namespace Go.Proofs.Ytjajgllkbchapaa
open Go.RowKit
set_option linter.unusedSimpArgs false
set_option linter.unusedVariables false

theorem enc_dec (m : Nat) (hm : m < 4611686018427387904) : whole (getN (ByteArray.mk (enc m).toArray).data.toList) = .ok m := by
  have := getN_enc m hm []
  rw [List.append_nil] at this
  show whole (getN (enc m)) = _
  rw [this]
  rfl

set_option maxRecDepth 100000 in
set_option maxHeartbeats 1000000 in
theorem sizes_bad (n : Int) (hn : n < 0 ∨ 4611686018427387904 ≤ n) {w : World} : Calls Try.prog 7 #[.int .i64 n] w fun e w' => e = .returned (.bool true) ∧ Below w.heap.size w w' := by
  have hp : encRes (putN n) = .tuple #[.string ⟨#[]⟩, .int .i64 22] := by
    have : okN n = false := by simp [okN]; omega
    simp [putN, this, encRes]
  have Hp : Hid (encRes (putN n) = .tuple #[.string ⟨#[]⟩, .int .i64 22]) := hp
  clear hp
  rcases hn with hn | hn
  · have hd : decide (n < 0) = true := by simpa using hn
    go_enter Try.func7, Try.ntmps7
    go_wp2_with fail
    refine (anchor_any _).mono ?_
    rintro e w1 ⟨rfl, b1⟩
    go_wp2_with fail
    refine (number_codec _).mono ?_
    rintro e w2 ⟨rfl, b2⟩
    go_wp2_with fail
    refine (encodeN _ _ _).mono ?_
    rintro e w3 ⟨he, b3⟩
    rw [Hp.out] at he
    subst he
    go_wp2_with fail
    go_ret
    exact ⟨rfl, on (on b1 b2) b3⟩
  · have hd : ¬ n < 0 := by omega
    have hd2 : ¬ n < 4611686018427387904 := by omega
    go_enter Try.func7, Try.ntmps7
    go_wp2_with fail
    refine (anchor_any _).mono ?_
    rintro e w1 ⟨rfl, b1⟩
    go_wp2_with fail
    refine (number_codec _).mono ?_
    rintro e w2 ⟨rfl, b2⟩
    go_wp2_with fail
    refine (encodeN _ _ _).mono ?_
    rintro e w3 ⟨he, b3⟩
    rw [Hp.out] at he
    subst he
    go_wp2_with fail
    go_ret
    exact ⟨rfl, on (on b1 b2) b3⟩

set_option maxRecDepth 100000 in
set_option maxHeartbeats 1000000 in
theorem sizes_ok (n : Int) (h0 : 0 ≤ n) (h1 : n < 4611686018427387904) {w : World} : Calls Try.prog 7 #[.int .i64 n] w fun e w' => e = .returned (.bool true) ∧ Below w.heap.size w w' := by
  have hk : okN n = true := by simp [okN]; omega
  obtain ⟨S, hS⟩ : ∃ S, S = ByteArray.mk (enc n.toNat).toArray := ⟨_, rfl⟩
  have Hp : Hid (encRes (putN n) = .tuple #[.string S, .int .i64 0]) := by simp [Hid, putN, hk, encRes, hS]
  have Hd : Hid (whole (getN S.data.toList) = .ok n.toNat) := by rw [hS]; exact enc_dec n.toNat (by omega)
  have hsz : S.size = 2 ^ cls n.toNat := by rw [hS, ← enc_length]; rfl
  have hcl := cls_le n.toNat
  have Hsz : Hid ((S.size : Int) ≤ 1099511627776) := by
    show (S.size : Int) ≤ _
    have := enc_le n.toNat
    rw [enc_length] at this
    omega
  have hd : ¬ n < 0 := by omega
  have hd2 : n < 4611686018427387904 := h1
  clear hS hk hcl
  by_cases c0 : n < 64
  · have q1 : n < 1073741824 := by omega
    have q2 : n < 16384 := by omega
    have hsz' : S.size = 1 := by rw [hsz, cls_0 (by omega)]
    have hsz2 : (S.size : Int) = 1 := by omega
    clear hsz hsz'
    have hdd : decide (n < 0) = false := by simp; omega
    have hdd2 : decide (4611686018427387904 ≤ n) = false := by simp; omega
    go_enter Try.func7, Try.ntmps7
    go_wp2_with fail
    refine (anchor_any _).mono ?_
    rintro e w1 ⟨rfl, b1⟩
    go_wp2_with fail
    refine (number_codec _).mono ?_
    rintro e w2 ⟨rfl, b2⟩
    go_wp2_with fail
    refine (encodeN _ _ _).mono ?_
    rintro e w3 ⟨he, b3⟩
    rw [Hp.out] at he
    subst he
    go_wp2_with fail
    refine (number_codec _).mono ?_
    rintro e w4 ⟨rfl, b4⟩
    go_wp2_with fail
    refine (decodeN _ _ _ Hsz.out).mono ?_
    intro e w5 hd5
    unfold decoded at hd5
    rw [Hd.out] at hd5
    obtain ⟨⟨v, rfl, hv⟩, b5⟩ := hd5
    have hv' : v = .int .i64 n := by rw [hv]; congr 1; omega
    subst hv'
    go_wp2_with fail
    go_ret
    exact ⟨rfl, on (on (on (on b1 b2) b3) b4) b5⟩
  by_cases c1 : n < 16384
  · have q1 : n < 1073741824 := by omega
    have hsz' : S.size = 2 := by rw [hsz, cls_1 (by omega) (by omega)]
    have hsz2 : (S.size : Int) = 2 := by omega
    clear hsz hsz'
    have hdd : decide (n < 0) = false := by simp; omega
    have hdd2 : decide (4611686018427387904 ≤ n) = false := by simp; omega
    go_enter Try.func7, Try.ntmps7
    go_wp2_with fail
    refine (anchor_any _).mono ?_
    rintro e w1 ⟨rfl, b1⟩
    go_wp2_with fail
    refine (number_codec _).mono ?_
    rintro e w2 ⟨rfl, b2⟩
    go_wp2_with fail
    refine (encodeN _ _ _).mono ?_
    rintro e w3 ⟨he, b3⟩
    rw [Hp.out] at he
    subst he
    go_wp2_with fail
    refine (number_codec _).mono ?_
    rintro e w4 ⟨rfl, b4⟩
    go_wp2_with fail
    refine (decodeN _ _ _ Hsz.out).mono ?_
    intro e w5 hd5
    unfold decoded at hd5
    rw [Hd.out] at hd5
    obtain ⟨⟨v, rfl, hv⟩, b5⟩ := hd5
    have hv' : v = .int .i64 n := by rw [hv]; congr 1; omega
    subst hv'
    go_wp2_with fail
    go_ret
    exact ⟨rfl, on (on (on (on b1 b2) b3) b4) b5⟩
  by_cases c2 : n < 1073741824
  · have q0 : ¬ n < 64 := c0
    have hsz' : S.size = 4 := by rw [hsz, cls_2 (by omega) (by omega)]
    have hsz2 : (S.size : Int) = 4 := by omega
    clear hsz hsz'
    have hdd : decide (n < 0) = false := by simp; omega
    have hdd2 : decide (4611686018427387904 ≤ n) = false := by simp; omega
    go_enter Try.func7, Try.ntmps7
    go_wp2_with fail
    refine (anchor_any _).mono ?_
    rintro e w1 ⟨rfl, b1⟩
    go_wp2_with fail
    refine (number_codec _).mono ?_
    rintro e w2 ⟨rfl, b2⟩
    go_wp2_with fail
    refine (encodeN _ _ _).mono ?_
    rintro e w3 ⟨he, b3⟩
    rw [Hp.out] at he
    subst he
    go_wp2_with fail
    refine (number_codec _).mono ?_
    rintro e w4 ⟨rfl, b4⟩
    go_wp2_with fail
    refine (decodeN _ _ _ Hsz.out).mono ?_
    intro e w5 hd5
    unfold decoded at hd5
    rw [Hd.out] at hd5
    obtain ⟨⟨v, rfl, hv⟩, b5⟩ := hd5
    have hv' : v = .int .i64 n := by rw [hv]; congr 1; omega
    subst hv'
    go_wp2_with fail
    go_ret
    exact ⟨rfl, on (on (on (on b1 b2) b3) b4) b5⟩
  · have q0 : ¬ n < 64 := c0
    have hsz' : S.size = 8 := by rw [hsz, cls_3 (by omega)]
    have hsz2 : (S.size : Int) = 8 := by omega
    clear hsz hsz'
    have hdd : decide (n < 0) = false := by simp; omega
    have hdd2 : decide (4611686018427387904 ≤ n) = false := by simp; omega
    go_enter Try.func7, Try.ntmps7
    go_wp2_with fail
    refine (anchor_any _).mono ?_
    rintro e w1 ⟨rfl, b1⟩
    go_wp2_with fail
    refine (number_codec _).mono ?_
    rintro e w2 ⟨rfl, b2⟩
    go_wp2_with fail
    refine (encodeN _ _ _).mono ?_
    rintro e w3 ⟨he, b3⟩
    rw [Hp.out] at he
    subst he
    go_wp2_with fail
    refine (number_codec _).mono ?_
    rintro e w4 ⟨rfl, b4⟩
    go_wp2_with fail
    refine (decodeN _ _ _ Hsz.out).mono ?_
    intro e w5 hd5
    unfold decoded at hd5
    rw [Hd.out] at hd5
    obtain ⟨⟨v, rfl, hv⟩, b5⟩ := hd5
    have hv' : v = .int .i64 n := by rw [hv]; congr 1; omega
    subst hv'
    go_wp2_with fail
    go_ret
    exact ⟨rfl, on (on (on (on b1 b2) b3) b4) b5⟩

theorem sizes_walk (n : Int) (hn : (Lit.int .i64 n).wf = true) {w : World} : Calls Try.prog 7 #[.int .i64 n] w fun e w' => e = .returned (.bool true) ∧ Below w.heap.size w w' := by
  by_cases h : n < 0 ∨ 4611686018427387904 ≤ n
  · exact sizes_bad n h
  · exact sizes_ok n (by omega) (by omega)

end Go.Proofs.Ytjajgllkbchapaa
