/-
  The document's number out of bytes: Get.
-/
import Derived.Test.YtjajgllkbchapaaNums
namespace Go.Proofs.Ytjajgllkbchapaa
open Go.RowKit
set_option linter.unusedSimpArgs false
set_option linter.unusedVariables false

theorem cls_ge {n c : Nat} (h : cls n = c) : (c = 1 → 64 ≤ n) ∧ (c = 2 → 16384 ≤ n) ∧ (c = 3 → 1073741824 ≤ n) := by
  unfold cls at h
  split at h
  · omega
  · split at h
    · omega
    · split at h
      · omega
      · omega

set_option maxHeartbeats 400000 in
theorem refGet_end {w : World} (s : ByteArray) (k : Nat) (hk : ¬ (k : Int) < s.size) :
    Calls Try.prog 20 #[.string s, .int .i64 k] w fun e w' => e = .returned (.tuple #[.int .i64 0, .int .i64 k, .int .i64 20]) ∧ w' = w := by
  go_enter Try.func20, Try.ntmps20
  go_wp2_with fail
  go_ret3
  exact ⟨rfl, rfl⟩

set_option maxRecDepth 100000 in
set_option maxHeartbeats 2000000 in
theorem refGet_short0 {w : World} (s : ByteArray) (k : Nat) (hk : k < s.size) (hs : (s.size : Int) ≤ 1099511627776) (x : Int) (hx : (s[k].toNat : Int) = x) (x0 : 0 ≤ x) (x1 : x ≤ 255) (hc : x / 64 = 0) (hsh : (s.size : Int) < k + 1) :
    Calls Try.prog 20 #[.string s, .int .i64 k] w fun e w' => e = .returned (.tuple #[.int .i64 0, .int .i64 k, .int .i64 20]) ∧ w' = w := by
  have hk' : (k : Int) < s.size := by omega
  exfalso; omega

set_option maxRecDepth 100000 in
set_option maxHeartbeats 4000000 in
theorem refGet_full0 {w : World} (s : ByteArray) (k : Nat) (hk : k < s.size) (hs : (s.size : Int) ≤ 1099511627776) (x : Int) (hx : (s[k].toNat : Int) = x) (x0 : 0 ≤ x) (x1 : x ≤ 255) (hc : x / 64 = 0) (hsh : (k : Int) + 1 ≤ s.size) (n : Nat) (HN : Hid (num (x % 64).toNat ((s.data.toList.drop (k + 1)).take 0) = n)) (t : Bool) (HT : Hid ((cls n == 0) = t)) :
    Calls Try.prog 20 #[.string s, .int .i64 k] w fun e w' => e = .returned (.tuple #[.int .i64 (if t then (n : Int) else 0), .int .i64 (if t then (k : Int) + 1 else k), .int .i64 (if t then 0 else 21)]) ∧ w' = w := by
  have hk' : (k : Int) < s.size := by omega
  obtain ⟨r1, hr1⟩ : ∃ r1 : Int, r1 = if t then (n : Int) else 0 := ⟨_, rfl⟩
  obtain ⟨r2, hr2⟩ : ∃ r2 : Int, r2 = if t then (k : Int) + 1 else k := ⟨_, rfl⟩
  obtain ⟨r3, hr3⟩ : ∃ r3 : Int, r3 = if t then (0 : Int) else 21 := ⟨_, rfl⟩
  have R1 : Hid (r1 = if t then (n : Int) else 0) := hr1
  have R2 : Hid (r2 = if t then (k : Int) + 1 else k) := hr2
  have R3 : Hid (r3 = if t then (0 : Int) else 21) := hr3
  rw [← hr1, ← hr2, ← hr3]
  clear hr1 hr2 hr3
  have hl2 : (s.data.toList.drop (k + 1)).length = s.size - (k + 1) := by rw [List.length_drop]; rfl
  have HL2 : Hid ((s.data.toList.drop (k + 1)).length = s.size - (k + 1)) := hl2
  clear hl2
  go_enter Try.func20, Try.ntmps20
  go_wp2_with fail
  go_loop [7, 8] (fun len i => ∃ j : Nat, j ≤ 0 ∧ i = .int .i64 j ∧ len = .int .i64 (2 ^ (0 - j))) (fun _ i => (intOf i).toNat)
  case atStart => exact ⟨0, Nat.le_refl _, by rw [hc]; rfl, rfl⟩
  case round =>
    obtain ⟨j, hj, rfl, rfl⟩ := hrel
    have hjj : j = 0 := by omega
    subst hjj
    · go_wp2_with fail
      go_loop [9, 10] (fun a i => ∃ (j m : Nat), 1 ≤ j ∧ j ≤ 1 ∧ i = .int .i64 j ∧ a = .int .i64 m ∧ m < 64 * 256 ^ (j - 1) ∧ num m (((s.data.toList.drop (k + 1)).take 0).drop (j - 1)) = n) (fun _ i => 1 - (intOf i).toNat)
      case atStart => exact ⟨1, (x % 64).toNat, Nat.le_refl _, by decide, rfl, by congr 1; omega, by omega, HN.out⟩
      case round =>
        obtain ⟨i, m, hi1, hiL, rfl, rfl, hm, hnum⟩ := hrel
        have Hm : Hid (m < 64 * 256 ^ (i - 1)) := hm
        have Hnum : Hid (num m (((s.data.toList.drop (k + 1)).take 0).drop (i - 1)) = n) := hnum
        clear hm hnum
        by_cases hil : i < 1
        · exfalso; omega
        · have hmn : m = n := by
            have hT := Hnum.out
            rw [List.drop_of_length_le (by rw [List.length_take, HL2.out]; omega)] at hT
            exact hT
          have hiL' : i = 1 := by omega
          subst hmn hiL'
          have hmlt : m < 64 := Hm.out
          clear Hm Hnum HN HL2
          have ht : t = true := by rw [← HT.out, cls_0 hmlt]; rfl
          clear HT
          go_wp2_with fail
          all_goals first | (exfalso; omega) | skip
          all_goals go_ret3
          all_goals rw [R1.out, R2.out, R3.out, ht]
          all_goals exact ⟨rfl, rfl⟩


set_option maxRecDepth 100000 in
set_option maxHeartbeats 2000000 in
theorem refGet_short1 {w : World} (s : ByteArray) (k : Nat) (hk : k < s.size) (hs : (s.size : Int) ≤ 1099511627776) (x : Int) (hx : (s[k].toNat : Int) = x) (x0 : 0 ≤ x) (x1 : x ≤ 255) (hc : x / 64 = 1) (hsh : (s.size : Int) < k + 2) :
    Calls Try.prog 20 #[.string s, .int .i64 k] w fun e w' => e = .returned (.tuple #[.int .i64 0, .int .i64 k, .int .i64 20]) ∧ w' = w := by
  have hk' : (k : Int) < s.size := by omega
  go_enter Try.func20, Try.ntmps20
  go_wp2_with fail
  go_loop [7, 8] (fun len i => ∃ j : Nat, j ≤ 1 ∧ i = .int .i64 j ∧ len = .int .i64 (2 ^ (1 - j))) (fun _ i => (intOf i).toNat)
  case atStart => exact ⟨1, Nat.le_refl _, by rw [hc]; rfl, rfl⟩
  case round =>
    obtain ⟨j, hj, rfl, rfl⟩ := hrel
    have hjj : j = 0 ∨ j = 1 := by omega
    rcases hjj with rfl | rfl
    · go_wp2_with fail
      go_ret3
      exact ⟨rfl, rfl⟩
    · go_wp2_with fail
      go_round
      case rel => exact ⟨0, by omega, rfl, rfl⟩
      case measure => simp [intOf]

set_option maxRecDepth 100000 in
set_option maxHeartbeats 4000000 in
theorem refGet_full1 {w : World} (s : ByteArray) (k : Nat) (hk : k < s.size) (hs : (s.size : Int) ≤ 1099511627776) (x : Int) (hx : (s[k].toNat : Int) = x) (x0 : 0 ≤ x) (x1 : x ≤ 255) (hc : x / 64 = 1) (hsh : (k : Int) + 2 ≤ s.size) (n : Nat) (HN : Hid (num (x % 64).toNat ((s.data.toList.drop (k + 1)).take 1) = n)) (t : Bool) (HT : Hid ((cls n == 1) = t)) :
    Calls Try.prog 20 #[.string s, .int .i64 k] w fun e w' => e = .returned (.tuple #[.int .i64 (if t then (n : Int) else 0), .int .i64 (if t then (k : Int) + 2 else k), .int .i64 (if t then 0 else 21)]) ∧ w' = w := by
  have hk' : (k : Int) < s.size := by omega
  obtain ⟨r1, hr1⟩ : ∃ r1 : Int, r1 = if t then (n : Int) else 0 := ⟨_, rfl⟩
  obtain ⟨r2, hr2⟩ : ∃ r2 : Int, r2 = if t then (k : Int) + 2 else k := ⟨_, rfl⟩
  obtain ⟨r3, hr3⟩ : ∃ r3 : Int, r3 = if t then (0 : Int) else 21 := ⟨_, rfl⟩
  have R1 : Hid (r1 = if t then (n : Int) else 0) := hr1
  have R2 : Hid (r2 = if t then (k : Int) + 2 else k) := hr2
  have R3 : Hid (r3 = if t then (0 : Int) else 21) := hr3
  rw [← hr1, ← hr2, ← hr3]
  clear hr1 hr2 hr3
  have hl2 : (s.data.toList.drop (k + 1)).length = s.size - (k + 1) := by rw [List.length_drop]; rfl
  have HL2 : Hid ((s.data.toList.drop (k + 1)).length = s.size - (k + 1)) := hl2
  clear hl2
  go_enter Try.func20, Try.ntmps20
  go_wp2_with fail
  go_loop [7, 8] (fun len i => ∃ j : Nat, j ≤ 1 ∧ i = .int .i64 j ∧ len = .int .i64 (2 ^ (1 - j))) (fun _ i => (intOf i).toNat)
  case atStart => exact ⟨1, Nat.le_refl _, by rw [hc]; rfl, rfl⟩
  case round =>
    obtain ⟨j, hj, rfl, rfl⟩ := hrel
    have hjj : j = 0 ∨ j = 1 := by omega
    rcases hjj with rfl | rfl
    · go_wp2_with fail
      go_loop [9, 10] (fun a i => ∃ (j m : Nat), 1 ≤ j ∧ j ≤ 2 ∧ i = .int .i64 j ∧ a = .int .i64 m ∧ m < 64 * 256 ^ (j - 1) ∧ num m (((s.data.toList.drop (k + 1)).take 1).drop (j - 1)) = n) (fun _ i => 2 - (intOf i).toNat)
      case atStart => exact ⟨1, (x % 64).toNat, Nat.le_refl _, by decide, rfl, by congr 1; omega, by omega, HN.out⟩
      case round =>
        obtain ⟨i, m, hi1, hiL, rfl, rfl, hm, hnum⟩ := hrel
        have Hm : Hid (m < 64 * 256 ^ (i - 1)) := hm
        have Hnum : Hid (num m (((s.data.toList.drop (k + 1)).take 1).drop (i - 1)) = n) := hnum
        clear hm hnum
        by_cases hil : i < 2
        · have hki : k + i < s.size := by omega
          have hki' : (k : Int) + i < s.size := by omega
          have hmb : (m : Int) ≤ 18014398509481984 := by have := Hm.out; have := bnd (j := i - 1) (by omega); omega
          go_wp2_with fail
          go_round
          case rel =>
            have hbl := (s[k + i]).toNat_lt
            have e1 : wrap64 ((s[k + i]).toNat : Int) = (s[k + i]).toNat := by unfold wrap64; omega
            have e2 : wrap64 (256 * (m : Int) + (s[k + i]).toNat) = ((m * 256 + (s[k + i]).toNat : Nat) : Int) := by unfold wrap64; omega
            refine ⟨i + 1, m * 256 + (s[k + i]).toNat, by omega, by omega, by go_num, by rw [e1, e2], ?_, ?_⟩
            · have e3 : 64 * 256 ^ (i + 1 - 1) = (64 * 256 ^ (i - 1)) * 256 := by rw [show i + 1 - 1 = (i - 1) + 1 from by omega, Nat.pow_succ, Nat.mul_assoc]
              rw [e3]
              exact step_lt Hm.out hbl
            · have hT := Hnum.out
              have hlen2 : i - 1 < ((s.data.toList.drop (k + 1)).take 1).length := by rw [List.length_take, HL2.out]; omega
              rw [List.drop_eq_getElem_cons hlen2] at hT
              have e4 : ((s.data.toList.drop (k + 1)).take 1)[i - 1] = s[k + i] := by
                rw [List.getElem_take, List.getElem_drop]
                have e5 : k + 1 + (i - 1) = k + i := by omega
                simp only [e5]
                rfl
              rw [e4, show i - 1 + 1 = i + 1 - 1 from by omega] at hT
              exact hT
          case measure => simp [intOf]; omega
        · have hmn : m = n := by
            have hT := Hnum.out
            rw [List.drop_of_length_le (by rw [List.length_take, HL2.out]; omega)] at hT
            exact hT
          have hiL' : i = 2 := by omega
          subst hmn hiL'
          have hmlt : m < 16384 := Hm.out
          clear Hm Hnum HN HL2
          by_cases hthr : (m : Int) < 64
          · have ht : t = false := by
              rw [← HT.out, beq_eq_false_iff_ne]
              intro e
              have := cls_ge e
              omega
            have hdt := decide_eq_true hthr
            clear HT
            have HT : Hid (t = false) := ht
            clear ht
            go_wp2_with fail
            all_goals first | (exfalso; omega) | skip
            all_goals go_ret3
            all_goals rw [R1.out, R2.out, R3.out, HT.out]
            all_goals exact ⟨rfl, rfl⟩
          · have ht : t = true := by rw [← HT.out, cls_1 (by omega) hmlt]; rfl
            have hdt := decide_eq_false hthr
            clear HT
            have HT : Hid (t = true) := ht
            clear ht
            go_wp2_with fail
            all_goals first | (exfalso; omega) | skip
            all_goals go_ret3
            all_goals rw [R1.out, R2.out, R3.out, HT.out]
            all_goals exact ⟨rfl, rfl⟩

    · go_wp2_with fail
      go_round
      case rel => exact ⟨0, by omega, rfl, rfl⟩
      case measure => simp [intOf]

set_option maxRecDepth 100000 in
set_option maxHeartbeats 2000000 in
theorem refGet_short2 {w : World} (s : ByteArray) (k : Nat) (hk : k < s.size) (hs : (s.size : Int) ≤ 1099511627776) (x : Int) (hx : (s[k].toNat : Int) = x) (x0 : 0 ≤ x) (x1 : x ≤ 255) (hc : x / 64 = 2) (hsh : (s.size : Int) < k + 4) :
    Calls Try.prog 20 #[.string s, .int .i64 k] w fun e w' => e = .returned (.tuple #[.int .i64 0, .int .i64 k, .int .i64 20]) ∧ w' = w := by
  have hk' : (k : Int) < s.size := by omega
  go_enter Try.func20, Try.ntmps20
  go_wp2_with fail
  go_loop [7, 8] (fun len i => ∃ j : Nat, j ≤ 2 ∧ i = .int .i64 j ∧ len = .int .i64 (2 ^ (2 - j))) (fun _ i => (intOf i).toNat)
  case atStart => exact ⟨2, Nat.le_refl _, by rw [hc]; rfl, rfl⟩
  case round =>
    obtain ⟨j, hj, rfl, rfl⟩ := hrel
    have hjj : j = 0 ∨ j = 1 ∨ j = 2 := by omega
    rcases hjj with rfl | rfl | rfl
    · go_wp2_with fail
      go_ret3
      exact ⟨rfl, rfl⟩
    · go_wp2_with fail
      go_round
      case rel => exact ⟨0, by omega, rfl, rfl⟩
      case measure => simp [intOf]
    · go_wp2_with fail
      go_round
      case rel => exact ⟨1, by omega, rfl, rfl⟩
      case measure => simp [intOf]

set_option maxRecDepth 100000 in
set_option maxHeartbeats 4000000 in
theorem refGet_full2 {w : World} (s : ByteArray) (k : Nat) (hk : k < s.size) (hs : (s.size : Int) ≤ 1099511627776) (x : Int) (hx : (s[k].toNat : Int) = x) (x0 : 0 ≤ x) (x1 : x ≤ 255) (hc : x / 64 = 2) (hsh : (k : Int) + 4 ≤ s.size) (n : Nat) (HN : Hid (num (x % 64).toNat ((s.data.toList.drop (k + 1)).take 3) = n)) (t : Bool) (HT : Hid ((cls n == 2) = t)) :
    Calls Try.prog 20 #[.string s, .int .i64 k] w fun e w' => e = .returned (.tuple #[.int .i64 (if t then (n : Int) else 0), .int .i64 (if t then (k : Int) + 4 else k), .int .i64 (if t then 0 else 21)]) ∧ w' = w := by
  have hk' : (k : Int) < s.size := by omega
  obtain ⟨r1, hr1⟩ : ∃ r1 : Int, r1 = if t then (n : Int) else 0 := ⟨_, rfl⟩
  obtain ⟨r2, hr2⟩ : ∃ r2 : Int, r2 = if t then (k : Int) + 4 else k := ⟨_, rfl⟩
  obtain ⟨r3, hr3⟩ : ∃ r3 : Int, r3 = if t then (0 : Int) else 21 := ⟨_, rfl⟩
  have R1 : Hid (r1 = if t then (n : Int) else 0) := hr1
  have R2 : Hid (r2 = if t then (k : Int) + 4 else k) := hr2
  have R3 : Hid (r3 = if t then (0 : Int) else 21) := hr3
  rw [← hr1, ← hr2, ← hr3]
  clear hr1 hr2 hr3
  have hl2 : (s.data.toList.drop (k + 1)).length = s.size - (k + 1) := by rw [List.length_drop]; rfl
  have HL2 : Hid ((s.data.toList.drop (k + 1)).length = s.size - (k + 1)) := hl2
  clear hl2
  go_enter Try.func20, Try.ntmps20
  go_wp2_with fail
  go_loop [7, 8] (fun len i => ∃ j : Nat, j ≤ 2 ∧ i = .int .i64 j ∧ len = .int .i64 (2 ^ (2 - j))) (fun _ i => (intOf i).toNat)
  case atStart => exact ⟨2, Nat.le_refl _, by rw [hc]; rfl, rfl⟩
  case round =>
    obtain ⟨j, hj, rfl, rfl⟩ := hrel
    have hjj : j = 0 ∨ j = 1 ∨ j = 2 := by omega
    rcases hjj with rfl | rfl | rfl
    · go_wp2_with fail
      go_loop [9, 10] (fun a i => ∃ (j m : Nat), 1 ≤ j ∧ j ≤ 4 ∧ i = .int .i64 j ∧ a = .int .i64 m ∧ m < 64 * 256 ^ (j - 1) ∧ num m (((s.data.toList.drop (k + 1)).take 3).drop (j - 1)) = n) (fun _ i => 4 - (intOf i).toNat)
      case atStart => exact ⟨1, (x % 64).toNat, Nat.le_refl _, by decide, rfl, by congr 1; omega, by omega, HN.out⟩
      case round =>
        obtain ⟨i, m, hi1, hiL, rfl, rfl, hm, hnum⟩ := hrel
        have Hm : Hid (m < 64 * 256 ^ (i - 1)) := hm
        have Hnum : Hid (num m (((s.data.toList.drop (k + 1)).take 3).drop (i - 1)) = n) := hnum
        clear hm hnum
        by_cases hil : i < 4
        · have hki : k + i < s.size := by omega
          have hki' : (k : Int) + i < s.size := by omega
          have hmb : (m : Int) ≤ 18014398509481984 := by have := Hm.out; have := bnd (j := i - 1) (by omega); omega
          go_wp2_with fail
          go_round
          case rel =>
            have hbl := (s[k + i]).toNat_lt
            have e1 : wrap64 ((s[k + i]).toNat : Int) = (s[k + i]).toNat := by unfold wrap64; omega
            have e2 : wrap64 (256 * (m : Int) + (s[k + i]).toNat) = ((m * 256 + (s[k + i]).toNat : Nat) : Int) := by unfold wrap64; omega
            refine ⟨i + 1, m * 256 + (s[k + i]).toNat, by omega, by omega, by go_num, by rw [e1, e2], ?_, ?_⟩
            · have e3 : 64 * 256 ^ (i + 1 - 1) = (64 * 256 ^ (i - 1)) * 256 := by rw [show i + 1 - 1 = (i - 1) + 1 from by omega, Nat.pow_succ, Nat.mul_assoc]
              rw [e3]
              exact step_lt Hm.out hbl
            · have hT := Hnum.out
              have hlen2 : i - 1 < ((s.data.toList.drop (k + 1)).take 3).length := by rw [List.length_take, HL2.out]; omega
              rw [List.drop_eq_getElem_cons hlen2] at hT
              have e4 : ((s.data.toList.drop (k + 1)).take 3)[i - 1] = s[k + i] := by
                rw [List.getElem_take, List.getElem_drop]
                have e5 : k + 1 + (i - 1) = k + i := by omega
                simp only [e5]
                rfl
              rw [e4, show i - 1 + 1 = i + 1 - 1 from by omega] at hT
              exact hT
          case measure => simp [intOf]; omega
        · have hmn : m = n := by
            have hT := Hnum.out
            rw [List.drop_of_length_le (by rw [List.length_take, HL2.out]; omega)] at hT
            exact hT
          have hiL' : i = 4 := by omega
          subst hmn hiL'
          have hmlt : m < 1073741824 := Hm.out
          clear Hm Hnum HN HL2
          by_cases hthr : (m : Int) < 16384
          · have ht : t = false := by
              rw [← HT.out, beq_eq_false_iff_ne]
              intro e
              have := cls_ge e
              omega
            have hdt := decide_eq_true hthr
            clear HT
            have HT : Hid (t = false) := ht
            clear ht
            go_wp2_with fail
            all_goals first | (exfalso; omega) | skip
            all_goals go_ret3
            all_goals rw [R1.out, R2.out, R3.out, HT.out]
            all_goals exact ⟨rfl, rfl⟩
          · have ht : t = true := by rw [← HT.out, cls_2 (by omega) hmlt]; rfl
            have hdt := decide_eq_false hthr
            clear HT
            have HT : Hid (t = true) := ht
            clear ht
            go_wp2_with fail
            all_goals first | (exfalso; omega) | skip
            all_goals go_ret3
            all_goals rw [R1.out, R2.out, R3.out, HT.out]
            all_goals exact ⟨rfl, rfl⟩

    · go_wp2_with fail
      go_round
      case rel => exact ⟨0, by omega, rfl, rfl⟩
      case measure => simp [intOf]
    · go_wp2_with fail
      go_round
      case rel => exact ⟨1, by omega, rfl, rfl⟩
      case measure => simp [intOf]

set_option maxRecDepth 100000 in
set_option maxHeartbeats 2000000 in
theorem refGet_short3 {w : World} (s : ByteArray) (k : Nat) (hk : k < s.size) (hs : (s.size : Int) ≤ 1099511627776) (x : Int) (hx : (s[k].toNat : Int) = x) (x0 : 0 ≤ x) (x1 : x ≤ 255) (hc : x / 64 = 3) (hsh : (s.size : Int) < k + 8) :
    Calls Try.prog 20 #[.string s, .int .i64 k] w fun e w' => e = .returned (.tuple #[.int .i64 0, .int .i64 k, .int .i64 20]) ∧ w' = w := by
  have hk' : (k : Int) < s.size := by omega
  go_enter Try.func20, Try.ntmps20
  go_wp2_with fail
  go_loop [7, 8] (fun len i => ∃ j : Nat, j ≤ 3 ∧ i = .int .i64 j ∧ len = .int .i64 (2 ^ (3 - j))) (fun _ i => (intOf i).toNat)
  case atStart => exact ⟨3, Nat.le_refl _, by rw [hc]; rfl, rfl⟩
  case round =>
    obtain ⟨j, hj, rfl, rfl⟩ := hrel
    have hjj : j = 0 ∨ j = 1 ∨ j = 2 ∨ j = 3 := by omega
    rcases hjj with rfl | rfl | rfl | rfl
    · go_wp2_with fail
      go_ret3
      exact ⟨rfl, rfl⟩
    · go_wp2_with fail
      go_round
      case rel => exact ⟨0, by omega, rfl, rfl⟩
      case measure => simp [intOf]
    · go_wp2_with fail
      go_round
      case rel => exact ⟨1, by omega, rfl, rfl⟩
      case measure => simp [intOf]
    · go_wp2_with fail
      go_round
      case rel => exact ⟨2, by omega, rfl, rfl⟩
      case measure => simp [intOf]

set_option maxRecDepth 100000 in
set_option maxHeartbeats 4000000 in
theorem refGet_full3 {w : World} (s : ByteArray) (k : Nat) (hk : k < s.size) (hs : (s.size : Int) ≤ 1099511627776) (x : Int) (hx : (s[k].toNat : Int) = x) (x0 : 0 ≤ x) (x1 : x ≤ 255) (hc : x / 64 = 3) (hsh : (k : Int) + 8 ≤ s.size) (n : Nat) (HN : Hid (num (x % 64).toNat ((s.data.toList.drop (k + 1)).take 7) = n)) (t : Bool) (HT : Hid ((cls n == 3) = t)) :
    Calls Try.prog 20 #[.string s, .int .i64 k] w fun e w' => e = .returned (.tuple #[.int .i64 (if t then (n : Int) else 0), .int .i64 (if t then (k : Int) + 8 else k), .int .i64 (if t then 0 else 21)]) ∧ w' = w := by
  have hk' : (k : Int) < s.size := by omega
  obtain ⟨r1, hr1⟩ : ∃ r1 : Int, r1 = if t then (n : Int) else 0 := ⟨_, rfl⟩
  obtain ⟨r2, hr2⟩ : ∃ r2 : Int, r2 = if t then (k : Int) + 8 else k := ⟨_, rfl⟩
  obtain ⟨r3, hr3⟩ : ∃ r3 : Int, r3 = if t then (0 : Int) else 21 := ⟨_, rfl⟩
  have R1 : Hid (r1 = if t then (n : Int) else 0) := hr1
  have R2 : Hid (r2 = if t then (k : Int) + 8 else k) := hr2
  have R3 : Hid (r3 = if t then (0 : Int) else 21) := hr3
  rw [← hr1, ← hr2, ← hr3]
  clear hr1 hr2 hr3
  have hl2 : (s.data.toList.drop (k + 1)).length = s.size - (k + 1) := by rw [List.length_drop]; rfl
  have HL2 : Hid ((s.data.toList.drop (k + 1)).length = s.size - (k + 1)) := hl2
  clear hl2
  go_enter Try.func20, Try.ntmps20
  go_wp2_with fail
  go_loop [7, 8] (fun len i => ∃ j : Nat, j ≤ 3 ∧ i = .int .i64 j ∧ len = .int .i64 (2 ^ (3 - j))) (fun _ i => (intOf i).toNat)
  case atStart => exact ⟨3, Nat.le_refl _, by rw [hc]; rfl, rfl⟩
  case round =>
    obtain ⟨j, hj, rfl, rfl⟩ := hrel
    have hjj : j = 0 ∨ j = 1 ∨ j = 2 ∨ j = 3 := by omega
    rcases hjj with rfl | rfl | rfl | rfl
    · go_wp2_with fail
      go_loop [9, 10] (fun a i => ∃ (j m : Nat), 1 ≤ j ∧ j ≤ 8 ∧ i = .int .i64 j ∧ a = .int .i64 m ∧ m < 64 * 256 ^ (j - 1) ∧ num m (((s.data.toList.drop (k + 1)).take 7).drop (j - 1)) = n) (fun _ i => 8 - (intOf i).toNat)
      case atStart => exact ⟨1, (x % 64).toNat, Nat.le_refl _, by decide, rfl, by congr 1; omega, by omega, HN.out⟩
      case round =>
        obtain ⟨i, m, hi1, hiL, rfl, rfl, hm, hnum⟩ := hrel
        have Hm : Hid (m < 64 * 256 ^ (i - 1)) := hm
        have Hnum : Hid (num m (((s.data.toList.drop (k + 1)).take 7).drop (i - 1)) = n) := hnum
        clear hm hnum
        by_cases hil : i < 8
        · have hki : k + i < s.size := by omega
          have hki' : (k : Int) + i < s.size := by omega
          have hmb : (m : Int) ≤ 18014398509481984 := by have := Hm.out; have := bnd (j := i - 1) (by omega); omega
          go_wp2_with fail
          go_round
          case rel =>
            have hbl := (s[k + i]).toNat_lt
            have e1 : wrap64 ((s[k + i]).toNat : Int) = (s[k + i]).toNat := by unfold wrap64; omega
            have e2 : wrap64 (256 * (m : Int) + (s[k + i]).toNat) = ((m * 256 + (s[k + i]).toNat : Nat) : Int) := by unfold wrap64; omega
            refine ⟨i + 1, m * 256 + (s[k + i]).toNat, by omega, by omega, by go_num, by rw [e1, e2], ?_, ?_⟩
            · have e3 : 64 * 256 ^ (i + 1 - 1) = (64 * 256 ^ (i - 1)) * 256 := by rw [show i + 1 - 1 = (i - 1) + 1 from by omega, Nat.pow_succ, Nat.mul_assoc]
              rw [e3]
              exact step_lt Hm.out hbl
            · have hT := Hnum.out
              have hlen2 : i - 1 < ((s.data.toList.drop (k + 1)).take 7).length := by rw [List.length_take, HL2.out]; omega
              rw [List.drop_eq_getElem_cons hlen2] at hT
              have e4 : ((s.data.toList.drop (k + 1)).take 7)[i - 1] = s[k + i] := by
                rw [List.getElem_take, List.getElem_drop]
                have e5 : k + 1 + (i - 1) = k + i := by omega
                simp only [e5]
                rfl
              rw [e4, show i - 1 + 1 = i + 1 - 1 from by omega] at hT
              exact hT
          case measure => simp [intOf]; omega
        · have hmn : m = n := by
            have hT := Hnum.out
            rw [List.drop_of_length_le (by rw [List.length_take, HL2.out]; omega)] at hT
            exact hT
          have hiL' : i = 8 := by omega
          subst hmn hiL'
          have hmlt : m < 4611686018427387904 := Hm.out
          clear Hm Hnum HN HL2
          by_cases hthr : (m : Int) < 1073741824
          · have ht : t = false := by
              rw [← HT.out, beq_eq_false_iff_ne]
              intro e
              have := cls_ge e
              omega
            have hdt := decide_eq_true hthr
            clear HT
            have HT : Hid (t = false) := ht
            clear ht
            go_wp2_with fail
            all_goals first | (exfalso; omega) | skip
            all_goals go_ret3
            all_goals rw [R1.out, R2.out, R3.out, HT.out]
            all_goals exact ⟨rfl, rfl⟩
          · have ht : t = true := by rw [← HT.out, cls_3 (by omega)]; rfl
            have hdt := decide_eq_false hthr
            clear HT
            have HT : Hid (t = true) := ht
            clear ht
            go_wp2_with fail
            all_goals first | (exfalso; omega) | skip
            all_goals go_ret3
            all_goals rw [R1.out, R2.out, R3.out, HT.out]
            all_goals exact ⟨rfl, rfl⟩

    · go_wp2_with fail
      go_round
      case rel => exact ⟨0, by omega, rfl, rfl⟩
      case measure => simp [intOf]
    · go_wp2_with fail
      go_round
      case rel => exact ⟨1, by omega, rfl, rfl⟩
      case measure => simp [intOf]
    · go_wp2_with fail
      go_round
      case rel => exact ⟨2, by omega, rfl, rfl⟩
      case measure => simp [intOf]

/-- What the document's Get tells of the bytes from k on. -/
def refGot (s : ByteArray) (k : Nat) (x : Except Int (Nat × List UInt8)) : Value :=
  match x with
  | .ok (n, t) => .tuple #[.int .i64 n, .int .i64 ((s.size - t.length : Nat) : Int), .int .i64 0]
  | .error er => .tuple #[.int .i64 0, .int .i64 k, .int .i64 er]

theorem refGet_any {w : World} (s : ByteArray) (k : Nat) (hs : (s.size : Int) ≤ 1099511627776) :
    Calls Try.prog 20 #[.string s, .int .i64 k] w fun e w' => e = .returned (refGot s k (getN (s.data.toList.drop k))) ∧ w' = w := by
  have hlen : s.data.toList.length = s.size := rfl
  by_cases hk : k < s.size
  · have hd : s.data.toList.drop k = s[k] :: s.data.toList.drop (k + 1) := List.drop_eq_getElem_cons (by rw [hlen]; exact hk)
    rw [hd]
    have hb := (s[k]).toNat_lt
    have hl2 : (s.data.toList.drop (k + 1)).length = s.size - (k + 1) := by rw [List.length_drop]; rfl
    obtain ⟨c, hc⟩ : ∃ c, c = (s[k]).toNat / 64 := ⟨_, rfl⟩
    have hc3 : c ≤ 3 := by omega
    have key : ∀ (cc L : Nat), cc = c → L = 2 ^ cc → 1 ≤ L →
        (∀ (x : Int) (hx : ((s[k]).toNat : Int) = x) (x0 : 0 ≤ x) (x1 : x ≤ 255) (hcx : x / 64 = (cc : Int)), (s.size : Int) < k + (L : Int) → Calls Try.prog 20 #[.string s, .int .i64 k] w fun e w' => e = .returned (.tuple #[.int .i64 0, .int .i64 k, .int .i64 20]) ∧ w' = w) →
        (∀ (x : Int) (hx : ((s[k]).toNat : Int) = x) (x0 : 0 ≤ x) (x1 : x ≤ 255) (hcx : x / 64 = (cc : Int)), (k : Int) + (L : Int) ≤ s.size → ∀ (n : Nat), num (x % 64).toNat ((s.data.toList.drop (k + 1)).take (L - 1)) = n → ∀ t : Bool, (cls n == cc) = t → Calls Try.prog 20 #[.string s, .int .i64 k] w fun e w' => e = .returned (.tuple #[.int .i64 (if t then (n : Int) else 0), .int .i64 (if t then (k : Int) + (L : Int) else k), .int .i64 (if t then 0 else 21)]) ∧ w' = w) →
        Calls Try.prog 20 #[.string s, .int .i64 k] w fun e w' => e = .returned (refGot s k (getN (s[k] :: s.data.toList.drop (k + 1)))) ∧ w' = w := by
      intro cc L hcc hL hL1 h1 h2
      have hx64 : (((s[k]).toNat : Int)) / 64 = (cc : Int) := by omega
      have hdiv : (s[k]).toNat / 64 = cc := by omega
      simp only [getN, hdiv, ← hL]
      by_cases hsh : s.size < k + L
      · rw [if_pos (by rw [hl2]; omega)]
        exact h1 _ rfl (by omega) (by omega) hx64 (by omega)
      · rw [if_neg (by rw [hl2]; omega)]
        have hmod : ((((s[k]).toNat : Int)) % 64).toNat = (s[k]).toNat % 64 := by omega
        have hh := h2 _ rfl (by omega) (by omega) hx64 (by omega) _ rfl _ rfl
        rw [hmod] at hh
        refine hh.mono ?_
        rintro e w' ⟨rfl, rfl⟩
        refine ⟨?_, rfl⟩
        congr 1
        by_cases hcl : cls (num ((s[k]).toNat % 64) ((s.data.toList.drop (k + 1)).take (L - 1))) = cc
        · rw [if_pos hcl]
          have : (cls (num ((s[k]).toNat % 64) ((s.data.toList.drop (k + 1)).take (L - 1))) == cc) = true := by simpa using hcl
          rw [this]
          have e7 : ((s.size - (List.drop (L - 1) (s.data.toList.drop (k + 1))).length : Nat) : Int) = (k : Int) + (L : Int) := by
            rw [List.length_drop, hl2]
            omega
          simp only [refGot, if_true]
          rw [e7]
        · rw [if_neg hcl]
          have : (cls (num ((s[k]).toNat % 64) ((s.data.toList.drop (k + 1)).take (L - 1))) == cc) = false := by simpa using hcl
          rw [this]
          rfl
    have hcc : c = 0 ∨ c = 1 ∨ c = 2 ∨ c = 3 := by omega
    rcases hcc with h | h | h | h
    · exact key 0 1 h.symm rfl (by decide) (fun x hx x0 x1 hcx hh => refGet_short0 s k hk hs x hx x0 x1 hcx hh) (fun x hx x0 x1 hcx hh n hn t ht => refGet_full0 s k hk hs x hx x0 x1 hcx hh n hn t ht)
    · exact key 1 2 h.symm rfl (by decide) (fun x hx x0 x1 hcx hh => refGet_short1 s k hk hs x hx x0 x1 hcx hh) (fun x hx x0 x1 hcx hh n hn t ht => refGet_full1 s k hk hs x hx x0 x1 hcx hh n hn t ht)
    · exact key 2 4 h.symm rfl (by decide) (fun x hx x0 x1 hcx hh => refGet_short2 s k hk hs x hx x0 x1 hcx hh) (fun x hx x0 x1 hcx hh n hn t ht => refGet_full2 s k hk hs x hx x0 x1 hcx hh n hn t ht)
    · exact key 3 8 h.symm rfl (by decide) (fun x hx x0 x1 hcx hh => refGet_short3 s k hk hs x hx x0 x1 hcx hh) (fun x hx x0 x1 hcx hh n hn t ht => refGet_full3 s k hk hs x hx x0 x1 hcx hh n hn t ht)
  · have hd : s.data.toList.drop k = [] := List.drop_of_length_le (by rw [hlen]; omega)
    rw [hd]
    exact refGet_end s k (by omega)

end Go.Proofs.Ytjajgllkbchapaa
