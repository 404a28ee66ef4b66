/-
  upward: the places above a leaf, by halving.
-/
import Derived.Test.YtdnopkpoepdihaaDoorSB
namespace Go.Proofs.YtdnopkpoepdihaaDoor
open Go.RowKit
set_option linter.unusedSimpArgs false
set_option linter.unusedVariables false

def nextI (x k : Int) : Int := x / (4 * k) * (4 * k) + 2 * k - 1
def upG : Nat → Int → Int → Int → List Int
  | 0, _, _, _ => []
  | f + 1, x, k, n => if k < n then (if x != nextI x k then nextI x k :: upG f (nextI x k) (k * 2) n else upG f (nextI x k) (k * 2) n) else []
def upL (x n : Int) : List Int := upG 6 x 1 n

theorem upL_path {i n : Int} (h : leafB i n = true) : upL (2 * i) n = pathI (2 * i) n := by
  have := forall_in (fun x n => decide (x % 2 = 1) || upL x n == pathI x n) (by decide +kernel) (2 * i) n (leafB_in h)
  simp only [Bool.or_eq_true, decide_eq_true_eq, beq_iff_eq] at this
  rcases this with h | h
  · omega
  · exact h

theorem upG_stop : ∀ (f : Nat) (x k n : Int), ¬ k < n → upG f x k n = []
  | 0, _, _, _, _ => rfl
  | f + 1, x, k, n, h => by unfold upG; rw [if_neg h]

set_option maxHeartbeats 4000000 in
set_option maxRecDepth 100000 in
theorem upl_any (x0 n : Int) (w : World) (hx0 : 0 ≤ x0) (hx1 : x0 ≤ 62) (hn : n ≤ 32) :
    Calls Tryd.prog 40 #[.int .i64 x0, .int .i64 n] w fun e w' => ∃ v', e = .returned v' ∧ OwnI w.heap.size w' v' (upL x0 n) ∧ Below w.heap.size w w' := by
  obtain ⟨i0, hi, hz0, hz1, hz2⟩ := info_parts Tryd.infoI
  have HU : Hid (upL x0 n = upG 6 x0 1 n) := rfl
  go_enter Tryd.func40, Tryd.ntmps40
  go_wp2_with fail
  go_loopw [0, 5, 6] (fun a c k wr => ∃ (f : Nat) (x kk : Int) (D : List Int), a = .int .i64 x ∧ k = .int .i64 kk ∧ OwnI w.heap.size wr c D ∧ Hid (upL x0 n = D ++ upG f x kk n) ∧ 0 ≤ x ∧ x ≤ 100 * kk ∧ 1 ≤ kk ∧ kk ≤ 32 ∧ Hid (kk = 1 ∨ kk = 2 ∨ kk = 4 ∨ kk = 8 ∨ kk = 16 ∨ kk = 32) ∧ Hid (n ≤ kk * 2 ^ f) ∧ D.length + f ≤ 6 ∧ Below w.heap.size w wr) (fun _ _ k _ => (64 - intOf k).toNat)
  case atStart => exact ⟨6, x0, 1, [], rfl, rfl, World.ownsRow_nil _ _ _ _, HU.out, hx0, by omega, by omega, by omega, .inl rfl, by show _ ≤ _; omega, by simp, Below.refl _ _⟩
  case round =>
    obtain ⟨f, x, kk, D, rfl, rfl, hown, HS, x1, x2, k1, k2, HK, HP, hD, hB⟩ := hrel
    have hsz := hB.size
    by_cases hlt : kk < n
    · obtain ⟨g, rfl⟩ : ∃ g, f = g + 1 := by
        cases f with
        | zero => exfalso; have := HP.out; simp at this; omega
        | succ g => exact ⟨g, rfl⟩
      have HP2 : Hid (n ≤ kk * 2 * 2 ^ g) := by
        have h := HP.out
        show _ ≤ _
        rw [Int.pow_succ] at h
        have e : kk * (2 ^ g * 2) = kk * 2 * 2 ^ g := by rw [Int.mul_comm (2 ^ g) 2, Int.mul_assoc]
        rwa [e] at h
      have d1 : 0 ≤ x / (4 * kk) := Int.ediv_nonneg x1 (by omega)
      have d2 : x / (4 * kk) * (4 * kk) ≤ x := Int.ediv_mul_le x (by omega)
      have d3 : 0 ≤ x / (4 * kk) * (4 * kk) := Int.mul_nonneg d1 (by omega)
      have d4 : x / (4 * kk) ≤ x := Int.ediv_le_self _ x1
      have hk16 : kk ≤ 16 := by have := HK.out; omega
      have hy : nextI x kk = x / (4 * kk) * (4 * kk) + 2 * kk - 1 := rfl
      have Hy : Hid (nextI x kk = x / (4 * kk) * (4 * kk) + 2 * kk - 1) := rfl
      have HN : Hid (upG (g + 1) x kk n = if x != nextI x kk then nextI x kk :: upG g (nextI x kk) (kk * 2) n else upG g (nextI x kk) (kk * 2) n) := by
        show _ = _
        rw [upG, if_pos hlt]
      have HK2 : Hid (kk * 2 = 1 ∨ kk * 2 = 2 ∨ kk * 2 = 4 ∨ kk * 2 = 8 ∨ kk * 2 = 16 ∨ kk * 2 = 32) := by have := HK.out; show _ ∨ _; omega
      clear hy
      obtain ⟨Y, hY⟩ : ∃ Y, x / (4 * kk) * (4 * kk) + 2 * kk - 1 = Y := ⟨_, rfl⟩
      have hY0 : 0 ≤ Y := by omega
      have hY1 : Y ≤ 200 * kk := by omega
      rw [hY] at Hy
      rw [Hy.out] at HN
      have HDl : Hid (D.length + (g + 1) ≤ 6) := hD
      by_cases hq : x = Y
      · have hq' : (x != Y) = false := by simp [hq]
        have HS2 : Hid (upL x0 n = D ++ upG g Y (kk * 2) n) := by
          show _ = _
          rw [HS.out, HN.out, if_neg (by simp [hq])]
        clear HS HN HP HK Hy hq hD
        go_wp2_with (rw [hY])
        go_roundw
        case rel => exact ⟨g, Y, kk * 2, D, rfl, by go_num, hown, HS2, hY0, by omega, by omega, by omega, HK2, HP2, by have := HDl.out; omega, hB⟩
        case measure => simp [intOf]; omega
      · have hq' : (x != Y) = true := by simp [hq]
        have HS2 : Hid (upL x0 n = (D ++ [Y]) ++ upG g Y (kk * 2) n) := by
          show _ = _
          rw [HS.out, HN.out, if_pos hq']
          simp
        have Hm1 : Hid (D.length + 1 ≤ maxLen) := by show _ ≤ maxLen; unfold maxLen; omega
        have Hm2 : Hid ((D.length + 1) * 8 ≤ 140737488355328) := by show _ ≤ _; omega
        have hp0 : w.heap.size ≤ (wr.alloc (.cells #[.int .i64 Y] 3)).heap.size := by simp; omega
        clear HS HN HP HK Hy hq hD
        go_wp2_with first
          | rw [hY]
          | (refine wpList_append_own_at _ rfl (.tmp 27) (.tmp 29) 22 rfl w.heap.size 3 i0 (.int .i64 0) 1 8 Tryd.underlying22 hi hz0 hz1 hz2 rfl Nat.one_pos _ D.length _ rfl (hown.alloc _) ⟨wr.heap.size, 0, none⟩ 1 1 [.int .i64 Y] rfl rfl (cell_one_new _ _ _) (one_int _) Hm1.out Hm2.out hp0 ?_; intro v7 w7 ho7 hg7 hnil7 hl7)
        have b7 := (hB.alloc hsz (.cells #[.int .i64 Y] 3)).grown hg7 hp0 (fun k hk => (hown.lt k hk).1)
        go_roundw
        case rel => exact ⟨g, Y, kk * 2, D ++ [Y], rfl, by go_num, by simpa [OwnI] using ho7, HS2, hY0, by omega, by omega, by omega, HK2, HP2, by have := HDl.out; simp; omega, b7⟩
        case measure => simp [intOf]; omega
    · have HE : Hid (OwnI w.heap.size wr u5 (upL x0 n)) := by
        show OwnI _ _ _ _
        rw [HS.out, upG_stop f x kk n hlt, List.append_nil]
        exact hown
      clear hown HS HP HK
      go_wp2_with fail
      go_ret
      exact ⟨_, rfl, HE.out, hB⟩

end Go.Proofs.YtdnopkpoepdihaaDoor
