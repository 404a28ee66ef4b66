/-
  Whether a leaf from a number on is full; whether a tree is right: package tree's Check.
-/
import Derived.Test.YtdnopkpoepdihaaDoorTK
namespace Go.Proofs.YtdnopkpoepdihaaDoor
open Go.RowKit
set_option linter.unusedSimpArgs false
set_option linter.unusedVariables false

set_option maxHeartbeats 1000000 in
theorem clos_any (x k : Int) (p : Nat) (w : World) (hc : w.cell? ⟨p, 0, none⟩ = some (.int .i64 k)) :
    Calls Tryd.prog 71 #[.int .i64 x, .pointer (some ⟨p, 0, none⟩)] w fun e w' => e = .returned (.bool (decide (k ≤ x))) ∧ w' = w := by
  go_enter Tryd.func71, Tryd.ntmps71
  go_wp2_with fail
  go_ret
  exact ⟨by simp, rfl⟩

set_option maxRecDepth 100000 in
set_option maxHeartbeats 2000000 in
theorem indexFunc_any {w : World} {v : Value} {l : List Int} (hl : IntsAt w v l) (hlen : l.length ≤ 4096) (k : Int) (p : Nat) (hc : w.cell? ⟨p, 0, none⟩ = some (.int .i64 k)) :
    Calls Tryd.prog 87 #[v, .func (.func 71) #[] #[.pointer (some ⟨p, 0, none⟩)]] w fun e w' => ∃ r : Int, e = .returned (.int .i64 r) ∧ decide (0 ≤ r) = (l.any fun i => decide (k ≤ i)) ∧ w' = w := by
  obtain ⟨a, cap, rfl, hl1, hcl⟩ := hl
  go_enter Tryd.func87, Tryd.ntmps87
  go_wp2_with fail
  go_loop [8] (fun q => ∃ j : Nat, j ≤ l.length ∧ q = .int .i64 j ∧ Hid ((l.take j).any (fun i => decide (k ≤ i)) = false)) (fun q => l.length - (intOf q).toNat)
  case atStart => exact ⟨0, Nat.zero_le _, rfl, rfl⟩
  case round =>
    obtain ⟨j, hj, rfl, HA⟩ := hrel
    by_cases hlt : j < l.length
    · obtain ⟨y, hy⟩ : ∃ y, l[j]? = some y := ⟨l[j], by simp [hlt]⟩
      obtain ⟨b, off, rfl, hbl, hcell⟩ := hcl (by rintro rfl; simp at hy)
      have c0 := hcell j y hy
      have i1 : (j : Int) < (l.length : Int) := by omega
      have i2 : (j : Int) ≤ 4096 := by omega
      have Hy : Hid (l[j]? = some y) := hy
      clear hcell hcl hy
      cases hk : decide (k ≤ y) with
      | true =>
        have HR : Hid ((l.any fun i => decide (k ≤ i)) = true) := by
          simp only [Hid, List.any_eq_true]
          exact ⟨y, List.mem_of_getElem? Hy.out, hk⟩
        go_wp2_with (go_at_call 71; refine (clos_any y k p _ hc).mono ?_; rintro e w' ⟨rfl, hw⟩; obtain rfl := hw.symm; rw [hk])
        go_ret
        exact ⟨_, rfl, by rw [HR.out]; simp, rfl⟩
      | false =>
        have HN : Hid ((l.take (j + 1)).any (fun i => decide (k ≤ i)) = false) := by
          show _ = _
          rw [List.take_add_one, Hy.out, List.any_append, HA.out]
          simp [hk]
        go_wp2_with (go_at_call 71; refine (clos_any y k p _ hc).mono ?_; rintro e w' ⟨rfl, hw⟩; obtain rfl := hw.symm; rw [hk])
        exact ⟨⟨j + 1, by omega, by go_num, HN⟩, by simp [intOf]; omega⟩
    · have HR : Hid ((l.any fun i => decide (k ≤ i)) = false) := by
        have := HA.out
        rwa [List.take_of_length_le (by omega)] at this
      clear hcl
      go_wp2_with fail
      all_goals go_ret
      all_goals exact ⟨_, rfl, by rw [HR.out]; rfl, rfl⟩

set_option maxHeartbeats 1000000 in
theorem containsFunc_any {w : World} {v : Value} {l : List Int} (hl : IntsAt w v l) (hlen : l.length ≤ 4096) (k : Int) (p : Nat) (hc : w.cell? ⟨p, 0, none⟩ = some (.int .i64 k)) :
    Calls Tryd.prog 70 #[v, .func (.func 71) #[] #[.pointer (some ⟨p, 0, none⟩)]] w fun e w' => e = .returned (.bool (l.any fun i => decide (k ≤ i))) ∧ w' = w := by
  go_enter Tryd.func70, Tryd.ntmps70
  go_wp2_with fail
  refine (indexFunc_any hl hlen k p hc).mono ?_
  rintro e w' ⟨r, rfl, hr, hw⟩
  obtain rfl := hw.symm
  go_wp2_with fail
  go_ret
  exact ⟨by rw [← hr]; simp, rfl⟩

set_option maxHeartbeats 1000000 in
theorem fullFrom_any {w : World} {v : Value} {t : Tree} (ht : TreeAt w v t) (hs : Sh t) (k : Nat) :
    Calls Tryd.prog 43 #[v, .int .i64 k] w fun e w' => e = .returned (.bool (fromB t k)) ∧ Below w.heap.size w w' := by
  have hml := membersN_len t (lv t)
  have hb := hs.bounds
  obtain ⟨w0, hw0⟩ : ∃ w0, w.alloc (.cells #[.int .i64 (k : Int)] 3) = w0 := ⟨_, rfl⟩
  have b0 : Below w.heap.size w w0 := by rw [← hw0]; exact (Below.refl _ _).alloc (Nat.le_refl _) _
  have c0 : w0.cell? ⟨w.heap.size, 0, none⟩ = some (.int .i64 (k : Int)) := by rw [← hw0]; exact (cell_new w _ _).1
  have hs0 : w.heap.size < w0.heap.size := by rw [← hw0]; simp
  have ht0 := ht.below b0
  go_enter Tryd.func43, Tryd.ntmps43
  go_wp2_with (rw [hw0])
  refine (Members_any ht0 hs).mono ?_
  rintro e w1 ⟨v1, rfl, m1, b1⟩
  have c1 := (b1.cell (p := ⟨w.heap.size, 0, none⟩) hs0).trans c0
  have hc := containsFunc_any (m1.ints (by unfold members; omega)) (by unfold members; omega) k w.heap.size c1
  go_wp2_with fail
  refine hc.mono ?_
  rintro e w' ⟨rfl, hw⟩
  obtain rfl := hw.symm
  go_wp2_with fail
  go_ret
  exact ⟨rfl, on b0 b1⟩

end Go.Proofs.YtdnopkpoepdihaaDoor
