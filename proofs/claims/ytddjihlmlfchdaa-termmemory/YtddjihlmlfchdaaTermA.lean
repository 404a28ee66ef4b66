/-
  The store's calls that only read: Len, has, node, isPub.
-/
import Derived.Test.YtddjihlmlfchdaaBase
namespace Go.Proofs.Ytddjihlmlfchdaa
open Go.RowKit
set_option linter.unusedSimpArgs false
set_option linter.unusedVariables false

set_option maxHeartbeats 400000 in
theorem len_raw (w : World) (s : Nat) (sl : Option Addr) (n c : Nat) (h0 : w.cell? ⟨s, 0, none⟩ = some (.slice sl n c)) :
    Calls Try.prog 12 #[.pointer (some ⟨s, 0, none⟩)] w fun e w' => e = .returned (.int .i64 n) ∧ w' = w := by
  go_enter Try.func12, Try.ntmps12
  go_wp2
  go_ret
  exact ⟨rfl, rfl⟩

theorem len_any {w : World} {s : Nat} {ns : List Nd} {dr : Int} (h : StoreAt w s ns dr) :
    Calls Try.prog 12 #[.pointer (some ⟨s, 0, none⟩)] w fun e w' => e = .returned (.int .i64 ns.length) ∧ w' = w := by
  obtain ⟨sl, c, mb, h0, _⟩ := h
  exact len_raw w s sl ns.length c (by rw [cell_of_heap h0]; rfl)

set_option maxHeartbeats 400000 in
theorem has_raw (w : World) (s : Nat) (sl : Option Addr) (n c : Nat) (t : Int) (h0 : w.cell? ⟨s, 0, none⟩ = some (.slice sl n c)) :
    Calls Try.prog 31 #[.pointer (some ⟨s, 0, none⟩), .int .i64 t] w fun e w' => e = .returned (.bool (decide (1 ≤ t) && decide (t ≤ n))) ∧ w' = w := by
  by_cases h1 : 1 ≤ t
  · go_enter Try.func31, Try.ntmps31
    go_wp2
    go_ret
    exact ⟨by simp [h1], rfl⟩
  · have h1' : decide (1 ≤ t) = false := by simpa using h1
    go_enter Try.func31, Try.ntmps31
    go_wp2
    go_ret
    exact ⟨by simp [h1], rfl⟩

theorem has_any {w : World} {s : Nat} {ns : List Nd} {dr : Int} (h : StoreAt w s ns dr) (t : Int) :
    Calls Try.prog 31 #[.pointer (some ⟨s, 0, none⟩), .int .i64 t] w fun e w' => e = .returned (.bool (hasB ns t)) ∧ w' = w := by
  obtain ⟨sl, c, mb, h0, _⟩ := h
  exact has_raw w s sl ns.length c t (by rw [cell_of_heap h0]; rfl)

set_option maxHeartbeats 400000 in
theorem node_no {w : World} {s : Nat} {ns : List Nd} {dr : Int} (h : StoreAt w s ns dr) (t : Int) (ht : hasB ns t = false) :
    Calls Try.prog 30 #[.pointer (some ⟨s, 0, none⟩), .int .i64 t] w fun e w' => e = .returned Nd.zero.val ∧ Below w.heap.size w w' := by
  have hb1 : ∀ o, Below w.heap.size w (w.alloc o) := fun o => (Below.refl _ _).alloc (Nat.le_refl _) _
  go_enter Try.func30, Try.ntmps30
  go_wp2_with (go_at_call 31; refine (has_any (h.below (hb1 _)) _).mono ?_; rintro e w' ⟨rfl, rfl⟩)
  exact bodyPost_ret (v := Nd.zero.val) (by simp [results, Try.results30, go_sem, Nd.zero, Nd.val]) rfl ⟨rfl, (Below.refl _ _).alloc (Nat.le_refl _) _⟩

set_option maxHeartbeats 400000 in
theorem node_yes {w : World} {s : Nat} {ns : List Nd} {dr : Int} (h : StoreAt w s ns dr) (t : Int) (h1 : 1 ≤ t) (h2 : t ≤ ns.length) :
    Calls Try.prog 30 #[.pointer (some ⟨s, 0, none⟩), .int .i64 t] w fun e w' => e = .returned (ns.getD (t.toNat - 1) Nd.zero).val ∧ Below w.heap.size w w' := by
  have hb1 : ∀ o, Below w.heap.size w (w.alloc o) := fun o => (Below.refl _ _).alloc (Nat.le_refl _) _
  have ht : hasB ns t = true := by simp [hasB]; omega
  have hst := h
  obtain ⟨sl, c, mb, h0, h3, h4, h5⟩ := h
  have hs : s < w.heap.size := hst.lt
  have c0 := cell_of_heap h0 0
  rcases h4.form with ⟨_, _, rfl⟩ | ⟨nb, rfl, hnb, hl, _⟩
  · simp at h2; omega
  obtain ⟨n0, n1, n2, n3⟩ := h4.cell (i := (t.toNat - 1)) (by omega)
  generalize ns.getD (t.toNat - 1) Nd.zero = n at *
  clear h0 h3 h4
  go_enter Try.func30, Try.ntmps30
  go_wp2_with (go_at_call 31; refine (has_any (hst.below (hb1 _)) _).mono ?_; rintro e w' ⟨rfl, rfl⟩)
  exact bodyPost_ret (v := n.val) (by simp [results, Try.results30, go_sem, Nd.val]) rfl ⟨rfl, (Below.refl _ _).alloc (Nat.le_refl _) _⟩

theorem node_any {w : World} {s : Nat} {ns : List Nd} {dr : Int} (h : StoreAt w s ns dr) (t : Int) :
    Calls Try.prog 30 #[.pointer (some ⟨s, 0, none⟩), .int .i64 t] w fun e w' => e = .returned (nodeF ns t).val ∧ Below w.heap.size w w' := by
  unfold nodeF
  by_cases ht : hasB ns t = true
  · rw [if_pos ht]
    simp only [hasB, Bool.and_eq_true, decide_eq_true_eq] at ht
    exact node_yes h t ht.1 ht.2
  · rw [if_neg ht]
    exact node_no h t (by simpa using ht)

end Go.Proofs.Ytddjihlmlfchdaa
