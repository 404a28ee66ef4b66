/-
  The document's examples begin as it says.
-/
import Derived.Test.YtjajgllkbchapaaAnc
namespace Go.Proofs.Ytjajgllkbchapaa
open Go.RowKit
set_option linter.unusedSimpArgs false
set_option linter.unusedVariables false

theorem ex1 : encRes (putN 16384) = .tuple #[.string ⟨#[128, 0, 64, 0]⟩, .int .i64 0] := by kernel_rfl
theorem ex2 : whole (getList 9 getN (ByteArray.mk #[2, 5, 6]).data.toList) = .ok [5, 6] := by kernel_rfl
theorem ex3 : whole (getN (ByteArray.mk #[64, 63]).data.toList) = .error 21 := by kernel_rfl
theorem ex4 : boundF 9 = 9 := by decide

theorem on {w0 w w' : World} (h : Below w0.heap.size w0 w) (hb : Below w.heap.size w w') : Below w0.heap.size w0 w' := h.trans (hb.mono h.size)

theorem ints_new (w : World) (l : List Int) (hl : (l.length : Int) ≤ 1099511627776) : IntsAt (w.alloc (.cells (l.map (Value.int .i64)).toArray 3)) (.slice (some ⟨w.heap.size, 0, none⟩) l.length l.length) l := by
  refine ⟨_, _, rfl, by omega, fun _ => ⟨w.heap.size, 0, rfl, by simp, fun i x hx => ?_⟩⟩
  rw [cell_of_heap (heap_alloc_new w _)]
  simp [hx]

theorem below_drewN {B : Nat} {a w : World} (h : Below B a w) (n : Nat) : Below B a (w.drewN n) := ⟨h.os, h.tape, h.output, h.size, h.block⟩

set_option maxRecDepth 100000 in
set_option maxHeartbeats 1000000 in
theorem anchor_any (w : World) : Calls Try.prog 12 #[] w fun e w' => e = .returned (.bool true) ∧ Below w.heap.size w w' := by
  go_enter Try.func12, Try.ntmps12
  go_wp2_with fail
  refine (number_codec _).mono ?_
  rintro e w1 ⟨rfl, b1⟩
  go_wp2_with fail
  refine (encodeN _ _ _).mono ?_
  rintro e w2 ⟨he, b2⟩
  rw [ex1] at he
  subst he
  go_wp2_with fail
  refine (number_codec _).mono ?_
  rintro e w3 ⟨rfl, b3⟩
  go_wp2_with fail
  refine (list_codecInt _ _ _ _).mono ?_
  rintro e w4 ⟨mb, cb, rfl, l1, l2, c1, c2, c3, b4⟩
  rw [ex4] at c1
  go_wp2_with fail
  refine (decodeNs _ _ mb cb 9 _ (by decide) l1 l2 c1 (by decide) c3).mono ?_
  intro e w5 hd
  unfold decoded at hd
  rw [ex2] at hd
  obtain ⟨⟨v, rfl, hv⟩, b5⟩ := hd
  clear c1 c2 c3 l1 l2
  go_wp2_with fail
  refine (number_codec _).mono ?_
  rintro e w6 ⟨rfl, b6⟩
  go_wp2_with fail
  refine (decodeN _ _ _ (by decide)).mono ?_
  intro e w7 hd
  unfold decoded at hd
  rw [ex3] at hd
  obtain ⟨rfl, b7⟩ := hd
  go_wp2_with fail
  have hi := ((hv.ints.below b6).below b7).below ((Below.refl _ w7).alloc (Nat.le_refl _) (.cells #[.int .i64 5, .int .i64 6] 3))
  refine (ints_any hi (ints_new w7 [5, 6] (by decide))).mono ?_
  rintro e w8 ⟨rfl, n, rfl⟩
  go_wp2_with fail
  go_ret
  exact ⟨rfl, below_drewN ((on (on (on (on (on (on b1 b2) b3) b4) b5) b6) b7).alloc (Nat.le_trans b1.size (Nat.le_trans b2.size (Nat.le_trans b3.size (Nat.le_trans b4.size (Nat.le_trans b5.size (Nat.le_trans b6.size b7.size)))))) _) n⟩

end Go.Proofs.Ytjajgllkbchapaa
