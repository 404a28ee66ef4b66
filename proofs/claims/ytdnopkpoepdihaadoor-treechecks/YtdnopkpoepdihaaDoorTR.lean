/-
  The document's example begins: the laws' anchor.
-/
import Derived.Test.YtdnopkpoepdihaaDoorTQ
namespace Go.Proofs.YtdnopkpoepdihaaDoor
open Go.RowKit
set_option linter.unusedSimpArgs false
set_option linter.unusedVariables false

def pA : PV := ⟨false, 5, 1, 0, 0, []⟩
def pB : PV := ⟨false, 6, 2, 0, 0, []⟩
def T3 : Tree := [⟨true, 5, 1, 0, 0, []⟩, ⟨false, 0, 0, 0, 0, []⟩, ⟨true, 6, 2, 0, 0, []⟩]
theorem t3_add : addF [leafV pA] pB = T3 := by kernel_rfl
theorem t3_check : checkB T3 = true := by decide +kernel
theorem t3_filt : filt T3 0 = [(1, 2)] := by decide +kernel
theorem t3_least : least [leafV pA] = 1 ∧ lv [leafV pA] = 1 := by decide +kernel

theorem late_small {t : Tree} (hf : Fit t) : ∀ (x : Nat) (u : PV), t[x]? = some u → (u.late.length : Int) ≤ 9223372036854775807 := fun x u hu => by
  have := (hf.small x u hu).1
  omega

theorem OwnT.treeF {B : Nat} {w : World} {v : Value} {t : Tree} {hs : List Value} (h : OwnT B w v t hs t.length) (hf : Fit t) : TreeAt w v t :=
  h.tree (by have := hf.sh.bounds; omega) (late_small hf)

theorem ints_one (w : World) (i : Int) : IntsAt (w.alloc (.cells #[.int .i64 i] 3)) (.slice (some ⟨w.heap.size, 0, none⟩) 1 1) [i] := by
  refine ⟨_, 1, rfl, by simp, fun _ => ⟨w.heap.size, 0, rfl, by simp, fun j x hx => ?_⟩⟩
  cases j with
  | zero => simp at hx; subst hx; exact (cell_new w _ _).1
  | succ k => simp at hx

set_option maxRecDepth 100000 in
set_option maxHeartbeats 4000000 in
theorem anchor_any {w : World} (hT : Tab w) :
    Calls Tryd.prog 13 #[] w fun e w' => e = .returned (.bool true) ∧ Below w.heap.size w w' := by
  have hN := New_any pA (.slice none 0 0) w
  have hG1 : Good [leafV pA] := Good.one pA
  have hG3 : Good T3 := good_iff.1 t3_check
  have hF3 := hG3.fit
  simp only [PV.val, pA] at hN
  go_enter Tryd.func13, Tryd.ntmps13
  go_wp2_with fail
  refine hN.mono ?_
  rintro e w1 ⟨v1, rfl, ht1, b1⟩
  have hT1 := hT.below b1 hT.size
  have hA := add_yes hG1.fit ht1 hT1 pB (.slice none 0 0) (by rw [t3_least.1, t3_least.2]; decide)
  rw [t3_add, t3_least.1] at hA
  simp only [PV.val, pB] at hA
  go_wp2_with fail
  refine hA.mono ?_
  rintro e w2 ⟨v2, hs2, rfl, o2, b2⟩
  have b12 := on b1 b2
  have hT2 := hT1.below b2 hT1.size
  have ht2 : TreeAt w2 v2 T3 := o2.treeF hF3
  clear o2 hA hN ht1 hT1 b1 b2
  obtain ⟨a2, cap2, rfl, _, hc2⟩ := id ht2
  obtain ⟨b, off, rfl, hr⟩ := hc2 (by simp [T3])
  have hl3 : T3.length = 3 := rfl
  rw [hl3] at ht2 ⊢
  have hFi := Filtered_any hF3 0 ht2 hT2
  rw [t3_filt] at hFi
  go_wp2_with fail
  refine hFi.mono ?_
  rintro e w3 ⟨v3, v4, rfl, m3, m4, b3⟩
  have hr3 := hr.below b3
  have ht3 := ht2.below b3
  have hT3 := hT2.below b3 hT2.size
  have b13 := on b12 b3
  obtain ⟨h0, k0⟩ := hr3.at_ 0 ⟨true, 5, 1, 0, 0, []⟩ rfl
  obtain ⟨h1, k1⟩ := hr3.at_ 1 ⟨false, 0, 0, 0, 0, []⟩ rfl
  obtain ⟨h2, k2⟩ := hr3.at_ 2 ⟨true, 6, 2, 0, 0, []⟩ rfl
  have c00 := k0.c0
  have c01 := k0.c1
  have c10 := k1.c0
  have c21 := k2.c1
  simp only [Nat.zero_mul, Nat.add_zero, Nat.one_mul] at c00 c01 c10 c21
  have j3 := ownsRow_ints m3 (by simp)
  have j4 := ownsRow_ints m4 (by simp)
  simp only [List.map_cons, List.map_nil] at j3 j4
  clear hr hr3 k0 k1 k2 m3 m4 hFi hc2 ht2
  have b4 : Below w3.heap.size w3 (w3.alloc (.cells #[.int .i64 1] 3)) := (Below.refl _ _).alloc (Nat.le_refl _) _
  go_wp2_with fail
  refine (ints_any (j3.below b4) (ints_one w3 1)).mono ?_
  rintro e w5 ⟨rfl, b5⟩
  rw [show decide (([1] : List Int) = [1]) = true by decide]
  have b35 := on b4 b5
  have b6 : Below w5.heap.size w5 (w5.alloc (.cells #[.int .i64 2] 3)) := (Below.refl _ _).alloc (Nat.le_refl _) _
  go_wp2_with fail
  refine (ints_any ((j4.below b35).below b6) (ints_one w5 2)).mono ?_
  rintro e w7 ⟨rfl, b7⟩
  rw [show decide (([2] : List Int) = [2]) = true by decide]
  have b37 := on b35 (on b6 b7)
  have hCh := Check_any (ht3.below b37) (hT3.below b37 hT3.size)
  rw [t3_check] at hCh
  go_wp2_with fail
  refine hCh.mono ?_
  rintro e w8 ⟨rfl, b8⟩
  go_wp2_with fail
  go_ret
  exact ⟨rfl, on b13 (on b37 b8)⟩

end Go.Proofs.YtdnopkpoepdihaaDoor
