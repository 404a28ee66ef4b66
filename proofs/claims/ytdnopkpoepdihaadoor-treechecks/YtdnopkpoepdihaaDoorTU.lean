/-
  Leaves taken out: package tree's Remove.
-/
import Derived.Test.YtdnopkpoepdihaaDoorTT
namespace Go.Proofs.YtdnopkpoepdihaaDoor
open Go.RowKit
set_option linter.unusedSimpArgs false
set_option linter.unusedVariables false

theorem OwnT.cap {B : Nat} {w : World} {v : Value} {t : Tree} {hs : List Value} {j : Nat} (h : OwnT B w v t hs j) : ∃ a cap, v = .slice a t.length cap ∧ t.length ≤ cap := by
  rcases h.row.2 with ⟨rfl, h0⟩ | ⟨g, cap, cur, rfl, _, _, hn, _⟩
  · exact ⟨none, 0, by rw [h0], by omega⟩
  · exact ⟨_, cap, rfl, hn⟩

set_option maxRecDepth 100000 in
set_option maxHeartbeats 2000000 in
theorem remove_yes {t : Tree} (hf : Fit t) {v : Value} {w : World} (ht : TreeAt w v t) (hT : Tab w) (i : Int) (hi : fullB t i = true) (hm : (members t).length ≠ 1) :
    Calls Tryd.prog 35 #[v, .int .i64 i] w fun e w' => ∃ v', e = .returned (.tuple #[v', .int .i64 0]) ∧ TreeAt w' v' (remF t i) ∧ Below w.heap.size w w' := by
  obtain ⟨k, rfl, hk, _⟩ := fullB_nat hi
  have hs := hf.sh
  have hb := hs.bounds
  have hml := membersN_len t (lv t)
  have hfp := hf.put k PV.blank rfl
  have hRe : ∀ W, TreeAt W v t → Tab W → Calls Tryd.prog 65 #[v, .int .i64 k, PV.blank.val (.slice none 0 0)] W fun e w' => ∃ v' hs, e = .returned v' ∧ OwnT W.heap.size w' v' (putF t k PV.blank) hs (putF t k PV.blank).length ∧ Below W.heap.size W w' := fun W h1 h2 => replaced_any hf h1 h2 k hk PV.blank rfl
  simp only [PV.val, PV.blank] at hRe
  have hm1 : (((members t).length : Int) == 1) = false := by simp; omega
  go_enter Tryd.func35, Tryd.ntmps35
  go_wp2_with fail
  refine (isMember_any ht hs k).mono ?_
  rintro e w' ⟨rfl, hw⟩
  obtain rfl := hw.symm
  rw [hi]
  go_wp2_with fail
  refine (Members_any ht hs).mono ?_
  rintro e w1 ⟨v1, rfl, m1, b1⟩
  obtain ⟨a1, cap1, hv1, _⟩ := m1.ints (by unfold members; omega)
  subst hv1
  have ht1 := ht.below b1
  have hT1 := hT.below b1 hT.size
  go_wp2_with fail
  refine (hRe w1 ht1 hT1).mono ?_
  rintro e w2 ⟨v2, hs2, rfl, o2, b2⟩
  have hsh : Sh (putF t k PV.blank) := hfp.sh
  have ht2 : TreeAt w2 v2 (putF t k PV.blank) := o2.treeF hfp
  have hcp : ∃ a cap, v2 = .slice a (putF t k PV.blank).length cap ∧ (putF t k PV.blank).length ≤ cap := o2.cap
  go_wp2_with fail
  refine (shrunk_any hsh ht2 hcp).mono ?_
  rintro e w3 ⟨v3, rfl, ht3, b3⟩
  go_wp2_with fail
  go_ret2
  exact ⟨_, rfl, ht3, on b1 (on b2 b3)⟩

set_option maxHeartbeats 1000000 in
theorem remove_no {t : Tree} (hf : Fit t) {v : Value} {w : World} (ht : TreeAt w v t) (i : Int) (hi : fullB t i = false) :
    Calls Tryd.prog 35 #[v, .int .i64 i] w fun e w' => e = .returned (.tuple #[.slice none 0 0, .int .i64 40]) ∧ Below w.heap.size w w' := by
  go_enter Tryd.func35, Tryd.ntmps35
  go_wp2_with fail
  refine (isMember_any ht hf.sh i).mono ?_
  rintro e w' ⟨rfl, hw⟩
  obtain rfl := hw.symm
  rw [hi]
  go_wp2_with fail
  go_ret2
  exact ⟨rfl, Below.refl _ _⟩

set_option maxHeartbeats 1000000 in
theorem remove_only {t : Tree} (hf : Fit t) {v : Value} {w : World} (ht : TreeAt w v t) (i : Int) (hi : fullB t i = true) (hm : (members t).length = 1) :
    Calls Tryd.prog 35 #[v, .int .i64 i] w fun e w' => e = .returned (.tuple #[.slice none 0 0, .int .i64 40]) ∧ Below w.heap.size w w' := by
  have hm1 : (((members t).length : Int) == 1) = true := by simp [hm]
  have HM : Hid ((members t).length = 1) := hm
  clear hm
  go_enter Tryd.func35, Tryd.ntmps35
  go_wp2_with fail
  refine (isMember_any ht hf.sh i).mono ?_
  rintro e w' ⟨rfl, hw⟩
  obtain rfl := hw.symm
  rw [hi]
  go_wp2_with fail
  refine (Members_any ht hf.sh).mono ?_
  rintro e w1 ⟨v1, rfl, m1, b1⟩
  obtain ⟨a1, cap1, hv1, _⟩ := m1.ints (by rw [HM.out]; decide)
  subst hv1
  go_wp2_with fail
  go_ret2
  exact ⟨rfl, b1⟩

end Go.Proofs.YtdnopkpoepdihaaDoor
