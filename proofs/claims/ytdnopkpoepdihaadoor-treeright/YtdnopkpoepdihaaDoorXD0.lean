/-
  The law TreeRight: the steps that are refused, and those of no kind.
-/
import Derived.Test.YtdnopkpoepdihaaDoorXA
import Derived.Test.YtdnopkpoepdihaaDoorXD
import Derived.Test.YtdnopkpoepdihaaDoorXB
import Derived.Deep.QuietTactic
import Derived.BigQuiet
namespace Go.Proofs.YtdnopkpoepdihaaDoor
open Go.RowKit
set_option linter.unusedSimpArgs false
set_option linter.unusedVariables false

set_option maxHeartbeats 8000000 in
set_option maxRecDepth 100000 in
theorem right_add_no (u : PV) (h : Value) (o : POp) (oh : Value) {w : World} {vs : Value} {l : List (POp × Value)} (hs : ScriptAt w vs l) (hT : Tab w) (hk : o.kind = 1) (hr : least (grownF u (l.map (·.1))) = lv (grownF u (l.map (·.1))) ∧ lv (grownF u (l.map (·.1))) = 32) :
    Calls Tryd.prog 6 #[u.val h, vs, o.val oh] w fun e w' => e = .returned (.bool true) ∧ Below w.heap.size w w' := by
  have Hk : Hid (o.kind = 1) := hk
  clear hk
  have hT1 := hT.size
  have hG := Good.grown u (l.map (·.1))
  have hgr : ∀ W, ScriptAt W vs l → Calls Tryd.prog 30 #[u.val h, vs] W fun e w' => ∃ v', e = .returned v' ∧ TreeAt w' v' (grownF u (l.map (·.1))) ∧ Below W.heap.size W w' := fun W hW => grown_any u h hW
  obtain ⟨T, hTT⟩ : ∃ T, grownF u (l.map (·.1)) = T := ⟨_, rfl⟩
  rw [hTT] at hG hgr hr
  clear hTT
  obtain ⟨w0, hw0⟩ : ∃ w0, (w.alloc (.cells (leafCells u h) 24)).alloc (.cells (opCells o oh) 31) = w0 := ⟨_, rfl⟩
  have b0 : Below w.heap.size w w0 := by rw [← hw0]; exact ((Below.refl _ _).alloc (Nat.le_refl _) _).alloc (by simp) _
  have hz0 : w0.heap.size = w.heap.size + 2 := by rw [← hw0]; simp
  have bc : ∀ r, w0.cell? ⟨w.heap.size, r, none⟩ = (leafCells u h)[r]? := fun r => by rw [← hw0]; simp
  have bd : ∀ r, w0.cell? ⟨w.heap.size + 1, r, none⟩ = (opCells o oh)[r]? := fun r => by rw [← hw0]; simp
  have hT0 := hT.below b0 hT1
  have hs0 := hs.below b0
  unfold PV.val at hgr
  unfold PV.val POp.val
  unfold leafCells opCells at hw0
  go_enter Tryd.func6, Tryd.ntmps6
  go_wp2_with (rw [hw0])
  refine (anchor_any hT0).mono ?_
  rintro e w1 ⟨rfl, b1⟩
  have hs1 := hs0.below b1
  obtain ⟨c0, c1, c2, c3, c4, c5⟩ := leaf_cells b1 (by omega) bc
  clear hw0
  go_wp2_with fail
  refine (hgr w1 hs1).mono ?_
  rintro e w2 ⟨v2, rfl, t2, b2⟩
  clear c0 c1 c2 c3 c4 c5
  have b12 := on b1 b2
  have hbT := hG.sh.bounds
  have hmT : (members T).length ≤ 32 := by
    have := membersN_len T (lv T)
    show (membersN T (lv T)).length ≤ 32
    omega
  go_wp2_with fail
  refine (refMembers_any t2 hG.sh).mono ?_
  rintro e w3 ⟨v3, rfl, o3, b3⟩
  obtain ⟨wa, wcap, rfl, _⟩ := ownsRow_ints o3 (by omega)
  clear o3
  have b13 := on b12 b3
  have b03 := on b0 b13
  have t3 := t2.below b3
  have hT3 := hT0.below b13 (by omega)
  have Hbd : Hid (∀ W, Below w3.heap.size w3 W → Below w0.heap.size w0 W) := fun W hW => on b13 hW
  have Hlt : Hid (w.heap.size + 1 < w0.heap.size) := by show _ < _; omega
  have Hbd2 : Hid (∀ r, w0.cell? ⟨w.heap.size + 1, r, none⟩ = (opCells o oh)[r]?) := bd
  have Hb03 : Hid (Below w.heap.size w w3) := b03
  have Hw3 : Hid (w.heap.size ≤ w3.heap.size) := b03.size
  obtain ⟨d0, d1, d2, d3, d4, d5, d6, d7, d8⟩ := step_cells b13 (by omega) bd
  obtain ⟨va3, vcap3, rfl, _⟩ := id t3
  have i1 : (T.length : Int) ≤ 63 := by omega
  have i2 : ((members T).length : Int) ≤ 32 := by omega
  clear bc bd hgr hs hs0 hs1 b1 b2 b12 b13 b3 hz0 t2 hT0 b03 hT hT1
  rw [show o.kind = 1 from Hk.out] at d0
  have ha := add_no hG.fit t3 o.leaf oh hr.1 hr.2
  unfold PV.val at ha
  go_wp2_with fail
  refine ha.mono ?_
  rintro e w4 ⟨rfl, b4⟩
  clear ha
  go_wp2_with fail
  go_ret
  exact ⟨rfl, on Hb03.out b4⟩

set_option maxHeartbeats 8000000 in
set_option maxRecDepth 100000 in
theorem right_update_no (u : PV) (h : Value) (o : POp) (oh : Value) {w : World} {vs : Value} {l : List (POp × Value)} (hs : ScriptAt w vs l) (hT : Tab w) (hk : o.kind = 2) (hi : fullB (grownF u (l.map (·.1))) o.i = false) :
    Calls Tryd.prog 6 #[u.val h, vs, o.val oh] w fun e w' => e = .returned (.bool true) ∧ Below w.heap.size w w' := by
  have Hk : Hid (o.kind = 2) := hk
  clear hk
  have hT1 := hT.size
  have hG := Good.grown u (l.map (·.1))
  have hgr : ∀ W, ScriptAt W vs l → Calls Tryd.prog 30 #[u.val h, vs] W fun e w' => ∃ v', e = .returned v' ∧ TreeAt w' v' (grownF u (l.map (·.1))) ∧ Below W.heap.size W w' := fun W hW => grown_any u h hW
  obtain ⟨T, hTT⟩ : ∃ T, grownF u (l.map (·.1)) = T := ⟨_, rfl⟩
  rw [hTT] at hG hgr hi
  clear hTT
  obtain ⟨w0, hw0⟩ : ∃ w0, (w.alloc (.cells (leafCells u h) 24)).alloc (.cells (opCells o oh) 31) = w0 := ⟨_, rfl⟩
  have b0 : Below w.heap.size w w0 := by rw [← hw0]; exact ((Below.refl _ _).alloc (Nat.le_refl _) _).alloc (by simp) _
  have hz0 : w0.heap.size = w.heap.size + 2 := by rw [← hw0]; simp
  have bc : ∀ r, w0.cell? ⟨w.heap.size, r, none⟩ = (leafCells u h)[r]? := fun r => by rw [← hw0]; simp
  have bd : ∀ r, w0.cell? ⟨w.heap.size + 1, r, none⟩ = (opCells o oh)[r]? := fun r => by rw [← hw0]; simp
  have hT0 := hT.below b0 hT1
  have hs0 := hs.below b0
  unfold PV.val at hgr
  unfold PV.val POp.val
  unfold leafCells opCells at hw0
  go_enter Tryd.func6, Tryd.ntmps6
  go_wp2_with (rw [hw0])
  refine (anchor_any hT0).mono ?_
  rintro e w1 ⟨rfl, b1⟩
  have hs1 := hs0.below b1
  obtain ⟨c0, c1, c2, c3, c4, c5⟩ := leaf_cells b1 (by omega) bc
  clear hw0
  go_wp2_with fail
  refine (hgr w1 hs1).mono ?_
  rintro e w2 ⟨v2, rfl, t2, b2⟩
  clear c0 c1 c2 c3 c4 c5
  have b12 := on b1 b2
  have hbT := hG.sh.bounds
  have hmT : (members T).length ≤ 32 := by
    have := membersN_len T (lv T)
    show (membersN T (lv T)).length ≤ 32
    omega
  go_wp2_with fail
  refine (refMembers_any t2 hG.sh).mono ?_
  rintro e w3 ⟨v3, rfl, o3, b3⟩
  obtain ⟨wa, wcap, rfl, _⟩ := ownsRow_ints o3 (by omega)
  clear o3
  have b13 := on b12 b3
  have b03 := on b0 b13
  have t3 := t2.below b3
  have hT3 := hT0.below b13 (by omega)
  have Hbd : Hid (∀ W, Below w3.heap.size w3 W → Below w0.heap.size w0 W) := fun W hW => on b13 hW
  have Hlt : Hid (w.heap.size + 1 < w0.heap.size) := by show _ < _; omega
  have Hbd2 : Hid (∀ r, w0.cell? ⟨w.heap.size + 1, r, none⟩ = (opCells o oh)[r]?) := bd
  have Hb03 : Hid (Below w.heap.size w w3) := b03
  have Hw3 : Hid (w.heap.size ≤ w3.heap.size) := b03.size
  obtain ⟨d0, d1, d2, d3, d4, d5, d6, d7, d8⟩ := step_cells b13 (by omega) bd
  obtain ⟨va3, vcap3, rfl, _⟩ := id t3
  have i1 : (T.length : Int) ≤ 63 := by omega
  have i2 : ((members T).length : Int) ≤ 32 := by omega
  clear bc bd hgr hs hs0 hs1 b1 b2 b12 b13 b3 hz0 t2 hT0 b03 hT hT1
  rw [show o.kind = 2 from Hk.out] at d0
  have ha := update_no hG.fit t3 o.i hi o.leaf oh
  unfold PV.val at ha
  go_wp2_with fail
  refine ha.mono ?_
  rintro e w4 ⟨rfl, b4⟩
  clear ha
  go_wp2_with fail
  go_ret
  exact ⟨rfl, on Hb03.out b4⟩

set_option maxHeartbeats 8000000 in
set_option maxRecDepth 100000 in
theorem right_remove_no (u : PV) (h : Value) (o : POp) (oh : Value) {w : World} {vs : Value} {l : List (POp × Value)} (hs : ScriptAt w vs l) (hT : Tab w) (hk : o.kind = 3) (hi : fullB (grownF u (l.map (·.1))) o.i = false) :
    Calls Tryd.prog 6 #[u.val h, vs, o.val oh] w fun e w' => e = .returned (.bool true) ∧ Below w.heap.size w w' := by
  have Hk : Hid (o.kind = 3) := hk
  clear hk
  have hT1 := hT.size
  have hG := Good.grown u (l.map (·.1))
  have hgr : ∀ W, ScriptAt W vs l → Calls Tryd.prog 30 #[u.val h, vs] W fun e w' => ∃ v', e = .returned v' ∧ TreeAt w' v' (grownF u (l.map (·.1))) ∧ Below W.heap.size W w' := fun W hW => grown_any u h hW
  obtain ⟨T, hTT⟩ : ∃ T, grownF u (l.map (·.1)) = T := ⟨_, rfl⟩
  rw [hTT] at hG hgr hi
  clear hTT
  obtain ⟨w0, hw0⟩ : ∃ w0, (w.alloc (.cells (leafCells u h) 24)).alloc (.cells (opCells o oh) 31) = w0 := ⟨_, rfl⟩
  have b0 : Below w.heap.size w w0 := by rw [← hw0]; exact ((Below.refl _ _).alloc (Nat.le_refl _) _).alloc (by simp) _
  have hz0 : w0.heap.size = w.heap.size + 2 := by rw [← hw0]; simp
  have bc : ∀ r, w0.cell? ⟨w.heap.size, r, none⟩ = (leafCells u h)[r]? := fun r => by rw [← hw0]; simp
  have bd : ∀ r, w0.cell? ⟨w.heap.size + 1, r, none⟩ = (opCells o oh)[r]? := fun r => by rw [← hw0]; simp
  have hT0 := hT.below b0 hT1
  have hs0 := hs.below b0
  unfold PV.val at hgr
  unfold PV.val POp.val
  unfold leafCells opCells at hw0
  go_enter Tryd.func6, Tryd.ntmps6
  go_wp2_with (rw [hw0])
  refine (anchor_any hT0).mono ?_
  rintro e w1 ⟨rfl, b1⟩
  have hs1 := hs0.below b1
  obtain ⟨c0, c1, c2, c3, c4, c5⟩ := leaf_cells b1 (by omega) bc
  clear hw0
  go_wp2_with fail
  refine (hgr w1 hs1).mono ?_
  rintro e w2 ⟨v2, rfl, t2, b2⟩
  clear c0 c1 c2 c3 c4 c5
  have b12 := on b1 b2
  have hbT := hG.sh.bounds
  have hmT : (members T).length ≤ 32 := by
    have := membersN_len T (lv T)
    show (membersN T (lv T)).length ≤ 32
    omega
  go_wp2_with fail
  refine (refMembers_any t2 hG.sh).mono ?_
  rintro e w3 ⟨v3, rfl, o3, b3⟩
  obtain ⟨wa, wcap, rfl, _⟩ := ownsRow_ints o3 (by omega)
  clear o3
  have b13 := on b12 b3
  have b03 := on b0 b13
  have t3 := t2.below b3
  have hT3 := hT0.below b13 (by omega)
  have Hbd : Hid (∀ W, Below w3.heap.size w3 W → Below w0.heap.size w0 W) := fun W hW => on b13 hW
  have Hlt : Hid (w.heap.size + 1 < w0.heap.size) := by show _ < _; omega
  have Hbd2 : Hid (∀ r, w0.cell? ⟨w.heap.size + 1, r, none⟩ = (opCells o oh)[r]?) := bd
  have Hb03 : Hid (Below w.heap.size w w3) := b03
  have Hw3 : Hid (w.heap.size ≤ w3.heap.size) := b03.size
  obtain ⟨d0, d1, d2, d3, d4, d5, d6, d7, d8⟩ := step_cells b13 (by omega) bd
  obtain ⟨va3, vcap3, rfl, _⟩ := id t3
  have i1 : (T.length : Int) ≤ 63 := by omega
  have i2 : ((members T).length : Int) ≤ 32 := by omega
  clear bc bd hgr hs hs0 hs1 b1 b2 b12 b13 b3 hz0 t2 hT0 b03 hT hT1
  rw [show o.kind = 3 from Hk.out] at d0
  have ha := remove_no hG.fit t3 o.i hi
  go_wp2_with fail
  refine ha.mono ?_
  rintro e w4 ⟨rfl, b4⟩
  clear ha
  go_wp2_with fail
  go_ret
  exact ⟨rfl, on Hb03.out b4⟩

set_option maxHeartbeats 8000000 in
set_option maxRecDepth 100000 in
theorem right_remove_only (u : PV) (h : Value) (o : POp) (oh : Value) {w : World} {vs : Value} {l : List (POp × Value)} (hs : ScriptAt w vs l) (hT : Tab w) (hk : o.kind = 3) (hi : fullB (grownF u (l.map (·.1))) o.i = true) (hm : (members (grownF u (l.map (·.1)))).length = 1) :
    Calls Tryd.prog 6 #[u.val h, vs, o.val oh] w fun e w' => e = .returned (.bool true) ∧ Below w.heap.size w w' := by
  have Hk : Hid (o.kind = 3) := hk
  clear hk
  have hT1 := hT.size
  have hG := Good.grown u (l.map (·.1))
  have hgr : ∀ W, ScriptAt W vs l → Calls Tryd.prog 30 #[u.val h, vs] W fun e w' => ∃ v', e = .returned v' ∧ TreeAt w' v' (grownF u (l.map (·.1))) ∧ Below W.heap.size W w' := fun W hW => grown_any u h hW
  obtain ⟨T, hTT⟩ : ∃ T, grownF u (l.map (·.1)) = T := ⟨_, rfl⟩
  rw [hTT] at hG hgr hi hm
  clear hTT
  obtain ⟨w0, hw0⟩ : ∃ w0, (w.alloc (.cells (leafCells u h) 24)).alloc (.cells (opCells o oh) 31) = w0 := ⟨_, rfl⟩
  have b0 : Below w.heap.size w w0 := by rw [← hw0]; exact ((Below.refl _ _).alloc (Nat.le_refl _) _).alloc (by simp) _
  have hz0 : w0.heap.size = w.heap.size + 2 := by rw [← hw0]; simp
  have bc : ∀ r, w0.cell? ⟨w.heap.size, r, none⟩ = (leafCells u h)[r]? := fun r => by rw [← hw0]; simp
  have bd : ∀ r, w0.cell? ⟨w.heap.size + 1, r, none⟩ = (opCells o oh)[r]? := fun r => by rw [← hw0]; simp
  have hT0 := hT.below b0 hT1
  have hs0 := hs.below b0
  unfold PV.val at hgr
  unfold PV.val POp.val
  unfold leafCells opCells at hw0
  go_enter Tryd.func6, Tryd.ntmps6
  go_wp2_with (rw [hw0])
  refine (anchor_any hT0).mono ?_
  rintro e w1 ⟨rfl, b1⟩
  have hs1 := hs0.below b1
  obtain ⟨c0, c1, c2, c3, c4, c5⟩ := leaf_cells b1 (by omega) bc
  clear hw0
  go_wp2_with fail
  refine (hgr w1 hs1).mono ?_
  rintro e w2 ⟨v2, rfl, t2, b2⟩
  clear c0 c1 c2 c3 c4 c5
  have b12 := on b1 b2
  have hbT := hG.sh.bounds
  have hmT : (members T).length ≤ 32 := by
    have := membersN_len T (lv T)
    show (membersN T (lv T)).length ≤ 32
    omega
  go_wp2_with fail
  refine (refMembers_any t2 hG.sh).mono ?_
  rintro e w3 ⟨v3, rfl, o3, b3⟩
  obtain ⟨wa, wcap, rfl, _⟩ := ownsRow_ints o3 (by omega)
  clear o3
  have b13 := on b12 b3
  have b03 := on b0 b13
  have t3 := t2.below b3
  have hT3 := hT0.below b13 (by omega)
  have Hbd : Hid (∀ W, Below w3.heap.size w3 W → Below w0.heap.size w0 W) := fun W hW => on b13 hW
  have Hlt : Hid (w.heap.size + 1 < w0.heap.size) := by show _ < _; omega
  have Hbd2 : Hid (∀ r, w0.cell? ⟨w.heap.size + 1, r, none⟩ = (opCells o oh)[r]?) := bd
  have Hb03 : Hid (Below w.heap.size w w3) := b03
  have Hw3 : Hid (w.heap.size ≤ w3.heap.size) := b03.size
  obtain ⟨d0, d1, d2, d3, d4, d5, d6, d7, d8⟩ := step_cells b13 (by omega) bd
  obtain ⟨va3, vcap3, rfl, _⟩ := id t3
  have i1 : (T.length : Int) ≤ 63 := by omega
  have i2 : ((members T).length : Int) ≤ 32 := by omega
  clear bc bd hgr hs hs0 hs1 b1 b2 b12 b13 b3 hz0 t2 hT0 b03 hT hT1
  rw [show o.kind = 3 from Hk.out] at d0
  have ha := remove_only hG.fit t3 o.i hi hm
  go_wp2_with fail
  refine ha.mono ?_
  rintro e w4 ⟨rfl, b4⟩
  clear ha
  go_wp2_with fail
  go_ret
  exact ⟨rfl, on Hb03.out b4⟩

set_option maxHeartbeats 8000000 in
set_option maxRecDepth 100000 in
theorem right_none (u : PV) (h : Value) (o : POp) (oh : Value) {w : World} {vs : Value} {l : List (POp × Value)} (hs : ScriptAt w vs l) (hT : Tab w) (hk1 : ¬ o.kind = 1) (hk2 : ¬ o.kind = 2) (hk3 : ¬ o.kind = 3) (hk4 : ¬ o.kind = 4) :
    Calls Tryd.prog 6 #[u.val h, vs, o.val oh] w fun e w' => e = .returned (.bool true) ∧ Below w.heap.size w w' := by
  have hT1 := hT.size
  have hG := Good.grown u (l.map (·.1))
  have hgr : ∀ W, ScriptAt W vs l → Calls Tryd.prog 30 #[u.val h, vs] W fun e w' => ∃ v', e = .returned v' ∧ TreeAt w' v' (grownF u (l.map (·.1))) ∧ Below W.heap.size W w' := fun W hW => grown_any u h hW
  obtain ⟨T, hTT⟩ : ∃ T, grownF u (l.map (·.1)) = T := ⟨_, rfl⟩
  rw [hTT] at hG hgr
  clear hTT
  obtain ⟨w0, hw0⟩ : ∃ w0, (w.alloc (.cells (leafCells u h) 24)).alloc (.cells (opCells o oh) 31) = w0 := ⟨_, rfl⟩
  have b0 : Below w.heap.size w w0 := by rw [← hw0]; exact ((Below.refl _ _).alloc (Nat.le_refl _) _).alloc (by simp) _
  have hz0 : w0.heap.size = w.heap.size + 2 := by rw [← hw0]; simp
  have bc : ∀ r, w0.cell? ⟨w.heap.size, r, none⟩ = (leafCells u h)[r]? := fun r => by rw [← hw0]; simp
  have bd : ∀ r, w0.cell? ⟨w.heap.size + 1, r, none⟩ = (opCells o oh)[r]? := fun r => by rw [← hw0]; simp
  have hT0 := hT.below b0 hT1
  have hs0 := hs.below b0
  unfold PV.val at hgr
  unfold PV.val POp.val
  unfold leafCells opCells at hw0
  go_enter Tryd.func6, Tryd.ntmps6
  go_wp2_with (rw [hw0])
  refine (anchor_any hT0).mono ?_
  rintro e w1 ⟨rfl, b1⟩
  have hs1 := hs0.below b1
  obtain ⟨c0, c1, c2, c3, c4, c5⟩ := leaf_cells b1 (by omega) bc
  clear hw0
  go_wp2_with fail
  refine (hgr w1 hs1).mono ?_
  rintro e w2 ⟨v2, rfl, t2, b2⟩
  clear c0 c1 c2 c3 c4 c5
  have b12 := on b1 b2
  have hbT := hG.sh.bounds
  have hmT : (members T).length ≤ 32 := by
    have := membersN_len T (lv T)
    show (membersN T (lv T)).length ≤ 32
    omega
  go_wp2_with fail
  refine (refMembers_any t2 hG.sh).mono ?_
  rintro e w3 ⟨v3, rfl, o3, b3⟩
  obtain ⟨wa, wcap, rfl, _⟩ := ownsRow_ints o3 (by omega)
  clear o3
  have b13 := on b12 b3
  have b03 := on b0 b13
  have t3 := t2.below b3
  have hT3 := hT0.below b13 (by omega)
  have Hbd : Hid (∀ W, Below w3.heap.size w3 W → Below w0.heap.size w0 W) := fun W hW => on b13 hW
  have Hlt : Hid (w.heap.size + 1 < w0.heap.size) := by show _ < _; omega
  have Hbd2 : Hid (∀ r, w0.cell? ⟨w.heap.size + 1, r, none⟩ = (opCells o oh)[r]?) := bd
  have Hb03 : Hid (Below w.heap.size w w3) := b03
  have Hw3 : Hid (w.heap.size ≤ w3.heap.size) := b03.size
  obtain ⟨d0, d1, d2, d3, d4, d5, d6, d7, d8⟩ := step_cells b13 (by omega) bd
  obtain ⟨va3, vcap3, rfl, _⟩ := id t3
  have i1 : (T.length : Int) ≤ 63 := by omega
  have i2 : ((members T).length : Int) ≤ 32 := by omega
  clear bc bd hgr hs hs0 hs1 b1 b2 b12 b13 b3 hz0 t2 hT0 b03 hT hT1
  have k1 : (o.kind == 1) = false := by simp [hk1]
  have k2 : (o.kind == 2) = false := by simp [hk2]
  have k3 : (o.kind == 3) = false := by simp [hk3]
  have k4 : (o.kind == 4) = false := by simp [hk4]
  go_wp2_with fail
  go_ret
  exact ⟨rfl, Hb03.out⟩

end Go.Proofs.YtdnopkpoepdihaaDoor
