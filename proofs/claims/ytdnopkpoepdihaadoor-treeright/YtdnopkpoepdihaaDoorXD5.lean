/-
  The law TreeRight: a merge that is refused.
-/
import Derived.Test.YtdnopkpoepdihaaDoorXA
import Derived.Test.YtdnopkpoepdihaaDoorXD
import Derived.Test.YtdnopkpoepdihaaDoorXB
import Derived.Deep.QuietTactic
import Derived.BigQuiet
namespace Go.Proofs.YtdnopkpoepdihaaDoor
open Go.RowKit
set_option linter.unusedSimpArgs false
set_option linter.unusedVariables false

set_option maxHeartbeats 8000000 in
set_option maxRecDepth 100000 in
theorem right_merge_no (u : PV) (h : Value) (o : POp) (oh : Value) {w : World} {vs : Value} {l : List (POp × Value)} (hs : ScriptAt w vs l) (hT : Tab w) (hk : o.kind = 4) (hi : fullB (grownF u (l.map (·.1))) o.i = false) :
    Calls Tryd.prog 6 #[u.val h, vs, o.val oh] w fun e w' => e = .returned (.bool true) ∧ Below w.heap.size w w' := by
  have Hk : Hid (o.kind = 4) := hk
  clear hk
  have hT1 := hT.size
  have hG := Good.grown u (l.map (·.1))
  have hgr : ∀ W, ScriptAt W vs l → Calls Tryd.prog 30 #[u.val h, vs] W fun e w' => ∃ v', e = .returned v' ∧ TreeP (fun b => W.heap.size ≤ b) w' v' (grownF u (l.map (·.1))) ∧ Below W.heap.size W w' := fun W hW => grown_made u h hW
  obtain ⟨T, hTT⟩ : ∃ T, grownF u (l.map (·.1)) = T := ⟨_, rfl⟩
  rw [hTT] at hG hgr hi
  clear hTT
  obtain ⟨w0, hw0⟩ : ∃ w0, (w.alloc (.cells (leafCells u h) 24)).alloc (.cells (opCells o oh) 31) = w0 := ⟨_, rfl⟩
  have b0 : Below w.heap.size w w0 := by rw [← hw0]; exact ((Below.refl _ _).alloc (Nat.le_refl _) _).alloc (by simp) _
  have hz0 : w0.heap.size = w.heap.size + 2 := by rw [← hw0]; simp
  have bc : ∀ r, w0.cell? ⟨w.heap.size, r, none⟩ = (leafCells u h)[r]? := fun r => by rw [← hw0]; simp
  have bd : ∀ r, w0.cell? ⟨w.heap.size + 1, r, none⟩ = (opCells o oh)[r]? := fun r => by rw [← hw0]; simp
  have hbx : w0.heap[w.heap.size + 1]? = some (.cells (opCells o oh) 31) := by
    rw [← hw0]
    have := heap_alloc_new (w.alloc (.cells (leafCells u h) 24)) (.cells (opCells o oh) 31)
    simpa using this
  have hT0 := hT.below b0 hT1
  have hs0 := hs.below b0
  unfold PV.val at hgr
  unfold PV.val POp.val
  unfold leafCells opCells at hw0
  go_enter Tryd.func6, Tryd.ntmps6
  go_wp2_with (rw [hw0])
  refine (anchor_any hT0).mono ?_
  rintro e w1 ⟨rfl, b1⟩
  have hs1 := hs0.below b1
  obtain ⟨c0, c1, c2, c3, c4, c5⟩ := leaf_cells b1 (by omega) bc
  clear hw0
  go_wp2_with fail
  refine (hgr w1 hs1).mono ?_
  rintro e w2 ⟨v2, rfl, t2, b2⟩
  clear c0 c1 c2 c3 c4 c5
  have b12 := on b1 b2
  have hbT := hG.sh.bounds
  have hmT : (members T).length ≤ 32 := by
    have := membersN_len T (lv T)
    show (membersN T (lv T)).length ≤ 32
    omega
  go_wp2_with fail
  refine (refMembers_any t2.tree hG.sh).mono ?_
  rintro e w3 ⟨v3, rfl, o3, b3⟩
  obtain ⟨wa, wcap, rfl, _⟩ := ownsRow_ints o3 (by omega)
  clear o3
  have b13 := on b12 b3
  have b03 := on b0 b13
  have t3 := t2.below b3
  have hT3 := hT0.below b13 (by omega)
  obtain ⟨p, hp⟩ : ∃ p : POp, p = { o with more := 0 } := ⟨_, rfl⟩
  have pk : p.kind = o.kind := by rw [hp]
  have pi : p.i = o.i := by rw [hp]
  have pl : p.leaf = o.leaf := by rw [hp]
  have pm : p.more = 0 := by rw [hp]
  obtain ⟨d0, d1, d2, d3, d4, d5, d6, d7, d8⟩ := step_cells b13 (by omega) bd
  have fz : w3.frozen? ⟨w.heap.size + 1, 8, none⟩ = false := by
    rw [b13.frozen (p := ⟨w.heap.size + 1, 8, none⟩) (by show w.heap.size + 1 < _; omega)]
    unfold World.frozen?
    rw [hbx]
    simp
  obtain ⟨w9, hw9⟩ : ∃ w9, w3.setCell ⟨w.heap.size + 1, 8, none⟩ (.int .i64 0) = w9 := ⟨_, rfl⟩
  have b09 : Below w.heap.size w w9 := by rw [← hw9]; exact b03.setCell (by show _ ≤ w.heap.size + 1; omega) _
  have hz9 : w9.heap.size = w3.heap.size := by rw [← hw9]; simp
  have hsz3 := b13.size
  have bd9 : ∀ r, w9.cell? ⟨w.heap.size + 1, r, none⟩ = (opCells p oh)[r]? := fun r => by
    rw [← hw9]
    by_cases hr8 : r = 8
    · subst hr8
      rw [World.cell?_setCell_same' _ _ _ (by rw [d8]; rfl)]
      simp [opCells, pm]
    · rw [World.cell?_setCell_other _ _ _ _ (by simp [Ne.symm hr8]), (b13.cell (p := ⟨w.heap.size + 1, r, none⟩) (by show w.heap.size + 1 < _; omega)).trans (bd r)]
      rw [hp]
      unfold opCells
      match r, hr8 with
      | 0, _ => rfl
      | 1, _ => rfl
      | 2, _ => rfl
      | 3, _ => rfl
      | 4, _ => rfl
      | 5, _ => rfl
      | 6, _ => rfl
      | 7, _ => rfl
      | 8, h => exact absurd rfl h
      | r + 9, _ => rw [Array.getElem?_eq_none (by simp), Array.getElem?_eq_none (by simp)]
  have t9 : TreeAt w9 v2 T := by
    rw [← hw9]
    exact (t3.set (by show ¬ w1.heap.size ≤ w.heap.size + 1; have := b1.size; omega) _).tree
  have hT9 : Tab w9 := hT.below b09 hT1
  clear hp
  have Hlt : Hid (w.heap.size + 1 < w9.heap.size) := by show _ < _; omega
  have Hbd2 : Hid (∀ r, w9.cell? ⟨w.heap.size + 1, r, none⟩ = (opCells p oh)[r]?) := bd9
  have Hb03 : Hid (Below w.heap.size w w9) := b09
  have Hw3 : Hid (w.heap.size ≤ w9.heap.size) := b09.size
  have Hbd : Hid (∀ W, Below w9.heap.size w9 W → Below w9.heap.size w9 W) := fun W hW => hW
  obtain ⟨x0, x1, x2, x3, x4, x5, x6, x7, x8⟩ := step_cells (Below.refl _ _) Hlt.out bd9
  obtain ⟨va3, vcap3, rfl, _⟩ := id t9
  have i1 : (T.length : Int) ≤ 63 := by omega
  have i2 : ((members T).length : Int) ≤ 32 := by omega
  rw [show o.kind = 4 from Hk.out] at d0 pk
  rw [← pi] at hi d1
  have Hk2 : Hid (p.kind = 4) := pk
  clear pk
  have hk0 := keys_any hG.fit t9 p oh
  have hkl : ((keysF T p).length : Int) ≤ 9223372036854775807 := by unfold keysF; have := filt_len T p.i; have := extra_le p; simp; omega
  have Hke : Hid ((keysF T p).length = (filt T p.i).length) := by show _ = _; unfold keysF extra; rw [pm]; simp
  unfold POp.val at hk0
  rw [pm] at hk0
  clear bc bd hgr hs hs0 hs1 b1 b2 b12 b13 b3 hz0 t2 hT0 b03 hT hT1 t3 hT3 bd9 b09 hz9 hsz3 pi pl hbx
  go_wp2_with (rw [hw9])
  clear hw9 fz d0 d1 d2 d3 d4 d5 d6 d7 d8
  go_wp2_with fail
  refine hk0.mono ?_
  rintro e w10 ⟨v10, rfl, o10, b10⟩
  clear hk0
  have hks := ownsRow_ints o10 hkl
  have t10 := t9.below b10
  have hT10 := hT9.below b10 hT9.size
  obtain ⟨ka, kcap, rfl, _⟩ := id hks
  clear o10 hkl x0 x1 x2 x3 x4 x5 x6 x7 x8
  obtain ⟨x0, x1, x2, x3, x4, x5, x6, x7, x8⟩ := step_cells b10 Hlt.out Hbd2.out
  have ha := merge_no hG.fit t10 p.i hi p.leaf oh (.slice ka (keysF T p).length kcap) (.slice ka (keysF T p).length kcap)
  unfold PV.val at ha
  obtain ⟨K, hK⟩ : ∃ K, keysF T p = K := ⟨_, rfl⟩
  rw [hK] at ha
  rw [hK]
  clear hK Hke hks
  go_wp2_with fail
  refine ha.mono ?_
  rintro e w4 ⟨rfl, b4⟩
  clear ha
  go_wp2_with fail
  go_ret
  exact ⟨rfl, on Hb03.out (on b10 b4)⟩

end Go.Proofs.YtdnopkpoepdihaaDoor
