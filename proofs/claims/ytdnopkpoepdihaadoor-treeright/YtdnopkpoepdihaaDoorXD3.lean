/-
  The law TreeRight: a removal that is taken.
-/
import Derived.Test.YtdnopkpoepdihaaDoorXA
import Derived.Test.YtdnopkpoepdihaaDoorXD
import Derived.Test.YtdnopkpoepdihaaDoorXB
import Derived.Deep.QuietTactic
import Derived.BigQuiet
namespace Go.Proofs.YtdnopkpoepdihaaDoor
open Go.RowKit
set_option linter.unusedSimpArgs false
set_option linter.unusedVariables false

set_option maxHeartbeats 8000000 in
set_option maxRecDepth 100000 in
theorem right_remove (u : PV) (h : Value) (o : POp) (oh : Value) {w : World} {vs : Value} {l : List (POp × Value)} (hs : ScriptAt w vs l) (hT : Tab w) (hk : o.kind = 3) (hi : fullB (grownF u (l.map (·.1))) o.i = true) (hm : (members (grownF u (l.map (·.1)))).length ≠ 1) :
    Calls Tryd.prog 6 #[u.val h, vs, o.val oh] w fun e w' => e = .returned (.bool true) ∧ Below w.heap.size w w' := by
  have Hk : Hid (o.kind = 3) := hk
  clear hk
  have hT1 := hT.size
  have hG := Good.grown u (l.map (·.1))
  have hgr : ∀ W, ScriptAt W vs l → Calls Tryd.prog 30 #[u.val h, vs] W fun e w' => ∃ v', e = .returned v' ∧ TreeAt w' v' (grownF u (l.map (·.1))) ∧ Below W.heap.size W w' := fun W hW => grown_any u h hW
  obtain ⟨T, hTT⟩ : ∃ T, grownF u (l.map (·.1)) = T := ⟨_, rfl⟩
  rw [hTT] at hG hgr hi hm
  clear hTT
  obtain ⟨w0, hw0⟩ : ∃ w0, (w.alloc (.cells (leafCells u h) 24)).alloc (.cells (opCells o oh) 31) = w0 := ⟨_, rfl⟩
  have b0 : Below w.heap.size w w0 := by rw [← hw0]; exact ((Below.refl _ _).alloc (Nat.le_refl _) _).alloc (by simp) _
  have hz0 : w0.heap.size = w.heap.size + 2 := by rw [← hw0]; simp
  have bc : ∀ r, w0.cell? ⟨w.heap.size, r, none⟩ = (leafCells u h)[r]? := fun r => by rw [← hw0]; simp
  have bd : ∀ r, w0.cell? ⟨w.heap.size + 1, r, none⟩ = (opCells o oh)[r]? := fun r => by rw [← hw0]; simp
  have hT0 := hT.below b0 hT1
  have hs0 := hs.below b0
  unfold PV.val at hgr
  unfold PV.val POp.val
  unfold leafCells opCells at hw0
  go_enter Tryd.func6, Tryd.ntmps6
  go_wp2_with (rw [hw0])
  refine (anchor_any hT0).mono ?_
  rintro e w1 ⟨rfl, b1⟩
  have hs1 := hs0.below b1
  obtain ⟨c0, c1, c2, c3, c4, c5⟩ := leaf_cells b1 (by omega) bc
  clear hw0
  go_wp2_with fail
  refine (hgr w1 hs1).mono ?_
  rintro e w2 ⟨v2, rfl, t2, b2⟩
  clear c0 c1 c2 c3 c4 c5
  have b12 := on b1 b2
  have hbT := hG.sh.bounds
  have hmT : (members T).length ≤ 32 := by
    have := membersN_len T (lv T)
    show (membersN T (lv T)).length ≤ 32
    omega
  go_wp2_with fail
  refine (refMembers_any t2 hG.sh).mono ?_
  rintro e w3 ⟨v3, rfl, o3, b3⟩
  obtain ⟨wa, wcap, rfl, _⟩ := ownsRow_ints o3 (by omega)
  clear o3
  have b13 := on b12 b3
  have b03 := on b0 b13
  have t3 := t2.below b3
  have hT3 := hT0.below b13 (by omega)
  have Hbd : Hid (∀ W, Below w3.heap.size w3 W → Below w0.heap.size w0 W) := fun W hW => on b13 hW
  have Hlt : Hid (w.heap.size + 1 < w0.heap.size) := by show _ < _; omega
  have Hbd2 : Hid (∀ r, w0.cell? ⟨w.heap.size + 1, r, none⟩ = (opCells o oh)[r]?) := bd
  have Hb03 : Hid (Below w.heap.size w w3) := b03
  have Hw3 : Hid (w.heap.size ≤ w3.heap.size) := b03.size
  obtain ⟨d0, d1, d2, d3, d4, d5, d6, d7, d8⟩ := step_cells b13 (by omega) bd
  obtain ⟨va3, vcap3, rfl, _⟩ := id t3
  have i1 : (T.length : Int) ≤ 63 := by omega
  have i2 : ((members T).length : Int) ≤ 32 := by omega
  clear bc bd hgr hs hs0 hs1 b1 b2 b12 b13 b3 hz0 t2 hT0 b03 hT hT1
  rw [show o.kind = 3 from Hk.out] at d0
  have ha := remove_yes hG.fit t3 hT3 o.i hi hm
  obtain ⟨ki, hki⟩ : ∃ k : Nat, o.i = k := ⟨o.i.toNat, by have := fullB_range hi; omega⟩
  have hkf : isF T ki = true := by rw [isF_fullB, ← hki]; exact hi
  have hR := rf_rem hG hkf hm o.leaf
  rw [← hki] at hR
  clear hkf hki hm
  go_wp2_with fail
  refine ha.mono ?_
  rintro e w4 ⟨v4, rfl, t4, b4⟩
  clear ha hT3 hi
  have t3' := t3.below b4
  obtain ⟨A, hA⟩ : ∃ A, remF T o.i = A := ⟨_, rfl⟩
  rw [hA] at t4 hR
  clear hA
  have HR : Hid (RF T A (o.i) (-1) o.leaf true) := hR
  have hGA := hR.good
  have hbA := hGA.sh.bounds
  have hlen := hR.len
  have HMm : Hid (∀ i ∈ members A, ∃ j : Nat, i = j ∧ isF A j = true) := fun i hi => isF_mem hi
  have hmA : (members A).length ≤ 32 := by
    have := membersN_len A (lv A)
    show (membersN A (lv A)).length ≤ 32
    omega
  have hck := refCheck_sh t4 hGA.sh
  rw [good_iff.2 hGA] at hck
  have hmm : ∀ W, TreeAt W v4 A → Calls Tryd.prog 21 #[v4] W fun e w' => ∃ v', e = .returned v' ∧ OwnI W.heap.size w' v' (members A) ∧ Below W.heap.size W w' := fun W hW => refMembers_any hW hGA.sh
  have Hfd : Hid (∀ W, TreeAt W v4 A → Calls Tryd.prog 38 #[v4, .int .i64 o.leaf.client] W fun e w' => FindPost A o.leaf.client W e w') := fun W hW => find_any hGA.sh hW _
  have Hff : Hid (∀ W (k : Nat), TreeAt W (.slice va3 T.length vcap3) T → isF T k = true → Calls Tryd.prog 31 #[.slice va3 T.length vcap3, .int .i64 k] W fun e w' => e = .returned (.bool true) ∧ w' = W) := fun W k hW hk => by
    have := refFull_any hW hG.sh k
    rwa [show fullB T k = true by rw [← isF_fullB]; exact hk] at this
  obtain ⟨WL, hWL⟩ : ∃ n, (members T).length = n := ⟨_, rfl⟩
  obtain ⟨M, hM⟩ : ∃ M, members A = M := ⟨_, rfl⟩
  rw [hM] at hmA hmm HMm hlen
  rw [hWL] at hlen i2 ⊢
  clear hWL hM hR hmT
  obtain ⟨va4, vcap4, rfl, hl4, _⟩ := id t4
  have i3 : (A.length : Int) ≤ 63 := by omega
  have i4 : (M.length : Int) ≤ 32 := by omega
  have HbA : Hid (1 ≤ lv A ∧ lv A ≤ 32 ∧ List.length A + 1 = 2 * lv A ∧ List.length A ≤ 63 ∧ 1 ≤ List.length A) := hbA
  have HbT : Hid (1 ≤ lv T ∧ lv T ≤ 32 ∧ List.length T + 1 = 2 * lv T ∧ List.length T ≤ 63 ∧ 1 ≤ List.length T) := hbT
  clear hbA hbT hGA hG d0 d1 d2 d3 d4 d5 d6 d7 d8 t3
  go_wp2_with fail
  refine hck.mono ?_
  rintro e w5 ⟨rfl, b5⟩
  clear hck
  have t5 := t4.below b5
  go_wp2_with fail
  refine (hmm w5 t5).mono ?_
  rintro e w6 ⟨v6, rfl, o6, b6⟩
  clear hmm t5
  have b46 := on b5 b6
  have t6 := t4.below b46
  have q6 := t3'.below b46
  have b36 := on b4 b46
  obtain ⟨na, ncap, rfl, nl, nc⟩ := ownsRow_ints o6 (by omega)
  have Hb36 : Hid (Below w3.heap.size w3 w6) := b36
  clear o6 t4 t3' b5 b6 b46 b4 b36
  have e1 : ((M.length : Int) != (WL : Int) + -1) = false := by simp; omega
  clear hlen
  go_wp2_with fail
  go_loopw [96] (fun k wr => ∃ j : Nat, j ≤ M.length ∧ k = .int .i64 j ∧ Below w6.heap.size w6 wr) (fun k _ => M.length - (intOf k).toNat)
  case atStart => exact ⟨0, Nat.zero_le _, rfl, Below.refl _ _⟩
  case round =>
    obtain ⟨j, hj, rfl, hB⟩ := hrel
    have b3r := on Hb36.out hB
    obtain ⟨d0, d1, d2, d3, d4, d5, d6, d7, d8⟩ := step_cells (Hbd.out _ b3r) Hlt.out Hbd2.out
    have t7 := t6.below hB
    have q7 := q6.below hB
    by_cases hlt : j < M.length
    · obtain ⟨y, hy⟩ : ∃ y, M[j]? = some y := ⟨M[j], by simp [hlt]⟩
      obtain ⟨k, rfl, hk⟩ := HMm.out y (List.mem_of_getElem? hy)
      have hkl := (isF_lt hk).1
      have hbA := HbA.out
      obtain ⟨nb, no, rfl, hnb, ncell⟩ := nc (by rintro rfl; simp at hy)
      have n0 := (hB.cell (p := ⟨nb, no + j, none⟩) hnb).trans (ncell j _ hy)
      obtain ⟨b2, off, cap, hd, e5, hbl, hv⟩ := t7.get (vx_some (t := A) (x := 2 * k) (by omega))
      simp only [Value.slice.injEq] at e5
      obtain ⟨rfl, -, -⟩ := e5
      have a1 := hv.c1
      have a2 := hv.c2
      have a3 := hv.c3
      have i5 : (j : Int) < (M.length : Int) := by omega
      have i6 : (2 * (k : Int)) < A.length := by omega
      have i7 : (k : Int) ≤ 32 := by omega
      have Hd : Hid (∀ n, Below w6.heap.size w6 (wr.drewN n)) := fun n => on hB ⟨rfl, rfl, rfl, Nat.le_refl _, fun _ _ => rfl⟩
      have HJ : Hid (j + 1 ≤ M.length) := hlt
      by_cases he : (k : Int) = o.i
      · have he' : ((k : Int) == o.i) = true := by simp [he]
        obtain ⟨x1, x2⟩ := HR.out.here k hk he
        have y1 : ((vx A (2 * k)).key != o.leaf.key) = false := by simp [x1]
        have y2 : ((vx A (2 * k)).client != o.leaf.client) = false := by simp [x2]
        clear hv ncell hy hk hkl hbA he x1 x2 a3 hB b3r q7
        go_wp2_with fail
        go_quiet (fail)
        go_wp2_with fail
        go_roundw
        case rel => exact ⟨j + 1, HJ.out, by go_num, Hd.out _⟩
        case measure => have := HJ.out; simp [intOf]; omega
      · have he' : ((k : Int) == o.i) = false := by simp [he]
        obtain ⟨x0, x1, x2, x3⟩ := HR.out.other k hk he
        have hklT := (isF_lt x0).1
        have hbT := HbT.out
        have y1 : ((vx A (2 * k)).key != (vx T (2 * k)).key) = false := by simp [x1]
        have y2 : ((vx A (2 * k)).sig != (vx T (2 * k)).sig) = false := by simp [x2]
        have y3 : ((vx A (2 * k)).client != (vx T (2 * k)).client) = false := by simp [x3]
        obtain ⟨b3, off3, cap3, hd3, e6, hbl3, hv3⟩ := q7.get (vx_some (t := T) (x := 2 * k) (by omega))
        simp only [Value.slice.injEq] at e6
        obtain ⟨rfl, -, -⟩ := e6
        have z1 := hv3.c1
        have z2 := hv3.c2
        have z3 := hv3.c3
        have i8 : (2 * (k : Int)) < T.length := by omega
        have hfn : ∀ n, Calls Tryd.prog 31 #[.slice (some ⟨b3, off3, none⟩) T.length vcap3, .int .i64 k] (wr.drewN n) fun e w' => e = .returned (.bool true) ∧ w' = wr.drewN n := fun n => Hff.out _ k (q7.below ⟨rfl, rfl, rfl, Nat.le_refl _, fun _ _ => rfl⟩) x0
        clear hv hv3 ncell hy hk hkl hbA hbT hklT he x0 x1 x2 x3 hB b3r q7 t7 d3 d4
        go_wp2_with fail
        go_quiet ((go_at_call 31; exact Calls.quiet_of_same (hfn _)))
        go_wp2_with fail
        go_roundw
        case rel => exact ⟨j + 1, HJ.out, by go_num, Hd.out _⟩
        case measure => have := HJ.out; simp [intOf]; omega
    · have i5 : ¬ ((j : Int) < (M.length : Int)) := by omega
      clear nc q7
      go_wp2_with fail
      refine (Hfd.out wr t7).mono ?_
      rintro e w8 ⟨i, bb, rfl, f1, f2, b8⟩
      clear d0 d1 d2 d3 d4 d5 d6 d7 d8
      have b38 := on b3r b8
      obtain ⟨d0, d1, d2, d3, d4, d5, d6, d7, d8⟩ := step_cells (Hbd.out _ b38) Hlt.out Hbd2.out
      have Hend : Hid (∀ n, Below w.heap.size w (w8.drewN n)) := fun n => on Hb03.out (on b38 ⟨rfl, rfl, rfl, Nat.le_refl _, fun _ _ => rfl⟩)
      rw [Hk.out] at d0
      clear f1 f2 b8 hB b3r t7 b38
      go_wp2_with fail
      go_quiet (fail)
      go_wp2_with fail
      go_ret
      exact ⟨rfl, Hend.out _⟩

end Go.Proofs.YtdnopkpoepdihaaDoor
