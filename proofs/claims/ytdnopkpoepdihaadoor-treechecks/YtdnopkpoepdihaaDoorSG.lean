/-
  The law TreeBack.
-/
import Derived.Test.YtdnopkpoepdihaaDoorSF
namespace Go.Proofs.YtdnopkpoepdihaaDoor
open Go.RowKit
set_option linter.unusedSimpArgs false
set_option linter.unusedVariables false

theorem under_refl {x n : Int} (h : inB x n = true) : underB x x n = true :=
  forall_in (fun x n => underB x x n) (by decide +kernel) x n h

theorem back_facts {t : Tree} (h : Good t) (u : PV) (hr : ¬ (least t = lv t ∧ lv t = 32)) : (remF (addF t u) (least t)).length = t.length ∧ ∀ (j : Nat) (v : PV), (remF (addF t u) (least t))[j]? = some v → if (decide ((least t : Int) < lv t) && underB (2 * (least t : Int)) j (lv t)) = true then v.full = false else t[j]? = some v := by
  have hls := least_spec t
  by_cases hl : least t < lv t
  · rw [back_in h u hl]
    refine ⟨putF_len _ _ _, fun j v hv => ?_⟩
    rw [putF_get] at hv
    cases hq : t[j]? with
    | none => rw [hq] at hv; cases hv
    | some q =>
      rw [hq] at hv
      simp only [Option.map_some, Option.some.injEq, putV] at hv
      have : decide ((least t : Int) < lv t) = true := by simp; omega
      rw [this, Bool.true_and]
      split
      · rename_i hu
        subst hv
        split
        · rfl
        · rfl
      · rename_i hu
        split at hv
        · rename_i hx
          exfalso
          apply hu
          have hb := h.sh.bounds
          have hin : inB (2 * (least t : Int)) (lv t) = true := by simp [inB, h.sh.1]; omega
          rw [hx]
          exact under_refl hin
        · rw [hv]
  · have e : least t = lv t := by omega
    rw [back_out h u e (by omega)]
    refine ⟨rfl, fun j v hv => ?_⟩
    have : decide ((least t : Int) < lv t) = false := by simp; omega
    rw [this]
    simpa using hv

theorem leaf_cells {W W0 : World} {b : Nat} {u : PV} {h : Value} (hb : Below W0.heap.size W0 W) (hlt : b < W0.heap.size) (hx : ∀ r, W0.cell? ⟨b, r, none⟩ = (leafCells u h)[r]?) :
    W.cell? ⟨b, 0, none⟩ = some (.bool u.full) ∧ W.cell? ⟨b, 1, none⟩ = some (.int .i64 u.key) ∧ W.cell? ⟨b, 2, none⟩ = some (.int .i64 u.client) ∧ W.cell? ⟨b, 3, none⟩ = some (.int .i64 u.sig) ∧ W.cell? ⟨b, 4, none⟩ = some (.int .i64 u.hash) ∧ W.cell? ⟨b, 5, none⟩ = some h :=
  ⟨(hb.cell (p := ⟨b, 0, none⟩) hlt).trans (hx 0), (hb.cell (p := ⟨b, 1, none⟩) hlt).trans (hx 1), (hb.cell (p := ⟨b, 2, none⟩) hlt).trans (hx 2), (hb.cell (p := ⟨b, 3, none⟩) hlt).trans (hx 3), (hb.cell (p := ⟨b, 4, none⟩) hlt).trans (hx 4), (hb.cell (p := ⟨b, 5, none⟩) hlt).trans (hx 5)⟩

theorem tree_one {W : World} {b : Nat} {v : PV} {h : Value} (hx : ∀ r, W.cell? ⟨b, r, none⟩ = (leafCells v h)[r]?) (hb : b < W.heap.size) (hl : IntsAt W h v.late) : TreeAt W (.slice (some ⟨b, 0, none⟩) 1 1) [v] := by
  refine ⟨_, _, rfl, by simp, fun _ => ⟨b, 0, rfl, hb, fun x u hu => ?_⟩⟩
  have hx0 : x = 0 := by
    have := (List.getElem?_eq_some_iff.1 hu).1
    simp at this
    exact this
  subst hx0
  simp at hu
  subst hu
  exact ⟨h, hx 0, hx 1, hx 2, hx 3, hx 4, hx 5, hl⟩

theorem same_two {W : World} {n : Nat} (hn : W.heap.size = n) {v : PV} {h1 h2 : Value} (k1 : IntsAt W h1 v.late) (k2 : IntsAt W h2 v.late) :
    (Calls Tryd.prog 16 #[.slice (some ⟨n, 0, none⟩) 1 1, .slice (some ⟨n + 1, 0, none⟩) 1 1] ((W.alloc (.cells (leafCells v h1) 24)).alloc (.cells (leafCells v h2) 24)).drew fun e w' => e = .returned (.bool true) ∧ Below W.heap.size W w') ∧
    (Calls Tryd.prog 16 #[.slice (some ⟨n + 1, 0, none⟩) 1 1, .slice (some ⟨n, 0, none⟩) 1 1] ((W.alloc (.cells (leafCells v h2) 24)).alloc (.cells (leafCells v h1) 24)).drew fun e w' => e = .returned (.bool true) ∧ Below W.heap.size W w') := by
  subst hn
  have key : ∀ x y, Below W.heap.size W ((W.alloc (.cells (leafCells v x) 24)).alloc (.cells (leafCells v y) 24)).drew ∧ (∀ r, ((W.alloc (.cells (leafCells v x) 24)).alloc (.cells (leafCells v y) 24)).drew.cell? ⟨W.heap.size, r, none⟩ = (leafCells v x)[r]?) ∧ (∀ r, ((W.alloc (.cells (leafCells v x) 24)).alloc (.cells (leafCells v y) 24)).drew.cell? ⟨W.heap.size + 1, r, none⟩ = (leafCells v y)[r]?) ∧ ((W.alloc (.cells (leafCells v x) 24)).alloc (.cells (leafCells v y) 24)).drew.heap.size = W.heap.size + 2 := by
    intro x y
    refine ⟨(((Below.refl _ _).alloc (Nat.le_refl _) _).alloc (by simp) _).drew, fun r => by simp, fun r => by simp, by simp⟩
  constructor
  · obtain ⟨b, c1, c2, hz⟩ := key h1 h2
    refine (same_eq (tree_one c1 (by omega) (k1.below b)) (tree_one c2 (by omega) (k2.below b))).mono ?_
    rintro e w' ⟨rfl, hb⟩
    exact ⟨rfl, on b hb⟩
  · obtain ⟨b, c1, c2, hz⟩ := key h2 h1
    refine (same_eq (tree_one c2 (by omega) (k1.below b)) (tree_one c1 (by omega) (k2.below b))).mono ?_
    rintro e w' ⟨rfl, hb⟩
    exact ⟨rfl, on b hb⟩

set_option maxHeartbeats 8000000 in
set_option maxRecDepth 100000 in
theorem back_walk (u : PV) (h : Value) (m : PV) (hm : Value) {w : World} {vs : Value} {l : List (POp × Value)} (hs : ScriptAt w vs l) (hT : Tab w) :
    Calls Tryd.prog 7 #[u.val h, vs, m.val hm] w fun e w' => e = .returned (.bool true) ∧ Below w.heap.size w w' := by
  have hT1 := hT.size
  have hG := Good.grown u (l.map (·.1))
  have hgr : ∀ W, ScriptAt W vs l → Calls Tryd.prog 30 #[u.val h, vs] W fun e w' => ∃ v', e = .returned v' ∧ TreeAt w' v' (grownF u (l.map (·.1))) ∧ Below W.heap.size W w' := fun W hW => grown_any u h hW
  obtain ⟨T, hTT⟩ : ∃ T, grownF u (l.map (·.1)) = T := ⟨_, rfl⟩
  rw [hTT] at hG hgr
  clear hTT
  obtain ⟨w0, hw0⟩ : ∃ w0, (w.alloc (.cells (leafCells u h) 24)).alloc (.cells (leafCells m hm) 24) = w0 := ⟨_, rfl⟩
  have b0 : Below w.heap.size w w0 := by rw [← hw0]; exact ((Below.refl _ _).alloc (Nat.le_refl _) _).alloc (by simp) _
  have hz0 : w0.heap.size = w.heap.size + 2 := by rw [← hw0]; simp
  have bc : ∀ r, w0.cell? ⟨w.heap.size, r, none⟩ = (leafCells u h)[r]? := fun r => by rw [← hw0]; simp
  have bd : ∀ r, w0.cell? ⟨w.heap.size + 1, r, none⟩ = (leafCells m hm)[r]? := fun r => by rw [← hw0]; simp
  have hT0 := hT.below b0 hT1
  have hs0 := hs.below b0
  unfold PV.val at *
  unfold leafCells at hw0
  go_enter Tryd.func7, Tryd.ntmps7
  go_wp2_with (rw [hw0])
  refine (anchor_any hT0).mono ?_
  rintro e w1 ⟨rfl, b1⟩
  have hs1 := hs0.below b1
  obtain ⟨c0, c1, c2, c3, c4, c5⟩ := leaf_cells b1 (by omega) bc
  clear hw0
  go_wp2_with fail
  refine (hgr w1 hs1).mono ?_
  rintro e w2 ⟨v2, rfl, t2, b2⟩
  clear c0 c1 c2 c3 c4 c5
  have b12 := on b1 b2
  obtain ⟨c0, c1, c2, c3, c4, c5⟩ := leaf_cells b12 (by omega) bd
  have hT2 := hT0.below b12 (by omega)
  have b02 := on b0 b12
  have Hbc : Hid (w.heap.size < w2.heap.size) := by have := b12.size; show _ < _; omega
  clear bc bd hgr hs hs0 hs1 b1 b2 b12 hz0
  have hbT := hG.sh.bounds
  by_cases hr : least T = lv T ∧ lv T = 32
  · have ha := add_no hG.fit t2 m hm hr.1 hr.2
    unfold PV.val at ha
    have hml : (members T).length = 32 := by rw [members_all hr.1]; exact hr.2
    go_wp2_with fail
    refine ha.mono ?_
    rintro e w3 ⟨rfl, b3⟩
    clear ha
    go_wp2_with (go_at_call 21; refine (refMembers_any (t2.below b3) hG.sh).mono ?_; rintro e w4 ⟨v4, rfl, o4, b4⟩; obtain ⟨ma, mcap, rfl, _⟩ := ownsRow_ints o4 (by rw [hml]; decide))
    go_ret
    exact ⟨rfl, on b02 (on b3 b4)⟩
  · have ha := add_yes hG.fit t2 hT2 m hm hr
    unfold PV.val at ha
    have hGa := hG.add hr m
    obtain ⟨hFl, hFg⟩ := back_facts hG m hr
    have hls := (least_spec T).1
    have hfa : fullB (addF T m) (least T) = true := by
      rw [← isF_fullB, isF_add hG.sh hr]; simp
    have hma : (members (addF T m)).length ≠ 1 := by
      have := add_members hG hr m
      have := members_ge hG
      omega
    obtain ⟨va2, vcap2, rfl, _⟩ := id t2
    go_wp2_with fail
    refine ha.mono ?_
    rintro e w3 ⟨v3, hs3, rfl, o3, b3⟩
    have t3 := o3.treeF hGa.fit
    have hT3 := hT2.below b3 (by have := Hbc.out; omega)
    clear ha o3 c0 c1 c2 c3 c4 c5 hT0 hT
    go_wp2_with fail
    refine (remove_yes hGa.fit t3 hT3 (least T) hfa hma).mono ?_
    rintro e w4 ⟨v4, rfl, t4, b4⟩
    have b34 := on b3 b4
    have t2' := t2.below b34
    have b04 := on b02 b34
    obtain ⟨F, hF⟩ : ∃ F, remF (addF T m) (least T) = F := ⟨_, rfl⟩
    rw [hF] at hFl hFg t4
    obtain ⟨va4, vcap4, rfl, hl4, _⟩ := id t4
    have q27 : ∀ (w : World) (a : Option Addr) (n c : Nat), (Builtin.len_ #[27] 3 #[.slice a n c]).run Tryd.prog w = .ok (goInt n) w := fun w a n c => run_len_slice w _ _ _ _ _ Tryd.underlying27
    have e1 : ((List.length F : Int) != (List.length T : Int)) = false := by simp; omega
    have i1 : (List.length F : Int) ≤ 63 := by omega
    have i2 : (List.length T : Int) ≤ 63 := by omega
    have HFl : Hid (F.length = T.length) := hFl
    have Hbt : Hid (1 ≤ lv T ∧ lv T ≤ 32 ∧ List.length T + 1 = 2 * lv T ∧ List.length T ≤ 63 ∧ 1 ≤ List.length T) := hbT
    have HFg : Hid (∀ (j : Nat) (v : PV), F[j]? = some v → if (decide ((least T : Int) < lv T) && underB (2 * (least T : Int)) j (lv T)) = true then v.full = false else T[j]? = some v) := hFg
    have Hhr : Hid (¬(least T = lv T ∧ lv T = 32)) := hr
    clear t2 t3 hF hFl hFg hfa hma hGa hT2 hT3 b02 b3 b4 b34 hbT hr hG
    go_wp2_with first
      | rw [q27]
      | (go_at_call 23; refine (refLeaves_any t2').mono ?_; rintro e w' ⟨rfl, hw⟩; obtain rfl := hw.symm)
    go_loopw [57] (fun k wr => ∃ j : Nat, j ≤ F.length ∧ k = .int .i64 j ∧ Below w4.heap.size w4 wr) (fun k _ => F.length - (intOf k).toNat)
    case atStart => exact ⟨0, Nat.zero_le _, rfl, Below.refl _ _⟩
    case round =>
      obtain ⟨j, hj, rfl, hB⟩ := hrel
      by_cases hlt : j < F.length
      · obtain ⟨v, hv⟩ : ∃ v, F[j]? = some v := ⟨F[j], by simp [hlt]⟩
        obtain ⟨b1, o1, _, h1, e5, hb1, c0, c1, c2, c3, c4, c5, c6⟩ := (t4.below hB).get hv
        simp only [Value.slice.injEq] at e5
        obtain ⟨rfl, -, -⟩ := e5
        obtain ⟨a1, p1, rfl, _⟩ := id c6
        have hg := HFg.out j v hv
        have i3 : (j : Int) < (F.length : Int) := by omega
        have HJ : Hid (j + 1 ≤ F.length) := hlt
        have i5 : (lv T : Int) ≤ 32 := by have := Hbt.out; omega
        have i6 : (least T : Int) ≤ 32 := by omega
        have Hb7 : Hid (∀ X, Below w4.heap.size w4 (wr.alloc X)) := fun X => on hB ((Below.refl _ _).alloc (Nat.le_refl _) X)
        by_cases hun : (decide ((least T : Int) < lv T) && underB (2 * (least T : Int)) j (lv T)) = true
        · rw [if_pos hun] at hg
          simp only [Bool.and_eq_true, decide_eq_true_eq] at hun
          obtain ⟨i4, hu⟩ := hun
          rw [hg] at c0
          clear hj hlt hv
          go_wp2_with first
            | rw [q27]
            | (go_at_call 32; refine (refUnder_any _ _ _).mono ?_; rintro e w' ⟨rfl, hw⟩; obtain rfl := hw.symm; rw [hu])
          go_roundw
          case rel => exact ⟨j + 1, HJ.out, by go_num, Hb7.out _⟩
          case measure => have := HJ.out; simp [intOf]; omega
        · rw [if_neg hun] at hg
          obtain ⟨b2, o2, _, h2, e6, hb2, d0, d1, d2, d3, d4, d5, d6⟩ := (t2'.below hB).get hg
          simp only [Value.slice.injEq] at e6
          obtain ⟨rfl, -, -⟩ := e6
          obtain ⟨a2, p2, rfl, _⟩ := id d6
          have i7 : (j : Int) < (T.length : Int) := by have := HFl.out; omega
          have hun2 : (¬ ((least T : Int) < lv T)) ∨ ((least T : Int) < lv T) ∧ underB (2 * (least T : Int)) j (lv T) = false := by
            simp at hun
            by_cases hq : (least T : Int) < lv T
            · right
              refine ⟨hq, ?_⟩
              simpa using hun (by omega)
            · left; exact hq
          clear hj hlt hv hg hun
          have HS : Hid ((Calls Tryd.prog 16 #[.slice (some ⟨wr.heap.size + 1, 0, none⟩) 1 1, .slice (some ⟨wr.heap.size + 1 + 1, 0, none⟩) 1 1] (((wr.alloc (.cells (leafCells v (.slice a1 v.late.length p1)) 24)).alloc (.cells (leafCells v (.slice a1 v.late.length p1)) 24)).alloc (.cells (leafCells v (.slice a2 v.late.length p2)) 24)).drew fun e w' => e = .returned (.bool true) ∧ Below w4.heap.size w4 w') ∧
              (Calls Tryd.prog 16 #[.slice (some ⟨wr.heap.size + 1 + 1, 0, none⟩) 1 1, .slice (some ⟨wr.heap.size + 1, 0, none⟩) 1 1] (((wr.alloc (.cells (leafCells v (.slice a1 v.late.length p1)) 24)).alloc (.cells (leafCells v (.slice a2 v.late.length p2)) 24)).alloc (.cells (leafCells v (.slice a1 v.late.length p1)) 24)).drew fun e w' => e = .returned (.bool true) ∧ Below w4.heap.size w4 w')) := by
            have bX : Below wr.heap.size wr (wr.alloc (.cells (leafCells v (.slice a1 v.late.length p1)) 24)) := (Below.refl _ _).alloc (Nat.le_refl _) _
            obtain ⟨x1, x2⟩ := same_two (W := wr.alloc (.cells (leafCells v (.slice a1 v.late.length p1)) 24)) (n := wr.heap.size + 1) (by simp) (c6.below bX) (d6.below bX)
            exact ⟨x1.mono (fun e w' hq => ⟨hq.1, on hB (on bX hq.2)⟩), x2.mono (fun e w' hq => ⟨hq.1, on hB (on bX hq.2)⟩)⟩
          unfold leafCells at HS
          rcases hun2 with i4 | ⟨i4, hu⟩
          · go_wp2_with (rw [q27])
            go_region_with (go_at_call 16; first | (with_reducible refine Calls.mono HS.out.1 ?_; rintro e w8 ⟨rfl, b8⟩) | (with_reducible refine Calls.mono HS.out.2 ?_; rintro e w8 ⟨rfl, b8⟩))
            all_goals
              go_wp2_with fail
              go_roundw
              case rel => exact ⟨j + 1, HJ.out, by go_num, b8⟩
              case measure => have := HJ.out; simp [intOf]; omega
          · go_wp2_with first
              | rw [q27]
              | (go_at_call 32; refine (refUnder_any _ _ _).mono ?_; rintro e w' ⟨rfl, hw⟩; obtain rfl := hw.symm; rw [hu])
            go_region_with (go_at_call 16; first | (with_reducible refine Calls.mono HS.out.1 ?_; rintro e w8 ⟨rfl, b8⟩) | (with_reducible refine Calls.mono HS.out.2 ?_; rintro e w8 ⟨rfl, b8⟩))
            all_goals
              go_wp2_with fail
              go_roundw
              case rel => exact ⟨j + 1, HJ.out, by go_num, b8⟩
              case measure => have := HJ.out; simp [intOf]; omega
      · have i3 : ¬ ((j : Int) < (F.length : Int)) := by omega
        clear hj hlt
        go_wp2_with (rw [q27])
        go_ret
        exact ⟨rfl, on b04 hB⟩

end Go.Proofs.YtdnopkpoepdihaaDoor
