/-
  Trees that come in; which of them are right with their numbers among the terms; whether two are the same.
-/
import Derived.Test.YtmcjincgppddeaaDoorGA
import Derived.BigGuardPart
import Derived.BigRegion
namespace Go.Proofs.YtmcjincgppddeaaDoor
open Go.RowKit
set_option linter.unusedSimpArgs false
set_option linter.unusedVariables false

/-- All numbers of a tree are among so many terms, or 0. -/
def Rng (t : Tree) (n : Int) : Prop := ∀ (x : Nat) (u : PV), t[x]? = some u → (0 ≤ u.key ∧ u.key ≤ n) ∧ (0 ≤ u.sig ∧ u.sig ≤ n) ∧ (0 ≤ u.hash ∧ u.hash ≤ n)

/-- A Boolean with a property is answered, and only new memory made. -/
def BoolP (P : Bool → Prop) (w : World) (e : Ending) (w' : World) : Prop := ∃ b, e = .returned (.bool b) ∧ P b ∧ Below w.heap.size w w'
theorem BoolP.mk {P : Bool → Prop} {w w' : World} {b : Bool} (h : P b) (hb : Below w.heap.size w w') : BoolP P w (.returned (.bool b)) w' := ⟨b, rfl, h, hb⟩

set_option maxRecDepth 100000 in
set_option maxHeartbeats 4000000 in
theorem rightN_m {w : World} {v : Value} {t : Tree} (ht : TreeAt w v t) (n : Int) :
    Calls Tryd.prog 10 #[v, .int .i64 n] w (BoolP (fun b => b = true → Good t ∧ Rng t n) w) := by
  obtain ⟨va, vcap, rfl, htl, _⟩ := id ht
  have q27 : ∀ (w : World) (a : Option Addr) (n c : Nat), (Builtin.len_ #[22] 3 #[.slice a n c]).run Tryd.prog w = .ok (goInt n) w := fun w a n c => run_len_slice w _ _ _ _ _ Tryd.underlying22
  by_cases hl : (63 : Int) < (t.length : Int)
  · go_enter Tryd.func10, Tryd.ntmps10
    go_wp2_with (rw [q27])
    go_ret
    exact BoolP.mk (b := false) (fun h => (by cases h)) (Below.refl _ _)
  · have hck := refCheck_any ht (by omega)
    cases hc : checkB t with
    | false =>
      rw [hc] at hck
      go_enter Tryd.func10, Tryd.ntmps10
      go_wp2_with first
        | rw [q27]
        | (go_at_call 33; refine hck.mono ?_; rintro e w1 ⟨rfl, b1⟩)
      go_ret
      exact BoolP.mk (b := false) (fun h => (by cases h)) (b1)
    | true =>
      rw [hc] at hck
      have HG : Hid (Good t) := good_iff.1 hc
      clear hc
      go_enter Tryd.func10, Tryd.ntmps10
      go_wp2_with first
        | rw [q27]
        | (go_at_call 33; refine hck.mono ?_; rintro e w1 ⟨rfl, b1⟩)
      go_loopw [17] (fun k wr => ∃ j : Nat, j ≤ t.length ∧ k = .int .i64 j ∧ Below w.heap.size w wr ∧ Hid (∀ (x : Nat) (u : PV), x < j → t[x]? = some u → (0 ≤ u.key ∧ u.key ≤ n) ∧ (0 ≤ u.sig ∧ u.sig ≤ n) ∧ (0 ≤ u.hash ∧ u.hash ≤ n))) (fun k _ => t.length - (intOf k).toNat)
      case atStart => exact ⟨0, Nat.zero_le _, rfl, b1, fun x u hx => absurd hx (Nat.not_lt_zero _)⟩
      case round =>
        obtain ⟨j, hj, rfl, hB, HX⟩ := hrel
        have hsz := hB.size
        by_cases hlt : j < t.length
        · obtain ⟨u, hu⟩ : ∃ u, t[j]? = some u := ⟨t[j], by simp [hlt]⟩
          obtain ⟨b, o, _, h1, e1, hb1, c0, c1, c2, c3, c4, c5, c6⟩ := (ht.below hB).get hu
          simp only [Value.slice.injEq] at e1
          obtain ⟨rfl, -, -⟩ := e1
          obtain ⟨a1, p1, rfl, _⟩ := id c6
          have i1 : (j : Int) < (t.length : Int) := by omega
          have Hu : Hid (t[j]? = some u) := hu
          have HB2 : Hid (∀ X, Below w.heap.size w (wr.alloc X)) := fun X => hB.alloc hsz X
          clear hu c6
          have hNext : Hid ((0 ≤ u.key ∧ u.key ≤ n) ∧ (0 ≤ u.sig ∧ u.sig ≤ n) ∧ (0 ≤ u.hash ∧ u.hash ≤ n) → ∀ (x : Nat) (u : PV), x < j + 1 → t[x]? = some u → (0 ≤ u.key ∧ u.key ≤ n) ∧ (0 ≤ u.sig ∧ u.sig ≤ n) ∧ (0 ≤ u.hash ∧ u.hash ≤ n)) := by
            intro h x u' hx hx2
            by_cases hxj : x = j
            · subst hxj
              have := Hu.out
              rw [hx2] at this
              cases this
              exact h
            · exact HX.out x u' (by omega) hx2
          by_cases g1 : u.key < 0
          · go_wp2_with fail
            go_ret
            exact BoolP.mk (b := false) (fun h => (by cases h)) (HB2.out _)
          · by_cases g2 : n < u.key
            · go_wp2_with fail
              go_ret
              exact BoolP.mk (b := false) (fun h => (by cases h)) (HB2.out _)
            · by_cases g3 : u.sig < 0
              · go_wp2_with fail
                go_ret
                exact BoolP.mk (b := false) (fun h => (by cases h)) (HB2.out _)
              · by_cases g4 : n < u.sig
                · go_wp2_with fail
                  go_ret
                  exact BoolP.mk (b := false) (fun h => (by cases h)) (HB2.out _)
                · by_cases g5 : u.hash < 0
                  · go_wp2_with fail
                    go_ret
                    exact BoolP.mk (b := false) (fun h => (by cases h)) (HB2.out _)
                  · by_cases g6 : n < u.hash
                    · go_wp2_with fail
                      go_ret
                      exact BoolP.mk (b := false) (fun h => (by cases h)) (HB2.out _)
                    · go_wp2_with fail
                      go_roundw
                      case rel => exact ⟨j + 1, by omega, by go_num, HB2.out _, hNext.out ⟨⟨by omega, by omega⟩, ⟨by omega, by omega⟩, ⟨by omega, by omega⟩⟩⟩
                      case measure => simp [intOf]; omega
        · have e : j = t.length := by omega
          have HF : Hid (Rng t n) := fun x u hx => HX.out x u (by have := (List.getElem?_eq_some_iff.1 hx).1; omega) hx
          go_wp2_with fail
          go_ret
          exact BoolP.mk (b := true) (fun _ => ⟨HG.out, HF.out⟩) (hB)

theorem pv_ext {u1 u2 : PV} (h0 : u1.full = u2.full) (h1 : u1.key = u2.key) (h2 : u1.client = u2.client) (h3 : u1.sig = u2.sig) (h4 : u1.hash = u2.hash) (h5 : u1.late = u2.late) : u1 = u2 := by
  cases u1; cases u2; simp_all

set_option maxRecDepth 100000 in
set_option maxHeartbeats 8000000 in
theorem same_m {w : World} {va vb : Value} {t u : Tree} (ha : TreeAt w va t) (hb : TreeAt w vb u) :
    Calls Tryd.prog 22 #[va, vb] w (BoolP (fun b => b = true ↔ t = u) w) := by
  obtain ⟨aa, acap, rfl, hl, _⟩ := id ha
  obtain ⟨ba, bcap, rfl, hl2, _⟩ := id hb
  have q27 : ∀ (w : World) (a : Option Addr) (n c : Nat), (Builtin.len_ #[22] 3 #[.slice a n c]).run Tryd.prog w = .ok (goInt n) w := fun w a n c => run_len_slice w _ _ _ _ _ Tryd.underlying22
  by_cases hlen : t.length = u.length
  · have hq : ((t.length : Int) != (u.length : Int)) = false := by simp [hlen]
    have Hlen : Hid (t.length = u.length) := hlen
    have hle : (u.length : Int) ≤ t.length := by omega
    have hge : (t.length : Int) ≤ u.length := by omega
    clear hlen
    go_enter Tryd.func22, Tryd.ntmps22
    go_wp2_with (rw [q27])
    go_loopw [5] (fun k wr => ∃ j : Nat, j ≤ t.length ∧ k = .int .i64 j ∧ Below w.heap.size w wr ∧ Hid (t.take j = u.take j)) (fun k _ => t.length - (intOf k).toNat)
    case atStart => exact ⟨0, Nat.zero_le _, rfl, Below.refl _ _, by simp [Hid]⟩
    case round =>
      obtain ⟨j, hj, rfl, hB, HX⟩ := hrel
      have hsz := hB.size
      by_cases hlt : j < t.length
      · have hlt2 : j < u.length := by have := Hlen.out; omega
        obtain ⟨u1, hu1⟩ : ∃ u1, t[j]? = some u1 := ⟨t[j], by simp [hlt]⟩
        obtain ⟨u2, hu2⟩ : ∃ u2, u[j]? = some u2 := ⟨u[j], by simp [hlt2]⟩
        obtain ⟨b1, o1, _, h1, e1, hb1, c0, c1, c2, c3, c4, c5, c6⟩ := (ha.below hB).get hu1
        obtain ⟨b2, o2, _, h2, e2, hb2, d0, d1, d2, d3, d4, d5, d6⟩ := (hb.below hB).get hu2
        simp only [Value.slice.injEq] at e1 e2
        obtain ⟨rfl, -, -⟩ := e1
        obtain ⟨rfl, -, -⟩ := e2
        obtain ⟨a1, p1, rfl, _⟩ := id c6
        obtain ⟨a2, p2, rfl, _⟩ := id d6
        have i1 : (j : Int) < (t.length : Int) := by omega
        have i2 : (j : Int) < (u.length : Int) := by omega
        have hbx : Hid (∀ X Y, Below wr.heap.size wr ((wr.alloc X).alloc Y).drew) := fun X Y => (((Below.refl _ _).alloc (Nat.le_refl _) X).alloc (by simp) Y).drew
        obtain ⟨L, hL⟩ : ∃ L, decide (u1.late = u2.late) = L := ⟨_, rfl⟩
        have HI : Hid (∀ X Y, Calls Tryd.prog 26 #[.slice a1 u1.late.length p1, .slice a2 u2.late.length p2] ((wr.alloc X).alloc Y).drew fun e w' => e = .returned (.bool L) ∧ Below wr.heap.size wr w') := fun X Y => by
          refine (ints_any (c6.below (hbx.out X Y)) (d6.below (hbx.out X Y))).mono ?_
          rintro e w' ⟨rfl, hb⟩
          exact ⟨by rw [hL], on (hbx.out X Y) hb⟩
        have Hne : Hid (u1 ≠ u2 → t ≠ u) := fun hne e => by
          subst e
          rw [hu1] at hu2
          exact hne (by cases hu2; rfl)
        have Hnx : Hid (u1 = u2 → t.take (j + 1) = u.take (j + 1)) := fun e => by
          rw [List.take_add_one, List.take_add_one, HX.out, hu1, hu2, e]
        obtain ⟨B1, hB1⟩ : ∃ B, (u1.key != u2.key) = B := ⟨_, rfl⟩
        obtain ⟨B2, hB2⟩ : ∃ B, (u1.client != u2.client) = B := ⟨_, rfl⟩
        obtain ⟨B3, hB3⟩ : ∃ B, (u1.sig != u2.sig) = B := ⟨_, rfl⟩
        obtain ⟨B4, hB4⟩ : ∃ B, (u1.hash != u2.hash) = B := ⟨_, rfl⟩
        have HA : Hid ((B1 || B2 || B3 || B4 || !L) = true → u1 ≠ u2) := by
          intro h e
          subst e
          simp at hB1 hB2 hB3 hB4 hL
          subst hB1 hB2 hB3 hB4 hL
          simp at h
        have HA2 : Hid ((B1 || B2 || B3 || B4 || !L) = false → u1.full = u2.full → u1 = u2) := by
          intro h hf
          simp only [Bool.or_eq_false_iff, Bool.not_eq_false'] at h
          obtain ⟨⟨⟨⟨rfl, rfl⟩, rfl⟩, rfl⟩, rfl⟩ := h
          exact pv_ext hf (by simpa using hB1) (by simpa using hB2) (by simpa using hB3) (by simpa using hB4) (by simpa using hL)
        clear hu1 hu2 hL c6 d6
        by_cases hf : u1.full = u2.full
        case neg =>
          have HN : Hid (u1 ≠ u2) := fun e => hf (by rw [e])
          cases hf2 : u2.full with
          | true =>
            have hf1 : u1.full = false := by cases h : u1.full <;> simp_all
            rw [hf1] at c0
            rw [hf2] at d0
            clear hf hf1 hf2
            go_wp2_with (rw [q27])
            go_region
            all_goals
              go_wp2_with fail
              go_ret
              exact BoolP.mk (b := false) ⟨fun h => (by cases h), fun e => absurd e (Hne.out HN.out)⟩ (on hB (hbx.out _ _))
          | false =>
            have hf1 : u1.full = true := by cases h : u1.full <;> simp_all
            rw [hf1] at c0
            rw [hf2] at d0
            clear hf hf1 hf2
            go_wp2_with (rw [q27])
            go_region
            all_goals
              go_wp2_with fail
              go_ret
              exact BoolP.mk (b := false) ⟨fun h => (by cases h), fun e => absurd e (Hne.out HN.out)⟩ (on hB (hbx.out _ _))
        case pos =>
          have HF : Hid (u1.full = u2.full) := hf
          rw [hf] at c0
          clear hf
          cases B1 with
          | true =>
            go_wp2_with (rw [q27])
            go_region
            all_goals
              go_wp2_with fail
              go_ret
              exact BoolP.mk (b := false) (⟨fun h => (by cases h), fun e => absurd e (Hne.out (HA.out (by simp)))⟩) (on hB (hbx.out _ _))
          | false =>
            cases B2 with
            | true =>
              go_wp2_with (rw [q27])
              go_region
              all_goals
                go_wp2_with fail
                go_ret
                exact BoolP.mk (b := false) (⟨fun h => (by cases h), fun e => absurd e (Hne.out (HA.out (by simp)))⟩) (on hB (hbx.out _ _))
            | false =>
              cases B3 with
              | true =>
                go_wp2_with (rw [q27])
                go_region
                all_goals
                  go_wp2_with fail
                  go_ret
                  exact BoolP.mk (b := false) (⟨fun h => (by cases h), fun e => absurd e (Hne.out (HA.out (by simp)))⟩) (on hB (hbx.out _ _))
              | false =>
                cases B4 with
                | true =>
                  go_wp2_with (rw [q27])
                  go_region
                  all_goals
                    go_wp2_with fail
                    go_ret
                    exact BoolP.mk (b := false) (⟨fun h => (by cases h), fun e => absurd e (Hne.out (HA.out (by simp)))⟩) (on hB (hbx.out _ _))
                | false =>
                  cases L with
                  | false =>
                    go_wp2_with (rw [q27])
                    go_region
                    all_goals
                      go_wp2_with fail
                      refine (HI.out _ _).mono ?_
                      rintro e w5 ⟨rfl, b5⟩
                      go_wp2_with fail
                      go_ret
                      exact BoolP.mk (b := false) (⟨fun h => (by cases h), fun e => absurd e (Hne.out (HA.out (by simp)))⟩) (on hB b5)
                  | true =>
                    go_wp2_with (rw [q27])
                    go_region
                    all_goals
                      go_wp2_with fail
                      refine (HI.out _ _).mono ?_
                      rintro e w5 ⟨rfl, b5⟩
                      go_wp2_with fail
                      go_roundw
                      case rel => exact ⟨j + 1, by omega, by go_num, on hB b5, Hnx.out (HA2.out (by simp) HF.out)⟩
                      case measure => simp [intOf]; omega
      · have i1 : ¬ ((j : Int) < (t.length : Int)) := by omega
        have HE : Hid (t = u) := by
          have h1 := HX.out
          rw [List.take_of_length_le (by omega), List.take_of_length_le (by have := Hlen.out; omega)] at h1
          exact h1
        go_wp2_with (rw [q27])
        go_ret
        exact BoolP.mk (b := true) (⟨fun _ => HE.out, fun _ => rfl⟩) (hB)
  · have hq : ((t.length : Int) != (u.length : Int)) = true := by simp; omega
    have Hne : Hid (t ≠ u) := fun e => hlen (by rw [e])
    clear hlen
    go_enter Tryd.func22, Tryd.ntmps22
    go_wp2_with (rw [q27])
    go_ret
    exact BoolP.mk (b := false) (⟨fun h => (by cases h), fun e => absurd e Hne.out⟩) (Below.refl _ _)

end Go.Proofs.YtmcjincgppddeaaDoor
