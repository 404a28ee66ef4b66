/-
  Scripts of steps: what they make of a tree; each keeps it right · Same, of one tree · The law TreeBack.
-/
import Derived.Test.YtmcjincgppddeaaDoorRH
import Derived.BigRegion
namespace Go.Proofs.YtmcjincgppddeaaDoor
open Go.RowKit 
set_option linter.unusedSimpArgs false
set_option linter.unusedVariables false

theorem odd_lev {p : Nat} (hp : p < 63) (h : p % 2 = 1) : lev (p : Int) ≠ 0 := by
  have := forall_lt 63 (fun x => decide (x % 2 = 0) || decide (lev x ≠ 0)) (by decide +kernel) (p : Int) (by omega) (by omega)
  simp at this
  rcases this with h1 | h1
  · omega
  · exact h1

end Go.Proofs.YtmcjincgppddeaaDoor

namespace Go.Proofs.YtmcjincgppddeaaDoor
open Go.RowKit 
set_option linter.unusedSimpArgs false
set_option linter.unusedVariables false

set_option maxHeartbeats 4000000 in
set_option maxRecDepth 100000 in
theorem same_eq {w : World} {va vb : Value} {t : Tree} (ha : TreeAt w va t) (hb : TreeAt w vb t) :
    Calls Tryd.prog 22 #[va, vb] w fun e w' => e = .returned (.bool true) ∧ Below w.heap.size w w' := by
  obtain ⟨aa, acap, rfl, hl, _⟩ := id ha
  obtain ⟨ba, bcap, rfl, _, _⟩ := id hb
  have q27 : ∀ (w : World) (a : Option Addr) (n c : Nat), (Builtin.len_ #[22] 3 #[.slice a n c]).run Tryd.prog w = .ok (goInt n) w := fun w a n c => run_len_slice w _ _ _ _ _ Tryd.underlying22
  go_enter Tryd.func22, Tryd.ntmps22
  go_wp2_with fail
  go_loopw [5] (fun k wr => ∃ j : Nat, j ≤ t.length ∧ k = .int .i64 j ∧ Below w.heap.size w wr) (fun k _ => t.length - (intOf k).toNat)
  case atStart => exact ⟨0, Nat.zero_le _, rfl, Below.refl _ _⟩
  case round =>
    obtain ⟨j, hj, rfl, hB⟩ := hrel
    have hsz := hB.size
    by_cases hlt : j < t.length
    · obtain ⟨u, hu⟩ : ∃ u, t[j]? = some u := ⟨t[j], by simp [hlt]⟩
      obtain ⟨b1, o1, _, h1, e1, hb1, c0, c1, c2, c3, c4, c5, c6⟩ := (ha.below hB).get hu
      obtain ⟨b2, o2, _, h2, e2, hb2, d0, d1, d2, d3, d4, d5, d6⟩ := (hb.below hB).get hu
      simp only [Value.slice.injEq] at e1 e2
      obtain ⟨rfl, -, -⟩ := e1
      obtain ⟨rfl, -, -⟩ := e2
      obtain ⟨a1, p1, rfl, _⟩ := id c6
      obtain ⟨a2, p2, rfl, _⟩ := id d6
      have i1 : (j : Int) < (t.length : Int) := by omega
      have hbx : ∀ X Y, Below wr.heap.size wr ((wr.alloc X).alloc Y).drew := fun X Y => (((Below.refl _ _).alloc (Nat.le_refl _) X).alloc (by simp) Y).drew
      have HI : Hid (∀ X Y, Calls Tryd.prog 26 #[.slice a1 u.late.length p1, .slice a2 u.late.length p2] ((wr.alloc X).alloc Y).drew fun e w' => e = .returned (.bool true) ∧ Below wr.heap.size wr w') := fun X Y => by
        refine (ints_any (c6.below (hbx X Y)) (d6.below (hbx X Y))).mono ?_
        rintro e w' ⟨rfl, hb⟩
        exact ⟨by simp, on (hbx X Y) hb⟩
      go_wp2_with (rw [q27])
      go_region
      all_goals
        go_wp2_with fail
        refine (HI.out _ _).mono ?_
        rintro e w5 ⟨rfl, b5⟩
        go_wp2_with fail
        go_roundw
        case rel => exact ⟨j + 1, by omega, by go_num, on hB b5⟩
        case measure => simp [intOf]; omega
    · have i1 : ¬ ((j : Int) < (t.length : Int)) := by omega
      go_wp2_with (rw [q27])
      go_ret
      exact ⟨rfl, hB⟩

end Go.Proofs.YtmcjincgppddeaaDoor

namespace Go.Proofs.YtmcjincgppddeaaDoor
open Go.RowKit 
set_option linter.unusedSimpArgs false
set_option linter.unusedVariables false

theorem leaf_cells {W W0 : World} {b : Nat} {u : PV} {h : Value} (hb : Below W0.heap.size W0 W) (hlt : b < W0.heap.size) (hx : ∀ r, W0.cell? ⟨b, r, none⟩ = (leafCells u h)[r]?) :
    W.cell? ⟨b, 0, none⟩ = some (.bool u.full) ∧ W.cell? ⟨b, 1, none⟩ = some (.int .i64 u.key) ∧ W.cell? ⟨b, 2, none⟩ = some (.int .i64 u.client) ∧ W.cell? ⟨b, 3, none⟩ = some (.int .i64 u.sig) ∧ W.cell? ⟨b, 4, none⟩ = some (.int .i64 u.hash) ∧ W.cell? ⟨b, 5, none⟩ = some h :=
  ⟨(hb.cell (p := ⟨b, 0, none⟩) hlt).trans (hx 0), (hb.cell (p := ⟨b, 1, none⟩) hlt).trans (hx 1), (hb.cell (p := ⟨b, 2, none⟩) hlt).trans (hx 2), (hb.cell (p := ⟨b, 3, none⟩) hlt).trans (hx 3), (hb.cell (p := ⟨b, 4, none⟩) hlt).trans (hx 4), (hb.cell (p := ⟨b, 5, none⟩) hlt).trans (hx 5)⟩

end Go.Proofs.YtmcjincgppddeaaDoor
