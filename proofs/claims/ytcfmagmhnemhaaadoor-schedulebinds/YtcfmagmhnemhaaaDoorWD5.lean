/-
  ScheduleBinds: contexts and transcripts are one term just if all that they are made of is the same.
-/
import Derived.Test.YtcfmagmhnemhaaaDoorWD1
import Derived.Test.YtcfmagmhnemhaaaDoorWD2
import Derived.Test.YtcfmagmhnemhaaaDoorWD3
import Derived.Test.YtcfmagmhnemhaaaDoorWD4
import Derived.Deep.QuietTactic
namespace Go.Proofs.YtcfmagmhnemhaaaDoor
open Go.RowKit
set_option linter.unusedSimpArgs false
set_option linter.unusedVariables false
attribute [local go_sem ↓] Go.wp_at_zero Go.wp_at_succ

set_option maxRecDepth 100000 in
set_option maxHeartbeats 4000000 in
theorem binds_law {vl vm : Value} {l m : List Int} {w : World} (hl : NumsAt w vl l) (hm : NumsAt w vm m) (hL : Laid0 w) :
    Calls Tryd.prog 4 #[vl, vm] w fun e w' => e = .returned (.bool true) ∧ Below w.heap.size w w' := by
  obtain ⟨la, lcap, rfl, hl1, _⟩ := id hl.ints
  obtain ⟨ma, mcap, rfl, hl2, _⟩ := id hm.ints
  have Hl : Hid (NumsAt w (.slice la l.length lcap) l) := hl
  have Hm : Hid (NumsAt w (.slice ma m.length mcap) m) := hm
  clear hl hm hl1 hl2
  by_cases h4 : l.length = 5
  case neg =>
    have q1 : ((l.length : Int) != 5) = true := by simp; omega
    clear h4
    go_enter Tryd.func4, Tryd.ntmps4
    go_wp2_with fail
    refine (anchor_m hL).mono ?_
    rintro e w1 ⟨rfl, b1⟩
    go_wp2_with fail
    go_ret
    exact ⟨rfl, b1⟩
  have q1 : ((l.length : Int) != 5) = false := by simp; omega
  by_cases h5 : m.length = 5
  case neg =>
    have q2 : ((m.length : Int) != 5) = true := by simp; omega
    clear h4 h5
    go_enter Tryd.func4, Tryd.ntmps4
    go_wp2_with fail
    refine (anchor_m hL).mono ?_
    rintro e w1 ⟨rfl, b1⟩
    go_wp2_with fail
    go_ret
    exact ⟨rfl, b1⟩
  clear q1
  obtain ⟨x0, x1, x2, x3, x4, rfl⟩ := list5 h4
  obtain ⟨y0, y1, y2, y3, y4, rfl⟩ := list5 h5
  clear h4 h5
  obtain ⟨lb, lo, rfl, hSl, hil⟩ := five_cells Hl.out.ints
  obtain ⟨mb, mo, rfl, hSm, him⟩ := five_cells Hm.out.ints
  have kl : 5 ≤ lcap := Hl.out.room _ _ _ rfl
  have km : 5 ≤ mcap := Hm.out.room _ _ _ rfl
  have kl3 : 3 ≤ lcap := by omega
  have km3 : 3 ≤ mcap := by omega
  have HA : Hid (∀ w', Below w.heap.size w w' → Calls Tryd.prog 7 #[.slice (some ⟨lb, lo, none⟩) 3 lcap, .int .i64 9] w' fun e w2 => e = .returned (.bool (rightB [x0, x1, x2] 9)) ∧ w2 = w') := fun w' hw => right_m (hil.below hw) 9
  have HB : Hid (∀ w', Below w.heap.size w w' → Calls Tryd.prog 7 #[.slice (some ⟨mb, mo, none⟩) 3 mcap, .int .i64 9] w' fun e w2 => e = .returned (.bool (rightB [y0, y1, y2] 9)) ∧ w2 = w') := fun w' hw => right_m (him.below hw) 9
  have SA : Hid (∀ w', Below w.heap.size w w' → w'.cell? ⟨lb, lo, none⟩ = some (.int .i64 x0) ∧ w'.cell? ⟨lb, lo + 1, none⟩ = some (.int .i64 x1) ∧ w'.cell? ⟨lb, lo + 2, none⟩ = some (.int .i64 x2) ∧ w'.cell? ⟨lb, lo + 3, none⟩ = some (.int .i64 x3) ∧ w'.cell? ⟨lb, lo + 4, none⟩ = some (.int .i64 x4) ∧ w'.cell? ⟨mb, mo, none⟩ = some (.int .i64 y0) ∧ w'.cell? ⟨mb, mo + 1, none⟩ = some (.int .i64 y1) ∧ w'.cell? ⟨mb, mo + 2, none⟩ = some (.int .i64 y2) ∧ w'.cell? ⟨mb, mo + 3, none⟩ = some (.int .i64 y3) ∧ w'.cell? ⟨mb, mo + 4, none⟩ = some (.int .i64 y4)) := fun w' hb => by
    obtain ⟨a0, a1, a2, a3, a4⟩ := hSl w' hb
    obtain ⟨b0, b1, b2, b3, b4⟩ := hSm w' hb
    exact ⟨a0, a1, a2, a3, a4, b0, b1, b2, b3, b4⟩
  have HI : Hid ((I64 x3 ∧ I64 x4) ∧ (I64 y3 ∧ I64 y4)) := ⟨⟨Hl.out.i64 _ (by simp), Hl.out.i64 _ (by simp)⟩, ⟨Hm.out.i64 _ (by simp), Hm.out.i64 _ (by simp)⟩⟩
  clear hSl hSm hil him Hl Hm kl km
  cases ra : rightB [x0, x1, x2] 9
  · rw [ra] at HA
    clear ra HB SA
    go_enter Tryd.func4, Tryd.ntmps4
    go_wp2_with fail
    refine (anchor_m hL).mono ?_
    rintro e w1 ⟨rfl, b1⟩
    go_wp2_with fail
    refine Calls.mono (HA.out _ b1) ?_; rintro e w2 ⟨rfl, rfl⟩
    go_wp2_with fail
    go_ret
    exact ⟨rfl, b1⟩
  cases rb : rightB [y0, y1, y2] 9
  · rw [ra] at HA
    rw [rb] at HB
    clear ra rb SA
    go_enter Tryd.func4, Tryd.ntmps4
    go_wp2_with fail
    refine (anchor_m hL).mono ?_
    rintro e w1 ⟨rfl, b1⟩
    go_wp2_with fail
    refine Calls.mono (HA.out _ b1) ?_; rintro e w2 ⟨rfl, rfl⟩
    go_wp2_with fail
    refine Calls.mono (HB.out _ b1) ?_; rintro e w2 ⟨rfl, rfl⟩
    go_wp2_with fail
    go_ret
    exact ⟨rfl, b1⟩
  have HAx : Hid (∀ (i : Nat) (x : Int), [x0, x1, x2][i]? = some x → Means (atoms 9) x (.atom x)) := fun i x hx => atoms_means (k := 9) (rightB_mem ra x (List.mem_of_getElem? hx)).1 (rightB_mem ra x (List.mem_of_getElem? hx)).2
  have HAy : Hid (∀ (i : Nat) (x : Int), [y0, y1, y2][i]? = some x → Means (atoms 9) x (.atom x)) := fun i x hx => atoms_means (k := 9) (rightB_mem rb x (List.mem_of_getElem? hx)).1 (rightB_mem rb x (List.mem_of_getElem? hx)).2
  rw [ra] at HA
  rw [rb] at HB
  cases p0 : x0 == y0
  · exact binds_1 hL kl3 km3 HA HB SA HI HAx HAy p0
  cases p1 : x1 == y1
  · exact binds_2 hL kl3 km3 HA HB SA HI HAx HAy p0 p1
  cases p3 : x3 == y3
  · exact binds_3 hL kl3 km3 HA HB SA HI HAx HAy p0 p1 p3
  · exact binds_4 hL kl3 km3 HA HB SA HI HAx HAy p0 p1 p3

end Go.Proofs.YtcfmagmhnemhaaaDoor
