/-
  A leaf added: package tree's Add.
-/
import Derived.Test.YtdnopkpoepdihaaDoorTH
import Derived.Deep.DeepCutAuto
namespace Go.Proofs.YtdnopkpoepdihaaDoor
open Go.RowKit
set_option linter.unusedSimpArgs false
set_option linter.unusedVariables false

theorem OwnT.mono {B B' : Nat} {w : World} {v : Value} {t : Tree} {hs : List Value} {j : Nat} (h : OwnT B w v t hs j) (hb : B' ≤ B) : OwnT B' w v t hs j :=
  ⟨h.len, h.row.mono hb, fun x u a hx hu ha => (h.late x u a hx hu ha).mono hb, h.apart⟩

/-- The tree while the Lates along the leaf's path are put. -/
def addJV (i : Int) (leaf : PV) (Q : List Int) (x : Nat) (u : PV) : PV :=
  if (x : Int) = 2 * i then leafV leaf else if u.full && Q.contains (x : Int) then { u with late := ins i u.late } else u
def addJ (t : Tree) (i : Int) (leaf : PV) (Q : List Int) : Tree := t.mapIdx (addJV i leaf Q)

theorem addJ_len (t : Tree) (i : Int) (leaf : PV) (Q : List Int) : (addJ t i leaf Q).length = t.length := by simp [addJ]
theorem addJ_get (t : Tree) (i : Int) (leaf : PV) (Q : List Int) (x : Nat) : (addJ t i leaf Q)[x]? = t[x]?.map (addJV i leaf Q x) := by simp [addJ]

theorem addJ_zero (t : Tree) (k : Nat) (leaf : PV) (hk : 2 * k < t.length) : addJ t k leaf [] = t.set (2 * k) (leafV leaf) := by
  apply List.ext_getElem?
  intro x
  rw [addJ_get]
  by_cases hx : x = 2 * k
  · subst hx
    rw [List.getElem?_set_self hk, vx_some hk]
    simp [addJV]
  · rw [List.getElem?_set_ne (by omega)]
    cases h : t[x]? with
    | none => rfl
    | some u =>
      have : ¬ ((x : Int) = 2 * (k : Int)) := by omega
      simp [addJV, this]

theorem addJ_step {t : Tree} {i : Int} {leaf : PV} {Q : List Int} {y : Nat} {u : PV} (hu : t[y]? = some u) (hni : (y : Int) ≠ 2 * i) (hnq : Q.contains (y : Int) = false) :
    addJ t i leaf (Q ++ [(y : Int)]) = if u.full then (addJ t i leaf Q).set y { u with late := ins i u.late } else addJ t i leaf Q := by
  have hy := (List.getElem?_eq_some_iff.1 hu).1
  have hq : ∀ x : Nat, x ≠ y → (Q ++ [(y : Int)]).contains (x : Int) = Q.contains (x : Int) := by
    intro x hx
    have : ¬ ((x : Int) = (y : Int)) := by omega
    simp [this]
  by_cases hf : u.full = true
  · rw [if_pos hf]
    apply List.ext_getElem?
    intro x
    rw [addJ_get]
    by_cases hx : x = y
    · subst hx
      rw [List.getElem?_set_self (by rw [addJ_len]; exact hy), hu]
      simp [addJV, hni, hf]
    · rw [List.getElem?_set_ne (by omega), addJ_get]
      cases h : t[x]? with
      | none => rfl
      | some v => simp only [Option.map_some, addJV, hq x hx]
  · rw [if_neg hf]
    apply List.ext_getElem?
    intro x
    rw [addJ_get, addJ_get]
    by_cases hx : x = y
    · subst hx
      rw [hu]
      simp [addJV, hni, hf]
    · cases h : t[x]? with
      | none => rfl
      | some v => simp only [Option.map_some, addJV, hq x hx]

theorem addJ_at {t : Tree} {i : Int} {leaf : PV} {Q : List Int} {y : Nat} {u : PV} (hu : t[y]? = some u) (hni : (y : Int) ≠ 2 * i) (hnq : Q.contains (y : Int) = false) : (addJ t i leaf Q)[y]? = some u := by
  rw [addJ_get, hu]
  have : ¬ ((y : Int) ∈ Q) := by simpa using hnq
  simp [addJV, hni, this]

theorem addJ_end {t : Tree} (hs : Sh t) (leaf : PV) (hr : Sh (room t)) : addJ (room t) (least t) leaf (pathI (2 * (least t : Int)) (lv (room t))) = addF t leaf := by
  unfold addJ addF
  apply List.ext_getElem?
  intro x
  simp only [List.getElem?_mapIdx]
  cases h : (room t)[x]? with
  | none => rfl
  | some u =>
    have hx := (List.getElem?_eq_some_iff.1 h).1
    have hin := place_in hr hx
    simp only [Option.map_some, addJV, addV]
    by_cases hx2 : (x : Int) = 2 * (least t : Int)
    · simp [hx2]
    · rw [if_neg hx2, if_neg hx2]
      have hl : inB (2 * (least t : Int)) (lv (room t)) = true := by
        have h1 := (least_spec t).1
        have h2 := hr.bounds
        have h3 := hs.bounds
        have : least t < lv (room t) := by
          unfold room
          split
          · rename_i he
            simp [dbl, lv]; simp [lv] at he h3; omega
          · omega
        simp [inB, hr.1]; omega
      have e : (pathI (2 * (least t : Int)) (lv (room t))).contains (x : Int) = underB (2 * (least t : Int)) x (lv (room t)) := by
        have : ((x : Int) != 2 * (least t : Int)) = true := by simpa using hx2
        simp [pathI, underB, hl, hin, List.contains_iff_mem, List.mem_filter, hx2]
      rw [e]

theorem path_at {x n : Int} (h : inB x n = true) {j : Nat} {y : Int} (hy : (pathI x n)[j]? = some y) : inB y n = true ∧ y ≠ x ∧ ((pathI x n).take j).contains y = false := by
  have := forall_in (fun x n => (List.range 7).all fun j => match (pathI x n)[j]? with | some y => decide (inB y n = true ∧ y ≠ x ∧ ((pathI x n).take j).contains y = false) | none => true) (by decide +kernel) x n h
  have hl : j < 7 := by
    have h1 := (List.getElem?_eq_some_iff.1 hy).1
    have := path_len x n
    omega
  have h4 := List.all_eq_true.1 this j (List.mem_range.2 hl)
  rw [hy] at h4
  simpa using h4

end Go.Proofs.YtdnopkpoepdihaaDoor
