/-
  Right trees, and that a leaf added to one leaves it right.
-/
import Derived.Test.YtmcjincgppddeaaDoorTN
namespace Go.Proofs.YtmcjincgppddeaaDoor
open Go.RowKit
set_option linter.unusedSimpArgs false
set_option linter.unusedVariables false

def LateOk (t : Tree) (x : Int) (l : List Int) : Prop := l.Pairwise (· < ·) ∧ ∀ i ∈ l, fullB t i = true ∧ underB (2 * i) x (lv t) = true

structure VOk (t : Tree) (x : Int) (u : PV) : Prop where
  blank : u.full = false → u = PV.blank
  leaf : u.full = true → lev x = 0 → u.late = []
  par : u.full = true → lev x ≠ 0 → u.client = 0 ∧ u.sig = 0 ∧ LateOk t x u.late

structure Good (t : Tree) : Prop where
  sh : Sh t
  vert : ∀ (x : Nat) (u : PV), t[x]? = some u → VOk t x u
  tight : ∃ i : Nat, lv t / 2 ≤ i ∧ i < lv t ∧ (vx t (2 * i)).full = true

theorem lateB_spec {t : Tree} {x : Int} : ∀ {l : List Int} {last : Int}, lateB t x last l = true ↔ l.Pairwise (· < ·) ∧ ∀ i ∈ l, last < i ∧ fullB t i = true ∧ underB (2 * i) x (lv t) = true
  | [], last => by simp [lateB]
  | i :: r, last => by
    simp only [lateB, Bool.and_eq_true, decide_eq_true_eq, List.pairwise_cons, List.mem_cons, forall_eq_or_imp]
    rw [lateB_spec (l := r) (last := i)]
    constructor
    · rintro ⟨⟨⟨h1, h2⟩, h3⟩, h4, h5⟩
      exact ⟨⟨fun a ha => (h5 a ha).1, h4⟩, ⟨h1, h2, h3⟩, fun a ha => ⟨by have := (h5 a ha).1; omega, (h5 a ha).2⟩⟩
    · rintro ⟨⟨h1, h2⟩, ⟨h3, h4, h5⟩, h6⟩
      exact ⟨⟨⟨h3, h4⟩, h5⟩, h2, fun a ha => ⟨h1 a ha, (h6 a ha).2⟩⟩

theorem late_iff {t : Tree} {x : Int} {l : List Int} : lateB t x (-1) l = true ↔ LateOk t x l := by
  rw [lateB_spec]
  constructor
  · rintro ⟨h1, h2⟩
    exact ⟨h1, fun i hi => (h2 i hi).2⟩
  · rintro ⟨h1, h2⟩
    exact ⟨h1, fun i hi => ⟨by have := fullB_range (h2 i hi).1; omega, h2 i hi⟩⟩

theorem vert_iff {t : Tree} {x : Int} {u : PV} : vertB t x u = true ↔ VOk t x u := by
  unfold vertB
  cases hf : u.full with
  | false =>
    simp only [Bool.false_eq_true, if_false, Bool.and_eq_true, beq_iff_eq, decide_eq_true_eq]
    constructor
    · rintro ⟨h1, h2, h3, h4, h5⟩
      have h6 := List.eq_nil_of_length_eq_zero h5
      refine ⟨fun _ => ?_, fun h => (by rw [hf] at h; cases h), fun h => (by rw [hf] at h; cases h)⟩
      cases u
      simp only at hf h1 h2 h3 h4 h6
      subst hf h1 h2 h3 h4 h6
      rfl
    · intro h
      have := h.blank hf
      subst this
      simp [PV.blank]
  | true =>
    simp only [if_true]
    by_cases hl : lev x = 0
    · simp only [hl, beq_self_eq_true, if_true, decide_eq_true_eq]
      constructor
      · intro h
        exact ⟨fun h' => (by rw [hf] at h'; cases h'), fun _ _ => List.eq_nil_of_length_eq_zero h, fun _ h' => absurd hl h'⟩
      · intro h
        rw [h.leaf hf hl]; rfl
    · have hl' : (lev x == 0) = false := by simpa using hl
      simp only [hl', Bool.false_eq_true, if_false, Bool.and_eq_true, beq_iff_eq, late_iff]
      constructor
      · intro h
        exact ⟨fun h' => (by rw [hf] at h'; cases h'), fun _ h' => absurd h' hl, fun _ _ => h⟩
      · intro h
        exact h.par hf hl

theorem from_iff {t : Tree} {k : Nat} : fromB t k = true ↔ ∃ i : Nat, k ≤ i ∧ i < lv t ∧ (vx t (2 * i)).full = true := by
  unfold fromB
  simp only [List.any_eq_true, decide_eq_true_eq]
  constructor
  · rintro ⟨i, hi, hk⟩
    have := mem_membersN.1 hi
    exact ⟨i.toNat, by omega, by omega, this.2.2⟩
  · rintro ⟨i, h1, h2, h3⟩
    exact ⟨(i : Int), mem_membersN.2 ⟨by omega, by omega, by simpa using h3⟩, by omega⟩

theorem good_iff {t : Tree} : checkB t = true ↔ Good t := by
  unfold checkB
  simp only [Bool.and_eq_true, shB_iff, from_iff]
  constructor
  · rintro ⟨h1, h2, h3⟩
    refine ⟨h1, fun x u hu => ?_, h3⟩
    have hx := (List.getElem?_eq_some_iff.1 hu).1
    unfold vertsB at h2
    have := List.all_eq_true.1 h2 x (List.mem_range.2 hx)
    rw [vx_get hu] at this
    exact vert_iff.1 this
  · rintro ⟨h1, h2, h3⟩
    refine ⟨h1, ?_, h3⟩
    unfold vertsB
    rw [List.all_eq_true]
    intro x hx
    exact vert_iff.2 (h2 x _ (vx_some (List.mem_range.1 hx)))

theorem rise_len : ∀ (l : List Int) (a b : Int), l.Pairwise (· < ·) → (∀ i ∈ l, a ≤ i ∧ i < b) → (l.length : Int) ≤ max (b - a) 0
  | [], a, b, _, _ => by simp; omega
  | i :: r, a, b, h1, h2 => by
    have h3 := h2 i (by simp)
    have := rise_len r (i + 1) b (List.Pairwise.of_cons h1) (fun j hj => ⟨by have := List.rel_of_pairwise_cons h1 hj; omega, (h2 j (by simp [hj])).2⟩)
    simp only [List.length_cons]
    omega

theorem Good.fit {t : Tree} (h : Good t) : Fit t := by
  refine ⟨h.sh, fun x u hu => ?_⟩
  have hv := h.vert x u hu
  have hb := h.sh.bounds
  have nil : u.late = [] → u.late.length ≤ 32 ∧ u.late.Pairwise (· < ·) ∧ ∀ i ∈ u.late, 0 ≤ i ∧ i < lv t := by
    intro e; rw [e]; simp
  cases hf : u.full with
  | false => exact nil (by rw [hv.blank hf]; rfl)
  | true =>
    by_cases hl : lev (x : Int) = 0
    · exact nil (hv.leaf hf hl)
    · obtain ⟨_, _, h1, h2⟩ := hv.par hf hl
      have h3 : ∀ i ∈ u.late, 0 ≤ i ∧ i < lv t := fun i hi => fullB_range (h2 i hi).1
      have := rise_len u.late 0 (lv t) h1 h3
      exact ⟨by omega, h1, h3⟩

theorem lev_even {k : Nat} (h : 2 * k < 63) : lev (2 * (k : Int)) = 0 := by
  have := forall_lt 32 (fun k => lev (2 * k) == 0) (by decide +kernel) (k : Int) (by omega) (by omega)
  simpa using this

end Go.Proofs.YtmcjincgppddeaaDoor
