/-
  Right trees, and that a leaf added to one leaves it right.
-/
import Derived.Test.YtdnopkpoepdihaaDoorTN
namespace Go.Proofs.YtdnopkpoepdihaaDoor
set_option linter.unusedSimpArgs false
set_option linter.unusedVariables false

def LateOk (t : Tree) (x : Int) (l : List Int) : Prop := l.Pairwise (· < ·) ∧ ∀ i ∈ l, fullB t i = true ∧ underB (2 * i) x (lv t) = true
structure VOk (t : Tree) (x : Int) (u : PV) : Prop where
  blank : u.full = false → u = PV.blank
  leaf : u.full = true → lev x = 0 → u.late = []
  par : u.full = true → lev x ≠ 0 → u.client = 0 ∧ u.sig = 0 ∧ LateOk t x u.late
structure Good (t : Tree) : Prop where
  sh : Sh t
  vert : ∀ (x : Nat) (u : PV), t[x]? = some u → VOk t x u
  tight : ∃ i : Nat, lv t / 2 ≤ i ∧ i < lv t ∧ (vx t (2 * i)).full = true

theorem lateB_spec {t : Tree} {x : Int} : ∀ {l : List Int} {last : Int}, lateB t x last l = true ↔ l.Pairwise (· < ·) ∧ ∀ i ∈ l, last < i ∧ fullB t i = true ∧ underB (2 * i) x (lv t) = true
  | [], last => by simp [lateB]
  | i :: r, last => by
    simp only [lateB, Bool.and_eq_true, decide_eq_true_eq, List.pairwise_cons, List.mem_cons, forall_eq_or_imp]
    rw [lateB_spec (l := r) (last := i)]
    constructor
    · rintro ⟨⟨⟨h1, h2⟩, h3⟩, h4, h5⟩
      exact ⟨⟨fun a ha => (h5 a ha).1, h4⟩, ⟨h1, h2, h3⟩, fun a ha => ⟨by have := (h5 a ha).1; omega, (h5 a ha).2⟩⟩
    · rintro ⟨⟨h1, h2⟩, ⟨h3, h4, h5⟩, h6⟩
      exact ⟨⟨⟨h3, h4⟩, h5⟩, h2, fun a ha => ⟨h1 a ha, (h6 a ha).2⟩⟩

theorem late_iff {t : Tree} {x : Int} {l : List Int} : lateB t x (-1) l = true ↔ LateOk t x l := by
  rw [lateB_spec]
  constructor
  · rintro ⟨h1, h2⟩
    exact ⟨h1, fun i hi => (h2 i hi).2⟩
  · rintro ⟨h1, h2⟩
    exact ⟨h1, fun i hi => ⟨by have := fullB_range (h2 i hi).1; omega, h2 i hi⟩⟩

theorem vert_iff {t : Tree} {x : Int} {u : PV} : vertB t x u = true ↔ VOk t x u := by
  unfold vertB
  cases hf : u.full with
  | false =>
    simp only [Bool.false_eq_true, if_false, Bool.and_eq_true, beq_iff_eq, decide_eq_true_eq]
    constructor
    · rintro ⟨h1, h2, h3, h4, h5⟩
      have h6 := List.eq_nil_of_length_eq_zero h5
      refine ⟨fun _ => ?_, fun h => (by rw [hf] at h; cases h), fun h => (by rw [hf] at h; cases h)⟩
      cases u
      simp only at hf h1 h2 h3 h4 h6
      subst hf h1 h2 h3 h4 h6
      rfl
    · intro h
      have := h.blank hf
      subst this
      simp [PV.blank]
  | true =>
    simp only [if_true]
    by_cases hl : lev x = 0
    · simp only [hl, beq_self_eq_true, if_true, decide_eq_true_eq]
      constructor
      · intro h
        exact ⟨fun h' => (by rw [hf] at h'; cases h'), fun _ _ => List.eq_nil_of_length_eq_zero h, fun _ h' => absurd hl h'⟩
      · intro h
        rw [h.leaf hf hl]; rfl
    · have hl' : (lev x == 0) = false := by simpa using hl
      simp only [hl', Bool.false_eq_true, if_false, Bool.and_eq_true, beq_iff_eq, late_iff]
      constructor
      · intro h
        exact ⟨fun h' => (by rw [hf] at h'; cases h'), fun _ h' => absurd h' hl, fun _ _ => h⟩
      · intro h
        exact h.par hf hl

theorem from_iff {t : Tree} {k : Nat} : fromB t k = true ↔ ∃ i : Nat, k ≤ i ∧ i < lv t ∧ (vx t (2 * i)).full = true := by
  unfold fromB
  simp only [List.any_eq_true, decide_eq_true_eq]
  constructor
  · rintro ⟨i, hi, hk⟩
    have := mem_membersN.1 hi
    exact ⟨i.toNat, by omega, by omega, this.2.2⟩
  · rintro ⟨i, h1, h2, h3⟩
    exact ⟨(i : Int), mem_membersN.2 ⟨by omega, by omega, by simpa using h3⟩, by omega⟩

theorem good_iff {t : Tree} : checkB t = true ↔ Good t := by
  unfold checkB
  simp only [Bool.and_eq_true, shB_iff, from_iff]
  constructor
  · rintro ⟨h1, h2, h3⟩
    refine ⟨h1, fun x u hu => ?_, h3⟩
    have hx := (List.getElem?_eq_some_iff.1 hu).1
    unfold vertsB at h2
    have := List.all_eq_true.1 h2 x (List.mem_range.2 hx)
    rw [vx_get hu] at this
    exact vert_iff.1 this
  · rintro ⟨h1, h2, h3⟩
    refine ⟨h1, ?_, h3⟩
    unfold vertsB
    rw [List.all_eq_true]
    intro x hx
    exact vert_iff.2 (h2 x _ (vx_some (List.mem_range.1 hx)))

theorem rise_len : ∀ (l : List Int) (a b : Int), l.Pairwise (· < ·) → (∀ i ∈ l, a ≤ i ∧ i < b) → (l.length : Int) ≤ max (b - a) 0
  | [], a, b, _, _ => by simp; omega
  | i :: r, a, b, h1, h2 => by
    have h3 := h2 i (by simp)
    have := rise_len r (i + 1) b (List.Pairwise.of_cons h1) (fun j hj => ⟨by have := List.rel_of_pairwise_cons h1 hj; omega, (h2 j (by simp [hj])).2⟩)
    simp only [List.length_cons]
    omega

theorem Good.fit {t : Tree} (h : Good t) : Fit t := by
  refine ⟨h.sh, fun x u hu => ?_⟩
  have hv := h.vert x u hu
  have hb := h.sh.bounds
  have nil : u.late = [] → u.late.length ≤ 32 ∧ u.late.Pairwise (· < ·) ∧ ∀ i ∈ u.late, 0 ≤ i ∧ i < lv t := by
    intro e; rw [e]; simp
  cases hf : u.full with
  | false => exact nil (by rw [hv.blank hf]; rfl)
  | true =>
    by_cases hl : lev (x : Int) = 0
    · exact nil (hv.leaf hf hl)
    · obtain ⟨_, _, h1, h2⟩ := hv.par hf hl
      have h3 : ∀ i ∈ u.late, 0 ≤ i ∧ i < lv t := fun i hi => fullB_range (h2 i hi).1
      have := rise_len u.late 0 (lv t) h1 h3
      exact ⟨by omega, h1, h3⟩

/-- What is below what, in a tree and in the doubled one. -/
theorem under_dbl {x y n : Int} (h : underB x y n = true) (hn : rightB (2 * n) = true) : underB x y (2 * n) = true := by
  have hx : inB x n = true := by simp [underB] at h; exact h.1.1
  have hy : inB y n = true := by simp [underB] at h; exact h.1.2
  have := forall_in2 (fun x y n => !underB x y n || !rightB (2 * n) || underB x y (2 * n)) (by decide +kernel) x y n hx hy
  simpa [h, hn] using this

theorem under_leaf {x y n : Int} (h : underB x y n = true) (hl : lev y = 0) : x = y := by
  have hx : inB x n = true := by simp [underB] at h; exact h.1.1
  have hy : inB y n = true := by simp [underB] at h; exact h.1.2
  have := forall_in2 (fun x y n => !underB x y n || !(lev y == 0) || x == y) (by decide +kernel) x y n hx hy
  simpa [h, hl] using this

theorem lev_even {k : Nat} (h : 2 * k < 63) : lev (2 * (k : Int)) = 0 := by
  have := forall_lt 32 (fun k => lev (2 * k) == 0) (by decide +kernel) (k : Int) (by omega) (by omega)
  simpa using this

theorem ins_mem {i j : Int} : ∀ {l : List Int}, j ∈ ins i l ↔ j = i ∨ j ∈ l
  | [] => by simp [ins]
  | k :: r => by
    unfold ins
    split
    · simp
    · simp only [List.mem_cons, ins_mem (l := r)]
      constructor
      · rintro (h | h | h) <;> simp [h]
      · rintro (h | h | h) <;> simp [h]

theorem ins_rise {i : Int} : ∀ {l : List Int}, l.Pairwise (· < ·) → i ∉ l → (ins i l).Pairwise (· < ·)
  | [], _, _ => by simp [ins]
  | k :: r, h, hn => by
    have h1 : ∀ a ∈ r, k < a := fun a ha => List.rel_of_pairwise_cons h ha
    simp only [List.mem_cons, not_or] at hn
    unfold ins
    split
    · rename_i hk
      refine List.pairwise_cons.2 ⟨fun a ha => ?_, h⟩
      rcases List.mem_cons.1 ha with rfl | ha
      · exact hk
      · have := h1 a ha; omega
    · refine List.pairwise_cons.2 ⟨fun a ha => ?_, ins_rise (List.Pairwise.of_cons h) hn.2⟩
      rcases ins_mem.1 ha with rfl | ha
      · omega
      · exact h1 a ha

theorem addF_get (t : Tree) (leaf : PV) (x : Nat) : (addF t leaf)[x]? = (room t)[x]?.map (addV (least t) (lv (room t)) leaf x) := by simp [addF]
theorem addF_len (t : Tree) (leaf : PV) : (addF t leaf).length = (room t).length := by simp [addF]
theorem addF_lv (t : Tree) (leaf : PV) : lv (addF t leaf) = lv (room t) := by simp [lv, addF_len]

theorem room_full {t : Tree} (hs : Sh t) (hr : ¬ (least t = lv t ∧ lv t = 32)) (j : Nat) : (vx (room t) (2 * j)).full = (decide (j < lv t) && (vx t (2 * j)).full) := by
  have hb := hs.bounds
  have out : ¬ j < lv t → (vx t (2 * j)).full = false := fun h => by
    have : t[2 * j]? = none := List.getElem?_eq_none (by omega)
    simp [vx, this, PV.blank]
  unfold room
  split
  · by_cases hj : j < lv t
    · have : (dbl t)[2 * j]? = t[2 * j]? := by simp [dbl, List.getElem?_append_left (show 2 * j < t.length by omega)]
      simp [vx, this, hj]
    · have : (dbl t).getD (2 * j) PV.blank = PV.blank := by
        simp only [dbl, List.getD_eq_getElem?_getD, List.getElem?_append_right (show t.length ≤ 2 * j by omega)]
        cases h : (List.replicate (2 * lv t) PV.blank)[2 * j - t.length]? with
        | none => rfl
        | some u => exact (List.mem_replicate.1 (List.mem_of_getElem? h)).2
      unfold vx
      rw [this]
      simp [hj, PV.blank]
  · by_cases hj : j < lv t
    · simp [hj]
    · simp [hj, out hj]

theorem addF_full {t : Tree} (hs : Sh t) (hr : ¬ (least t = lv t ∧ lv t = 32)) (leaf : PV) (j : Nat) (hj : j < lv (room t)) : (vx (addF t leaf) (2 * j)).full = (decide (j = least t) || (decide (j < lv t) && (vx t (2 * j)).full)) := by
  obtain ⟨h1, h2, h3, h4⟩ := room_sh hs hr
  have hb := h1.bounds
  have hx : 2 * j < (room t).length := by omega
  have e : (addF t leaf)[2 * j]? = some (addV (least t) (lv (room t)) leaf (2 * j) (vx (room t) (2 * j))) := by rw [addF_get, vx_some hx]; rfl
  rw [vx_get e, ← room_full hs hr j]
  unfold addV
  by_cases hj2 : j = least t
  · subst hj2
    rw [if_pos (by omega)]
    simp [leafV]
  · rw [if_neg (by omega)]
    split
    · simp [hj2]
    · simp [hj2]

theorem room_vert {t : Tree} (h : Good t) (hr : ¬ (least t = lv t ∧ lv t = 32)) {x : Nat} {u : PV} (hu : (room t)[x]? = some u) :
    (u.full = false → u = PV.blank) ∧ (u.full = true → lev (x : Int) = 0 → u.late = []) ∧ (u.full = true → lev (x : Int) ≠ 0 → u.client = 0 ∧ u.sig = 0 ∧ u.late.Pairwise (· < ·) ∧ ∀ i ∈ u.late, fullB t i = true ∧ underB (2 * i) x (lv (room t)) = true) := by
  obtain ⟨h1, h2, h3, h4⟩ := room_sh h.sh hr
  by_cases hle : least t = lv t
  · have e : room t = t ++ List.replicate (2 * lv t) PV.blank := by simp [room, hle, dbl]
    have hr2 : rightB (2 * (lv t : Int)) = true := by
      have := h1.1
      rw [h3 hle] at this
      rw [show (2 * (lv t : Int)) = ((2 * lv t : Nat) : Int) by omega]
      exact this
    rw [e] at hu
    by_cases hx : x < t.length
    · rw [List.getElem?_append_left hx] at hu
      have hv := h.vert x u hu
      refine ⟨hv.blank, hv.leaf, fun hf hl => ?_⟩
      obtain ⟨a, b, c, d⟩ := hv.par hf hl
      refine ⟨a, b, c, fun i hi => ⟨(d i hi).1, ?_⟩⟩
      rw [h3 hle, show (((2 * lv t : Nat)) : Int) = 2 * (lv t : Int) by omega]
      exact under_dbl (d i hi).2 hr2
    · rw [List.getElem?_append_right (by omega)] at hu
      obtain ⟨_, rfl⟩ := List.mem_replicate.1 (List.mem_of_getElem? hu)
      exact ⟨fun _ => rfl, fun h => (by cases h), fun h => (by cases h)⟩
  · have e := h4 hle
    rw [e] at hu ⊢
    have hv := h.vert x u hu
    exact ⟨hv.blank, hv.leaf, fun hf hl => by
      obtain ⟨a, b, c, d⟩ := hv.par hf hl
      exact ⟨a, b, c, d⟩⟩

theorem addF_fullB {t : Tree} (hs : Sh t) (hr : ¬ (least t = lv t ∧ lv t = 32)) (leaf : PV) {j : Int} (hj : fullB t j = true) : fullB (addF t leaf) j = true ∧ j ≠ (least t : Int) := by
  obtain ⟨h1, h2, h3, h4⟩ := room_sh hs hr
  have hb := fullB_range hj
  obtain ⟨k, rfl⟩ : ∃ k : Nat, j = k := ⟨j.toNat, by omega⟩
  have hk : k < lv (room t) := by
    by_cases hle : least t = lv t
    · rw [h3 hle]; omega
    · rw [h4 hle]; omega
  have hf : (vx t (2 * k)).full = true := by simp [fullB] at hj; exact hj.2
  have hne : k ≠ least t := by
    intro e
    have h5 := (least_spec t).2.2 (by omega)
    rw [← e, hf] at h5
    cases h5
  have := addF_full hs hr leaf k hk
  rw [hf] at this
  refine ⟨?_, by omega⟩
  simp [fullB, addF_lv, hk, this]
  right; omega

theorem Good.add {t : Tree} (h : Good t) (hr : ¬ (least t = lv t ∧ lv t = 32)) (leaf : PV) : Good (addF t leaf) := by
  obtain ⟨h1, h2, h3, h4⟩ := room_sh h.sh hr
  have hb := h1.bounds
  have hbt := h.sh.bounds
  have hfi : fullB (addF t leaf) (least t) = true := by
    have := addF_full h.sh hr leaf (least t) h2
    simp [fullB, addF_lv, h2, this]
  refine ⟨⟨by rw [addF_lv]; exact h1.1, by rw [addF_lv, addF_len]; exact h1.2⟩, fun x v hv => ?_, ?_⟩
  · rw [addF_get] at hv
    cases hu : (room t)[x]? with
    | none => rw [hu] at hv; cases hv
    | some u =>
      rw [hu] at hv
      simp only [Option.map_some, Option.some.injEq] at hv
      subst hv
      have hx := (List.getElem?_eq_some_iff.1 hu).1
      obtain ⟨r1, r2, r3⟩ := room_vert h hr hu
      unfold addV
      by_cases hx2 : (x : Int) = 2 * (least t : Int)
      · rw [if_pos hx2]
        have hl0 : lev (x : Int) = 0 := by rw [hx2]; exact lev_even (by omega)
        exact ⟨fun h => (by cases h), fun _ _ => rfl, fun _ h => absurd hl0 h⟩
      · rw [if_neg hx2]
        by_cases hc : (u.full && underB (2 * (least t : Int)) x (lv (room t))) = true
        · rw [if_pos hc]
          have hc' := hc
          simp only [Bool.and_eq_true] at hc'
          have hl : lev (x : Int) ≠ 0 := fun hl => hx2 (under_leaf hc'.2 hl).symm
          obtain ⟨a, b, c, d⟩ := r3 hc'.1 hl
          have hni : (least t : Int) ∉ u.late := fun hi => (addF_fullB h.sh hr leaf (d _ hi).1).2 rfl
          refine ⟨fun h' => ?_, fun _ h' => absurd h' hl, fun _ _ => ⟨a, b, ins_rise c hni, fun i hi => ?_⟩⟩
          · rw [hc'.1] at h'; cases h'
          · rw [addF_lv]
            rcases ins_mem.1 hi with rfl | hi
            · exact ⟨hfi, hc'.2⟩
            · exact ⟨(addF_fullB h.sh hr leaf (d i hi).1).1, (d i hi).2⟩
        · rw [if_neg hc]
          refine ⟨r1, r2, fun hf hl => ?_⟩
          obtain ⟨a, b, c, d⟩ := r3 hf hl
          exact ⟨a, b, c, fun i hi => ⟨(addF_fullB h.sh hr leaf (d i hi).1).1, by rw [addF_lv]; exact (d i hi).2⟩⟩
  · rw [addF_lv]
    by_cases hle : least t = lv t
    · refine ⟨least t, by rw [h3 hle]; omega, h2, ?_⟩
      rw [addF_full h.sh hr leaf _ h2]; simp
    · rw [h4 hle] at h2 ⊢
      obtain ⟨i, a, b, c⟩ := h.tight
      refine ⟨i, a, b, ?_⟩
      rw [addF_full h.sh hr leaf i (by rw [h4 hle]; exact b)]
      simp [b, c]

theorem Good.one (u : PV) : Good [leafV u] := by
  have e : lv [leafV u] = 1 := by simp [lv]
  refine ⟨⟨by rw [e]; rfl, by rw [e]; rfl⟩, fun x v hv => ?_, 0, by rw [e]; decide, by rw [e]; decide, rfl⟩
  cases x with
  | zero =>
    simp at hv
    subst hv
    exact ⟨fun h => (by cases h), fun _ _ => rfl, fun _ h => absurd rfl h⟩
  | succ k => simp at hv

end Go.Proofs.YtdnopkpoepdihaaDoor
