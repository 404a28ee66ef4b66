/-
  Which leaves are full behind a step; right trees stay right behind replacing and taking out.
-/
import Derived.Test.YtdnopkpoepdihaaDoorTU
namespace Go.Proofs.YtdnopkpoepdihaaDoor
set_option linter.unusedSimpArgs false
set_option linter.unusedVariables false

def isF (t : Tree) (j : Nat) : Bool := decide (j < lv t) && (vx t (2 * j)).full
theorem isF_fullB {t : Tree} {j : Nat} : isF t j = fullB t j := by simp [isF, fullB]

theorem members_eq {t : Tree} (hs : Sh t) : members t = ((List.range 64).filter (isF t)).map fun i : Nat => (i : Int) := by
  have hb := hs.bounds
  have key : ∀ m, lv t ≤ m → ((List.range m).filter (isF t)) = (List.range (lv t)).filter fun i => (vx t (2 * i)).full := by
    intro m hm
    induction m with
    | zero =>
      have : lv t = 0 := by omega
      rw [this]; rfl
    | succ m ih =>
      by_cases h : lv t ≤ m
      · rw [List.range_succ, List.filter_append, ih h]
        have : isF t m = false := by simp [isF]; intro h2; omega
        simp [this]
      · have : lv t = m + 1 := by omega
        rw [this]
        apply List.filter_congr
        intro i hi
        have := List.mem_range.1 hi
        simp [isF]
        intro _; omega
  unfold members membersN
  rw [key 64 (by omega)]

theorem filter_drop {k : Nat} (p : Nat → Bool) : ∀ {l : List Nat}, l.Nodup → k ∈ l → p k = true → (l.filter fun j => p j && (j != k)).length + 1 = (l.filter p).length
  | [], _, h, _ => by simp at h
  | a :: r, hn, hk, hp => by
    have hn2 := List.nodup_cons.1 hn
    by_cases ha : a = k
    · subst ha
      have e : (r.filter fun j => p j && (j != a)) = r.filter p := by
        apply List.filter_congr
        intro x hx
        have : x ≠ a := fun e => hn2.1 (e ▸ hx)
        simp [this]
      simp [hp, e]
    · have hk2 : k ∈ r := by
        rcases List.mem_cons.1 hk with h | h
        · exact absurd h.symm ha
        · exact h
      have ih := filter_drop p hn2.2 hk2 hp
      cases hpa : p a with
      | true => simp [hpa, ha]; omega
      | false => simp [hpa]; exact ih

theorem members_less {t t' : Tree} (hs : Sh t) (hs' : Sh t') {k : Nat} (hk : isF t k = true) (h : ∀ j, isF t' j = (isF t j && (j != k))) : (members t').length + 1 = (members t).length := by
  rw [members_eq hs, members_eq hs', List.length_map, List.length_map]
  have e : isF t' = fun j => isF t j && (j != k) := funext h
  rw [e]
  have hb := hs.bounds
  have hk64 : k < 64 := by simp [isF] at hk; omega
  exact filter_drop (isF t) List.nodup_range (List.mem_range.2 hk64) hk

theorem members_more {t t' : Tree} (hs : Sh t) (hs' : Sh t') {k : Nat} (hk : isF t k = false) (hk' : isF t' k = true) (h : ∀ j, j ≠ k → isF t' j = isF t j) : (members t').length = (members t).length + 1 := by
  have := members_less hs' hs hk' (fun j => by
    by_cases hj : j = k
    · subst hj; simp [hk]
    · rw [h j hj]; simp [hj])
  omega

theorem members_same {t t' : Tree} (hs : Sh t) (hs' : Sh t') (h : ∀ j, isF t' j = isF t j) : members t' = members t := by
  rw [members_eq hs, members_eq hs', funext h]

theorem isF_add {t : Tree} (hs : Sh t) (hr : ¬ (least t = lv t ∧ lv t = 32)) (u : PV) (j : Nat) : isF (addF t u) j = (isF t j || decide (j = least t)) := by
  obtain ⟨s1, s2, s3, s4⟩ := room_sh hs hr
  have hlr : lv t ≤ lv (room t) := by
    by_cases h : least t = lv t
    · rw [s3 h]; omega
    · rw [s4 h]; exact Nat.le_refl _
  unfold isF
  rw [addF_lv]
  by_cases hj : j < lv (room t)
  · rw [addF_full hs hr u j hj]
    simp [hj]
    cases decide (j = least t) <;> simp
  · have : ¬ j = least t := by omega
    have : ¬ j < lv t := by omega
    simp [*]

theorem isF_put {t : Tree} (hs : Sh t) {k : Nat} (hk : k < lv t) (v : PV) (j : Nat) : isF (putF t k v) j = if j = k then v.full else isF t j := by
  have hb := hs.bounds
  unfold isF
  rw [putF_lv]
  by_cases hj : j < lv t
  · have hx : 2 * j < t.length := by omega
    have e : (putF t k v)[2 * j]? = some (putV k (lv t) v (2 * j) (vx t (2 * j))) := by rw [putF_get, vx_some hx]; rfl
    rw [vx_get e]
    unfold putV
    by_cases hjk : j = k
    · subst hjk
      rw [if_pos (by omega)]
      simp [hj]
    · rw [if_neg (by omega), if_neg hjk]
      have hu : underB (2 * (k : Int)) ((2 * j : Nat) : Int) (lv t) = false := by
        cases h : underB (2 * (k : Int)) ((2 * j : Nat) : Int) (lv t) with
        | false => rfl
        | true =>
          have := under_leaf h (by rw [show ((2 * j : Nat) : Int) = 2 * (j : Int) by omega]; exact lev_even (by omega))
          omega
      rw [hu]
      simp [hj]
  · have : j ≠ k := by omega
    simp [hj, this]

/-- Right but that the right half may be empty. -/
structure GoodV (t : Tree) : Prop where
  sh : Sh t
  vert : ∀ (x : Nat) (u : PV), t[x]? = some u → VOk t x u
theorem Good.v {t : Tree} (h : Good t) : GoodV t := ⟨h.sh, h.vert⟩

theorem GoodV.put {t : Tree} (h : GoodV t) {k : Nat} (hk : k < lv t) (v : PV) (hv : v = PV.blank ∨ (v.full = true ∧ v.late = [])) : GoodV (putF t k v) := by
  have hb := h.sh.bounds
  refine ⟨⟨by rw [putF_lv]; exact h.sh.1, by rw [putF_lv, putF_len]; exact h.sh.2⟩, fun x u hu => ?_⟩
  rw [putF_get] at hu
  cases hx : t[x]? with
  | none => rw [hx] at hu; cases hu
  | some a =>
    rw [hx] at hu
    simp only [Option.map_some, Option.some.injEq] at hu
    subst hu
    have hxl := (List.getElem?_eq_some_iff.1 hx).1
    unfold putV
    have blank : VOk (putF t k v) x PV.blank := ⟨fun _ => rfl, fun h => (by cases h), fun h => (by cases h)⟩
    by_cases hx2 : (x : Int) = 2 * (k : Int)
    · rw [if_pos hx2]
      have hl0 : lev (x : Int) = 0 := by rw [hx2]; exact lev_even (by omega)
      rcases hv with rfl | ⟨h1, h2⟩
      · exact blank
      · exact ⟨fun h => (by rw [h1] at h; cases h), fun _ _ => h2, fun _ h => absurd hl0 h⟩
    · rw [if_neg hx2]
      by_cases hu : underB (2 * (k : Int)) x (lv t) = true
      · rw [if_pos hu]; exact blank
      · rw [if_neg hu]
        have hv0 := h.vert x a hx
        refine ⟨hv0.blank, hv0.leaf, fun hf hl => ?_⟩
        obtain ⟨c1, c2, c3, c4⟩ := hv0.par hf hl
        refine ⟨c1, c2, c3, fun i hi => ?_⟩
        obtain ⟨d1, d2⟩ := c4 i hi
        obtain ⟨m, rfl, hm, hmf⟩ := fullB_nat d1
        have hmk : m ≠ k := fun e => hu (e ▸ d2)
        refine ⟨?_, by rw [putF_lv]; exact d2⟩
        rw [← isF_fullB, isF_put h.sh hk, if_neg hmk, isF_fullB]
        exact d1

theorem under_half {x y n : Int} (h : underB x y (2 * n) = true) (hy : y < 2 * n - 1) (hn : rightB n = true) : underB x y n = true := by
  have hx : inB x (2 * n) = true := by simp [underB] at h; exact h.1.1
  have hy2 : inB y (2 * n) = true := by simp [underB] at h; exact h.1.2
  have := forall_in2 (fun x y m => !underB x y m || !decide (y < m - 1) || !rightB (m / 2) || underB x y (m / 2)) (by decide +kernel) x y (2 * n) hx hy2
  rw [show 2 * n / 2 = n by omega] at this
  simpa [h, hy, hn] using this

theorem isF_half {t : Tree} (hs : Sh t) (h1 : 1 < lv t) (h2 : tightB t = false) (j : Nat) : isF (t.take (lv t - 1)) j = isF t j := by
  obtain ⟨s1, s2, s3⟩ := half_sh hs h1
  have hb := hs.bounds
  unfold isF
  rw [s2]
  by_cases hj : j < lv t / 2
  · have e : (t.take (lv t - 1))[2 * j]? = t[2 * j]? := by rw [List.getElem?_take, if_pos (by omega)]
    have : j < lv t := by omega
    simp [vx, e, hj, this]
  · have : (decide (j < lv t) && (vx t (2 * j)).full) = false := by
      cases hq : (decide (j < lv t) && (vx t (2 * j)).full) with
      | false => rfl
      | true =>
        simp only [Bool.and_eq_true, decide_eq_true_eq] at hq
        have : tightB t = true := from_iff.2 ⟨j, by omega, hq.1, hq.2⟩
        rw [h2] at this; cases this
    rw [this]
    simp [hj]

theorem GoodV.half {t : Tree} (h : GoodV t) (h1 : 1 < lv t) : GoodV (t.take (lv t - 1)) := by
  obtain ⟨s1, s2, s3⟩ := half_sh h.sh h1
  have hb := h.sh.bounds
  refine ⟨s1, fun x u hu => ?_⟩
  have hx := (List.getElem?_eq_some_iff.1 hu).1
  rw [s3] at hx
  rw [List.getElem?_take, if_pos hx] at hu
  have hv := h.vert x u hu
  refine ⟨hv.blank, hv.leaf, fun hf hl => ?_⟩
  obtain ⟨c1, c2, c3, c4⟩ := hv.par hf hl
  refine ⟨c1, c2, c3, fun i hi => ?_⟩
  obtain ⟨d1, d2⟩ := c4 i hi
  have hev : 2 * (lv t / 2) = lv t := by
    have := h.sh.1
    simp [rightB] at this
    omega
  have hu2 : underB (2 * i) x ((lv t / 2 : Nat) : Int) = true := by
    have s1' := s1.1
    rw [s2] at s1'
    refine under_half (n := ((lv t / 2 : Nat) : Int)) ?_ (by omega) s1'
    rw [show 2 * ((lv t / 2 : Nat) : Int) = ((lv t : Nat) : Int) by omega]
    exact d2
  obtain ⟨m, rfl, hm, hmf⟩ := fullB_nat d1
  have hin : inB (2 * (m : Int)) ((lv t / 2 : Nat) : Int) = true := by simp [underB] at hu2; exact hu2.1.1
  have hmb := inB_bounds hin
  refine ⟨?_, by rw [s2]; exact hu2⟩
  have e : (t.take (lv t - 1))[2 * m]? = t[2 * m]? := by rw [List.getElem?_take, if_pos (by omega)]
  have hm2 : m < lv t / 2 := by omega
  simp [fullB, s2, vx, e, hm2]
  exact ⟨by omega, by simpa [vx] using hmf⟩

theorem shr_all : ∀ (f : Nat) {t : Tree}, GoodV t → lv t ≤ 2 ^ f → GoodV (shr f t) ∧ (∀ j, isF (shr f t) j = isF t j) ∧ (lv (shr f t) = 1 ∨ tightB (shr f t) = true)
  | 0, t, h, hl => by
    have := h.sh.bounds
    exact ⟨h, fun _ => rfl, .inl (by show lv t = 1; simp at hl; omega)⟩
  | f + 1, t, h, hl => by
    have hb := h.sh.bounds
    by_cases h1 : 1 < lv t
    · cases h2 : tightB t with
      | true =>
        rw [shr_stop (by simp [h2])]
        exact ⟨h, fun _ => rfl, .inr h2⟩
      | false =>
        rw [shr_go h1 h2]
        obtain ⟨s1, s2, s3⟩ := half_sh h.sh h1
        obtain ⟨a, b, c⟩ := shr_all f (h.half h1) (by rw [s2]; rw [Nat.pow_succ] at hl; omega)
        exact ⟨a, fun j => (b j).trans (isF_half h.sh h1 h2 j), c⟩
    · rw [shr_stop (by simp [h1])]
      exact ⟨h, fun _ => rfl, .inl (by omega)⟩

theorem rem_all {t : Tree} (h : Good t) {k : Nat} (hk : isF t k = true) (hm : (members t).length ≠ 1) : Good (remF t k) ∧ ∀ j, isF (remF t k) j = (isF t j && (j != k)) := by
  have hkl : k < lv t := by simp [isF] at hk; exact hk.1
  have hb := h.sh.bounds
  have hp := h.v.put hkl PV.blank (.inl rfl)
  have hpF : ∀ j, isF (putF t k PV.blank) j = (isF t j && (j != k)) := fun j => by
    rw [isF_put h.sh hkl]
    by_cases hj : j = k
    · simp [hj, PV.blank]
    · simp [hj]
  obtain ⟨a, b, c⟩ := shr_all 6 hp (by rw [putF_lv]; omega)
  have hF : ∀ j, isF (remF t k) j = (isF t j && (j != k)) := fun j => (b j).trans (hpF j)
  refine ⟨⟨a.sh, a.vert, ?_⟩, hF⟩
  rcases c with c | c
  · have hcnt := members_less h.sh a.sh hk hF
    have hne : 0 < (members (shr 6 (putF t k PV.blank))).length := by
      have h0 : 0 < (members t).length := by
        have : (k : Int) ∈ members t := mem_members.2 (by rw [← isF_fullB]; exact hk)
        exact List.length_pos_of_mem this
      omega
    obtain ⟨i, hi⟩ := List.exists_mem_of_length_pos hne
    have hi2 := mem_members.1 hi
    obtain ⟨m, rfl, hm1, hm2⟩ := fullB_nat hi2
    refine ⟨m, ?_, hm1, hm2⟩
    show lv (shr 6 (putF t k PV.blank)) / 2 ≤ m
    omega
  · exact from_iff.1 c

theorem Good.upd {t : Tree} (h : Good t) {k : Nat} (hk : isF t k = true) (v : PV) (hv : v.full = true ∧ v.late = []) : Good (putF t k v) ∧ ∀ j, isF (putF t k v) j = isF t j := by
  have hkl : k < lv t := by simp [isF] at hk; exact hk.1
  have hF : ∀ j, isF (putF t k v) j = isF t j := fun j => by
    rw [isF_put h.sh hkl]
    by_cases hj : j = k
    · simp [hj, hv.1, hk]
    · simp [hj]
  have hp := h.v.put hkl v (.inr hv)
  refine ⟨⟨hp.sh, hp.vert, ?_⟩, hF⟩
  obtain ⟨i, a, b, c⟩ := h.tight
  have : isF (putF t k v) i = true := by rw [hF]; simp [isF, b, c]
  rw [putF_lv]
  simp only [isF, putF_lv, Bool.and_eq_true, decide_eq_true_eq] at this
  exact ⟨i, a, b, this.2⟩

end Go.Proofs.YtdnopkpoepdihaaDoor
