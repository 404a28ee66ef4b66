/-
  What a step does to the leaves of a right tree: who is in it, and with which keys (pure).
-/
import Derived.Test.YtdnopkpoepdihaaDoorSF
namespace Go.Proofs.YtdnopkpoepdihaaDoor
open Go.RowKit
set_option linter.unusedSimpArgs false
set_option linter.unusedVariables false

theorem isF_lt {t : Tree} {j : Nat} (h : isF t j = true) : j < lv t ∧ (vx t (2 * j)).full = true := by
  simpa [isF] using h
theorem isF_mem {t : Tree} {i : Int} (h : i ∈ members t) : ∃ j : Nat, i = j ∧ isF t j = true := by
  have := mem_members.1 h
  obtain ⟨h0, h1⟩ := fullB_range this
  exact ⟨i.toNat, by omega, by rw [isF_fullB, Int.toNat_of_nonneg h0]; exact this⟩

theorem even_under {k j n : Nat} (hn32 : n ≤ 32) (hj : j < n) (hk : k < n) (h : k ≠ j) : underB (2 * (k : Int)) ((2 * j : Nat) : Int) n = false := by
  cases hu : underB (2 * (k : Int)) ((2 * j : Nat) : Int) n with
  | false => rfl
  | true =>
    have hr : n ≤ 32 := hn32
    have := under_leaf hu (by
      have := lev_even (k := j) (by omega)
      simpa using this)
    omega

theorem vx_put {t : Tree} (hs : Sh t) {k : Nat} (hk : k < lv t) (v : PV) {j : Nat} (hj : j < lv t) : vx (putF t k v) (2 * j) = if j = k then v else vx t (2 * j) := by
  have hb := hs.bounds
  have hx : 2 * j < t.length := by omega
  have e : (putF t k v)[2 * j]? = some (putV k (lv t) v (2 * j) (vx t (2 * j))) := by rw [putF_get, vx_some hx]; rfl
  rw [vx_get e]
  unfold putV
  by_cases hjk : j = k
  · subst hjk
    rw [if_pos (by omega), if_pos rfl]
  · rw [if_neg (by omega), if_neg hjk, even_under (by omega) hj hk (Ne.symm hjk)]
    rfl

theorem vx_room {t : Tree} {x : Nat} (hx : x < t.length) : vx (room t) x = vx t x := by
  unfold room
  split
  · unfold vx dbl
    simp [List.getD, List.getElem?_append_left hx]
  · rfl

theorem vx_add {t : Tree} (hs : Sh t) (hr : ¬ (least t = lv t ∧ lv t = 32)) (u : PV) {j : Nat} (hj : j < lv (room t)) : vx (addF t u) (2 * j) = if j = least t then leafV u else vx (room t) (2 * j) := by
  obtain ⟨s1, s2, s3, s4⟩ := room_sh hs hr
  have hb := s1.bounds
  have hx : 2 * j < (room t).length := by omega
  have e : (addF t u)[2 * j]? = some (addV (least t) (lv (room t)) u (2 * j) (vx (room t) (2 * j))) := by rw [addF_get, vx_some hx]; rfl
  rw [vx_get e]
  unfold addV
  by_cases hjk : j = least t
  · rw [if_pos (by omega), if_pos hjk]
  · rw [if_neg (by omega), if_neg hjk, even_under (by omega) hj s2 (Ne.symm hjk)]
    simp

theorem shr_pre : ∀ (f : Nat) (t : Tree), ∃ k, shr f t = t.take k
  | 0, t => ⟨t.length, by simp [shr]⟩
  | f + 1, t => by
    unfold shr
    split
    · obtain ⟨k, hk⟩ := shr_pre f (t.take (lv t - 1))
      exact ⟨min k (lv t - 1), by rw [hk, List.take_take]⟩
    · exact ⟨t.length, by simp⟩

theorem shr_vx {f : Nat} {t : Tree} {x : Nat} (hx : x < (shr f t).length) : vx (shr f t) x = vx t x := by
  obtain ⟨k, hk⟩ := shr_pre f t
  rw [hk] at hx ⊢
  have : x < k := by simp at hx; omega
  unfold vx
  simp [List.getD, List.getElem?_take, this]

theorem laid_vx : ∀ (T : Tree) (ps ks hs : List Int) (x : Nat), (∀ p ∈ ps, p ≠ (x : Int) ∧ 0 ≤ p) → vx (laid T ps ks hs) x = vx T x
  | T, [], ks, hs, x, _ => by simp [laid]
  | T, p :: ps, [], hs, x, _ => by simp [laid]
  | T, p :: ps, k :: ks, [], x, _ => by simp [laid]
  | T, p :: ps, k :: ks, h :: hs, x, hp => by
    unfold laid
    rw [laid_vx _ ps ks hs x (fun q hq => hp q (List.mem_cons_of_mem _ hq))]
    have := hp p (List.mem_cons_self ..)
    unfold vx
    simp only [List.getD, List.getElem?_set]
    rw [if_neg (by omega)]

structure RF (T A : Tree) (at_ : Int) (c : Int) (leaf : PV) (rem : Bool) : Prop where
  good : Good A
  len : ((members A).length : Int) = (members T).length + c
  here : ∀ j : Nat, isF A j = true → (j : Int) = at_ → (vx A (2 * j)).key = leaf.key ∧ (vx A (2 * j)).client = leaf.client
  other : ∀ j : Nat, isF A j = true → (j : Int) ≠ at_ → isF T j = true ∧ (vx A (2 * j)).key = (vx T (2 * j)).key ∧ (vx A (2 * j)).sig = (vx T (2 * j)).sig ∧ (vx A (2 * j)).client = (vx T (2 * j)).client
  find : rem = false → ∃ j : Nat, isF A j = true ∧ (vx A (2 * j)).client = leaf.client

theorem rf_add {T : Tree} (h : Good T) (hr : ¬ (least T = lv T ∧ lv T = 32)) (u : PV) : RF T (addF T u) (least T) 1 u false := by
  obtain ⟨s1, s2, s3, s4⟩ := room_sh h.sh hr
  have hA : ∀ j, isF (addF T u) j = true → j < lv (room T) := fun j hj => by have := (isF_lt hj).1; rwa [addF_lv] at this
  have hF := isF_add h.sh hr u
  have hme : isF (addF T u) (least T) = true := by rw [hF]; simp
  refine ⟨h.add hr u, by have := add_members h hr u; omega, fun j hj he => ?_, fun j hj hne => ?_, fun _ => ⟨least T, hme, ?_⟩⟩
  · rw [vx_add h.sh hr u (hA j hj), if_pos (by omega)]
    exact ⟨rfl, rfl⟩
  · have h1 : isF T j = true := by
      have := hF j
      rw [hj] at this
      rcases Bool.or_eq_true_iff.1 this.symm with h1 | h1
      · exact h1
      · have := of_decide_eq_true h1; omega
    have hb := h.sh.bounds
    rw [vx_add h.sh hr u (hA j hj), if_neg (by omega), vx_room (by have := (isF_lt h1).1; omega)]
    exact ⟨h1, rfl, rfl, rfl⟩
  · rw [vx_add h.sh hr u (hA _ hme), if_pos rfl]
    rfl

theorem rf_put {T : Tree} (h : Good T) {k : Nat} (hk : isF T k = true) (u : PV) : RF T (putF T k (leafV u)) k 0 u false := by
  obtain ⟨g, hF⟩ := h.upd hk (leafV u) ⟨rfl, rfl⟩
  have hkl := (isF_lt hk).1
  refine ⟨g, by rw [members_same h.sh g.sh hF]; omega, fun j hj he => ?_, fun j hj hne => ?_, fun _ => ⟨k, by rw [hF]; exact hk, ?_⟩⟩
  · rw [vx_put h.sh hkl _ (by have := (isF_lt hj).1; rwa [putF_lv] at this), if_pos (by omega)]
    exact ⟨rfl, rfl⟩
  · rw [vx_put h.sh hkl _ (by have := (isF_lt hj).1; rwa [putF_lv] at this), if_neg (by omega)]
    exact ⟨by rw [← hF]; exact hj, rfl, rfl, rfl⟩
  · rw [vx_put h.sh hkl _ hkl, if_pos rfl]
    rfl

theorem rf_merge {T : Tree} (h : Good T) {k : Nat} (hk : isF T k = true) (u : PV) (ks hs : List Int) : RF T (mergeF T k u ks hs) k 0 u false := by
  obtain ⟨g, hF⟩ := h.merge hk u ks hs
  have r := rf_put h hk u
  have hv : ∀ j : Nat, vx (mergeF T k u ks hs) (2 * j) = vx (putF T k (leafV u)) (2 * j) := fun j => by
    unfold mergeF
    refine laid_vx _ _ _ _ _ fun p hp => ?_
    obtain ⟨m, rfl, h1, h2, _⟩ := filt_odd h.sh hp
    constructor <;> omega
  have hP : ∀ j, isF (putF T k (leafV u)) j = isF T j := (h.upd hk (leafV u) ⟨rfl, rfl⟩).2
  refine ⟨g, by rw [members_same h.sh g.sh hF]; omega, fun j hj he => ?_, fun j hj hne => ?_, fun _ => ⟨k, by rw [hF]; exact hk, ?_⟩⟩
  · rw [hv]; exact r.here j (by rw [hP, ← hF]; exact hj) he
  · rw [hv]; exact r.other j (by rw [hP, ← hF]; exact hj) hne
  · rw [hv]; exact (r.here k (by rw [hP]; exact hk) rfl).2

theorem rf_rem {T : Tree} (h : Good T) {k : Nat} (hk : isF T k = true) (hm : (members T).length ≠ 1) (u : PV) : RF T (remF T k) k (-1) u true := by
  obtain ⟨g, hF⟩ := rem_all h hk hm
  have hkl := (isF_lt hk).1
  have hv : ∀ j : Nat, isF (remF T k) j = true → j ≠ k → vx (remF T k) (2 * j) = vx T (2 * j) := fun j hj hne => by
    have hjT : isF T j = true := by
      have := hF j
      rw [hj] at this
      exact (Bool.and_eq_true_iff.1 this.symm).1
    have hb := g.sh.bounds
    have hjl := (isF_lt hj).1
    have hx : 2 * j < (remF T k).length := by omega
    unfold remF at hx ⊢
    rw [shr_vx hx, vx_put h.sh hkl _ (isF_lt hjT).1, if_neg hne]
  refine ⟨g, by have := members_less h.sh g.sh hk hF; omega, fun j hj he => ?_, fun j hj hne => ?_, fun hc => by cases hc⟩
  · have : j = k := by omega
    rw [this, hF] at hj
    simp at hj
  · rw [hv j hj (by omega)]
    refine ⟨?_, rfl, rfl, rfl⟩
    have := hF j
    rw [hj] at this
    exact (Bool.and_eq_true_iff.1 this.symm).1

end Go.Proofs.YtdnopkpoepdihaaDoor
