/-
  What an update and a merge leave at each place (pure).
-/
import Derived.Test.YtdnopkpoepdihaaDoorUB
namespace Go.Proofs.YtdnopkpoepdihaaDoor
open Go.RowKit
set_option linter.unusedSimpArgs false
set_option linter.unusedVariables false

theorem put_at {T : Tree} (i : Int) (v : PV) {x : Nat} (hx : x < T.length) : vx (putF T i v) x = putV i (lv T) v x (vx T x) := by
  have e : (putF T i v)[x]? = some (putV i (lv T) v x (vx T x)) := by rw [putF_get, vx_some hx]; rfl
  exact vx_get e

theorem laid_at : ∀ (T : Tree) (ps ks hs : List Int) (x : Nat), ps.length = ks.length → ps.length = hs.length → x < T.length → (∀ p ∈ ps, 0 ≤ p) → (x : Int) ∈ ps → (vx (laid T ps ks hs) x).full = true
  | T, [], ks, hs, x, _, _, _, _, hm => by simp at hm
  | T, p :: ps, [], hs, x, h1, _, _, _, _ => by simp at h1
  | T, p :: ps, k :: ks, [], x, _, h2, _, _, _ => by simp at h2
  | T, p :: ps, k :: ks, q :: hs, x, h1, h2, hx, hp, hm => by
    unfold laid
    have hp2 : ∀ p ∈ ps, 0 ≤ p := fun q hq => hp q (List.mem_cons_of_mem _ hq)
    by_cases hin : (x : Int) ∈ ps
    · exact laid_at _ ps ks hs x (by simpa using h1) (by simpa using h2) (by simpa using hx) hp2 hin
    · have hpx : p = (x : Int) := by
        rcases List.mem_cons.1 hm with h | h
        · exact h.symm
        · exact absurd h hin
      rw [laid_vx _ ps ks hs x (fun r hr => ⟨fun e => hin (e ▸ hr), hp2 r hr⟩)]
      subst hpx
      unfold vx
      rw [List.getD_eq_getElem?_getD]
      simp [hx]

/-- The filtered path's places. -/
def fpath (T : Tree) (i : Int) : List Int := (filt T i).map (·.1)

theorem path_nodup {x n : Int} (h : inB x n = true) : (pathI x n).Nodup := by
  have := forall_in (fun x n => decide (pathI x n).Nodup) (by decide +kernel) x n h
  simpa using this

theorem zip_fst_sub : ∀ (a b : List Int), ((a.zip b).map (·.1)).Sublist a
  | [], b => by simp
  | x :: a, [] => by simp
  | x :: a, y :: b => by simpa using zip_fst_sub a b

theorem fpath_sub {T : Tree} {i : Int} (h : decide (0 ≤ i) && decide (i < lv T)) : (fpath T i).Sublist (pathI (2 * i) (lv T)) := by
  unfold fpath filt
  rw [if_pos h]
  have h1 : (((pairs i (lv T)).filter fun p => !(resI T p.2).isEmpty).map (·.1)).Sublist ((pairs i (lv T)).map (·.1)) := (List.filter_sublist).map _
  have h2 : ((pairs i (lv T)).map (·.1)).Sublist (pathI (2 * i) (lv T)) := by
    exact zip_fst_sub _ _
  exact h1.trans h2

theorem fpath_nodup {T : Tree} (hs : Sh T) (i : Int) : (fpath T i).Nodup := by
  cases hc : (decide (0 ≤ i) && decide (i < lv T)) with
  | false => simp [fpath, filt, hc]
  | true =>
    have hin : inB (2 * i) (lv T) = true := by simp at hc; simp [inB, hs.1]; omega
    exact (fpath_sub hc).nodup (path_nodup hin)

/-- What TreeUpdates finds at each place. -/
structure UpdFacts (T U W : Tree) (i key : Int) (up p : List Int) : Prop where
  lenU : U.length = T.length
  lenW : W.length = T.length
  own : ∀ x : Nat, x < T.length → (x : Int) = 2 * i → (vx U x).key = key ∧ (vx W x).key = key ∧ (vx U x).full = true ∧ (vx W x).full = true
  above : ∀ x : Nat, x < T.length → (x : Int) ≠ 2 * i → (x : Int) ∈ up → (vx U x).full = false
  full : ∀ x : Nat, x < T.length → (x : Int) ≠ 2 * i → (x : Int) ∈ up → ((vx W x).full = true ↔ (x : Int) ∈ p)
  same : ∀ x : Nat, x < T.length → (x : Int) ≠ 2 * i → (x : Int) ∉ up → vx U x = vx T x ∧ vx W x = vx T x
  sub : ∀ y ∈ p, y ∈ up ∧ y ≠ 2 * i ∧ ∃ m : Nat, y = m ∧ m < T.length
  nodup : p.Nodup

theorem upd_facts {T : Tree} (h : Good T) {i : Int} (hi : fullB T i = true) (key : Int) (ks hs : List Int) (hk : ks.length = (filt T i).length) (hh : hs.length = (filt T i).length) :
    UpdFacts T (putF T i (leafV ⟨false, key, 0, 0, 0, []⟩)) (mergeF T i ⟨false, key, 0, 0, 0, []⟩ ks hs) i key (upL (2 * i) (lv T)) (fpath T i) := by
  obtain ⟨r1, r2⟩ := fullB_range hi
  have hleaf : leafB i (lv T) = true := by simp [leafB, h.sh.1]; omega
  have hfp : ∀ y ∈ fpath T i, y ∈ upL (2 * i) (lv T) ∧ y ≠ 2 * i ∧ ∃ m : Nat, y = m ∧ m < T.length := fun y hy => by
    obtain ⟨m, e, hm, _, hu, hne⟩ := filt_odd h.sh hy
    exact ⟨(upL_mem hleaf).2 ⟨hu, hne⟩, hne, m, e, hm⟩
  have hnn : ∀ y ∈ fpath T i, 0 ≤ y := fun y hy => by obtain ⟨_, _, m, e, _⟩ := hfp y hy; omega
  have hl : (mergeF T i ⟨false, key, 0, 0, 0, []⟩ ks hs).length = T.length := by unfold mergeF; rw [laid_len, putF_len]
  have hnot : ∀ x : Nat, (x : Int) ∉ fpath T i → vx (mergeF T i ⟨false, key, 0, 0, 0, []⟩ ks hs) x = vx (putF T i (leafV ⟨false, key, 0, 0, 0, []⟩)) x := fun x hx => by
    unfold mergeF
    exact laid_vx _ _ _ _ _ (fun q hq => ⟨fun e => hx (e ▸ hq), hnn q hq⟩)
  refine ⟨putF_len _ _ _, hl, fun x hx he => ?_, fun x hx hne hu => ?_, fun x hx hne hu => ?_, fun x hx hne hu => ?_, hfp, fpath_nodup h.sh i⟩
  · have hnp : (x : Int) ∉ fpath T i := fun hm => (hfp _ hm).2.1 he
    rw [hnot x hnp, put_at i _ hx]
    unfold putV
    rw [if_pos he]
    exact ⟨rfl, rfl, rfl, rfl⟩
  · rw [put_at i _ hx]
    unfold putV
    rw [if_neg hne, ((upL_mem hleaf).1 hu).1]
    rfl
  · constructor
    · intro hf
      apply Classical.byContradiction
      intro hnp
      rw [hnot x hnp, put_at i _ hx] at hf
      unfold putV at hf
      rw [if_neg hne, ((upL_mem hleaf).1 hu).1] at hf
      simp [PV.blank] at hf
    · intro hm
      unfold mergeF
      exact laid_at _ _ ks hs x (by simp [hk]) (by simp [hh]) (by rw [putF_len]; exact hx) hnn hm
  · have hun : underB (2 * i) x (lv T) = false := by
      cases hq : underB (2 * i) x (lv T) with
      | false => rfl
      | true => exact absurd ((upL_mem hleaf).2 ⟨hq, hne⟩) hu
    have e : vx (putF T i (leafV ⟨false, key, 0, 0, 0, []⟩)) x = vx T x := by
      rw [put_at i _ hx]
      unfold putV
      rw [if_neg hne, hun]
      rfl
    have hnp : (x : Int) ∉ fpath T i := fun hm => hu (hfp _ hm).1
    exact ⟨e, by rw [hnot x hnp, e]⟩

/-- The full ones above, up to a place. -/
def fulls (W : Tree) (i : Int) (up : List Int) (j : Nat) : List Int := ((List.range j).filter fun x : Nat => decide ((x : Int) ≠ 2 * i) && (decide ((x : Int) ∈ up) && (vx W x).full)).map fun x : Nat => (x : Int)

theorem fulls_succ (W : Tree) (i : Int) (up : List Int) (j : Nat) : fulls W i up (j + 1) = fulls W i up j ++ (if decide ((j : Int) ≠ 2 * i) && (decide ((j : Int) ∈ up) && (vx W j).full) then [(j : Int)] else []) := by
  unfold fulls
  rw [List.range_succ, List.filter_append, List.map_append]
  congr 1
  by_cases h : (decide ((j : Int) ≠ 2 * i) && (decide ((j : Int) ∈ up) && (vx W j).full)) = true
  · rw [if_pos h]; simp only [List.filter_cons, List.filter_nil]; rw [if_pos h]; rfl
  · rw [if_neg h]; simp only [List.filter_cons, List.filter_nil]; rw [if_neg h]; rfl

theorem fulls_len (W : Tree) (i : Int) (up : List Int) (j : Nat) : (fulls W i up j).length ≤ j := by
  unfold fulls
  rw [List.length_map]
  exact Nat.le_trans (List.length_filter_le _ _) (by simp)

theorem fulls_nodup (W : Tree) (i : Int) (up : List Int) (j : Nat) : (fulls W i up j).Nodup := by
  unfold fulls
  unfold List.Nodup
  rw [List.pairwise_map]
  exact (List.Pairwise.filter _ List.nodup_range).imp (fun {a b} h e => h (by omega))

theorem fulls_mem {T U W : Tree} {i key : Int} {up p : List Int} (h : UpdFacts T U W i key up p) (y : Int) : y ∈ fulls W i up T.length ↔ y ∈ p := by
  unfold fulls
  simp only [List.mem_map, List.mem_filter, List.mem_range, Bool.and_eq_true, decide_eq_true_eq]
  constructor
  · rintro ⟨x, ⟨hx, hne, hu, hf⟩, rfl⟩
    exact (h.full x hx hne hu).1 hf
  · intro hy
    obtain ⟨hu, hne, m, rfl, hm⟩ := h.sub y hy
    exact ⟨m, ⟨hm, hne, hu, (h.full m hm hne hu).2 hy⟩, rfl⟩

theorem fulls_perm {T U W : Tree} {i key : Int} {up p : List Int} (h : UpdFacts T U W i key up p) : (fulls W i up T.length).length = p.length ∧ ∀ y ∈ p, (fulls W i up T.length).count y = 1 := by
  have hn := fulls_nodup W i up T.length
  have hp : (fulls W i up T.length).Perm p := (List.perm_ext_iff_of_nodup hn h.nodup).2 (fulls_mem h)
  exact ⟨hp.length_eq, fun y hy => by
    have := List.nodup_iff_count.1 hn y
    have h2 := List.count_pos_iff.2 ((fulls_mem h y).2 hy)
    omega⟩

end Go.Proofs.YtdnopkpoepdihaaDoor
