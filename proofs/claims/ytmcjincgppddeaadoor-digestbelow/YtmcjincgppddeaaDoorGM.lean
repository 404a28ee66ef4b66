/-
  Parent hashes: another key at the leaf, another key of the path.
-/
import Derived.Test.YtmcjincgppddeaaDoorPD
import Derived.Test.YtmcjincgppddeaaDoorGC
namespace Go.Proofs.YtmcjincgppddeaaDoor
open Go.RowKit
set_option linter.unusedSimpArgs false
set_option linter.unusedVariables false

theorem rekey_resF {t : Tree} {x : Nat} (hx : x < t.length) (key : Int) : ∀ (f : Nat) (y : Int), resF f (rekey t x key) y = resF f t y := by
  intro f
  induction f with
  | zero => intro y; rfl
  | succ f ih =>
    intro y
    have e : (vx (rekey t x key) y.toNat).full = (vx t y.toNat).full ∧ (vx (rekey t x key) y.toNat).late = (vx t y.toNat).late := by
      rw [rekey_vx hx]
      split
      · rename_i h; rw [h]; exact ⟨rfl, rfl⟩
      · exact ⟨rfl, rfl⟩
    simp only [resF, e.1, e.2, ih]

theorem rekey_filt {t : Tree} {x : Nat} (hx : x < t.length) (key : Int) (i : Int) : filt (rekey t x key) i = filt t i := by
  have h1 : ∀ y, resI (rekey t x key) y = resI t y := fun y => by
    unfold resI
    rw [rekey_len, rekey_resF hx]
  unfold filt
  simp only [rekey_lv, h1]

theorem copath_apart {x n : Int} (h : inB x n = true) : ∀ y ∈ copathI x n, underB x y n = false := by
  have h1 := forall_in (fun x n => (copathI x n).all (fun y => !(underB x y n))) (by decide +kernel) x n h
  intro y hy
  have := List.all_eq_true.1 h1 y hy
  simpa using this

/-- The hashes on the copath don't hang on the leaf's key. -/
theorem rekey_copath {t : Tree} (h : Good t) {k : Nat} (hk : fullB t k = true) (key : Int) : ∀ y ∈ (filt t k).map (·.2), hashT Tm.atom (rekey t (2 * k) key) 6 y = hashT Tm.atom t 6 y := by
  have hb := h.sh.bounds
  have hkr := fullB_range hk
  have hx : 2 * k < t.length := by omega
  have hz : inB (2 * (k : Int)) (lv t) = true := by
    have := place_in h.sh hx
    rwa [show ((2 * k : Nat) : Int) = 2 * (k : Int) by omega] at this
  have hi : (decide ((0 : Int) ≤ (k : Int)) && decide ((k : Int) < (lv t : Int))) = true := by simp; omega
  intro y hy
  have hyin := (filt_place h.sh hi).1 y hy
  have hap : underB (2 * (k : Int)) y (lv t) = false := by
    obtain ⟨p, hp, rfl⟩ := List.mem_map.1 hy
    have hp2 : p ∈ pairs k (lv t) := by
      simp only [filt, hi, if_true] at hp
      exact (List.mem_filter.1 hp).1
    unfold pairs at hp2
    exact copath_apart hz _ (List.of_mem_zip hp2).2
  have hl := lev_nn hyin
  refine hashT_same 6 y (fun z hzz => ?_)
  have hzin := places_in 6 y hyin (by omega) z hzz
  rw [rekey_vx hx]
  split
  · rename_i e
    exfalso
    have hz0 := (inB_bounds hzin).1
    have e3 : z = 2 * (k : Int) := by omega
    subst e3
    rw [(places_under hzin hyin).1 hzz] at hap
    cases hap
  · rfl

theorem chainL_same {t u : Tree} {ks cs : List Int} (hl : ks.length = cs.length) (h : ∀ y ∈ cs, hashT Tm.atom u 6 y = hashT Tm.atom t 6 y) : chainL Tm.atom u ks cs = chainL Tm.atom t ks cs := by
  unfold chainL
  refine List.map_congr_left (fun k hk => ?_)
  have hk2 : k < cs.length := by rw [← hl]; exact List.mem_range.1 hk
  unfold pairL
  rw [h _ (by simp [List.getD, hk2])]

/-- One key is another one: what is drawn from above it stays, what is from it on doesn't. -/
theorem chainL_set {t : Tree} {ks cs : List Int} {k : Nat} (hk : k < ks.length) {y : Int} (hy : ks.getD k 0 ≠ y) (j : Nat) : (chainL Tm.atom t (ks.set k y) cs).drop j = (chainL Tm.atom t ks cs).drop j ↔ k < j := by
  have hget : ∀ (l : List Int) (m : Nat), m < l.length → (chainL Tm.atom t l cs)[m]? = some (pairL Tm.atom t l cs m) := fun l m hm => by simp [chainL, hm]
  constructor
  · intro e
    rcases Nat.lt_or_ge k j with h | h
    · exact h
    · exfalso
      have e2 := congrArg (fun l => l[k - j]?) e
      simp only [List.getElem?_drop] at e2
      rw [show j + (k - j) = k by omega, hget _ k (by simpa using hk), hget _ k hk] at e2
      simp only [pairL, Option.some.injEq, Prod.mk.injEq, Tm.atom.injEq] at e2
      have := e2.1
      simp [List.getD, hk] at this
      simp [List.getD, hk] at hy
      exact hy this.symm
  · intro h
    refine List.ext_getElem? (fun m => ?_)
    simp only [List.getElem?_drop]
    rcases Nat.lt_or_ge (j + m) ks.length with h2 | h2
    · rw [hget _ (j + m) (by simpa using h2), hget _ (j + m) h2]
      unfold pairL
      congr 2
      simp only [List.getD]
      rw [List.getElem?_set_ne (by omega)]
    · rw [List.getElem?_eq_none (by rw [chainL_len]; simpa using h2), List.getElem?_eq_none (by rw [chainL_len]; exact h2)]

theorem chain_one {A B : List (Tm × Tm)} : (chainT A).2 = (chainT B).2 ↔ A = B := ⟨chainT_inj, fun e => by rw [e]⟩

theorem par_m {t : Tree} (hG : Good t) (hR : Rng t 90) (hct : ∀ (x : Nat) (a : PV), t[x]? = some a → -9223372036854775808 ≤ a.client ∧ a.client ≤ 9223372036854775807) {W : World} {s : Nat} {ns : List Nd} {dr : Int} {v vk : Value} (hS : Seat W s ns dr) (hp : atoms 90 <+: ns) (ht : TS W s v t) {i : Int} (hi : (decide (0 ≤ i) && decide (i < (lv t : Int))) = true) {ks : List Int} (hk : IS W s vk ks) (hl : ks.length = (filt t i).length) (hks : ∀ k ∈ ks, 1 ≤ k ∧ k ≤ 90) (hr : (ns.length : Int) + 20000 < 262144) :
    Calls Tryd.prog 25 #[.pointer (some ⟨s, 0, none⟩), v, .int .i64 i, vk] W fun e w' => ∃ hsl hc l ns' hs, e = .returned (.tuple #[.slice hsl ks.length hc, .int .i64 l]) ∧ Run s W w' ns ns' dr 20000 ∧ Own2 W.heap.size w' s (.slice hsl ks.length hc) hs.length (hs.map (Value.int .i64)) ∧ hs.length = ks.length ∧ Mean2 ns' hs (chainT (chainL Tm.atom t ks ((filt t i).map (·.2)))).1 ∧ Means ns' l (chainT (chainL Tm.atom t ks ((filt t i).map (·.2)))).2 := by
  have hfp := filt_place hG.sh hi
  refine ((callsIn_wide (n := 5)).1 (parents_yes hG.fit (g := Tm.atom) hS ht hi hk hl (by omega) (fun k hk => by
    have := hks k hk
    exact (atoms_means (by omega) (by omega)).keeps hp) (known_all hG hR hct hp) hr)).mono ?_
  rintro e w' ⟨vh, l, ns', hs, rfl, r8, o8, m8, ml⟩
  have hlen : hs.length = ks.length := by rw [m8.len, chainT_len, chainL_len]
  obtain ⟨hsl, hc, rfl⟩ : ∃ hsl hc, vh = .slice hsl ks.length hc := by
    rcases o8.own.2 with ⟨rfl, e⟩ | ⟨g, cap, cur, rfl, _⟩
    · rw [hlen] at e; exact ⟨none, 0, by rw [e]⟩
    · exact ⟨some ⟨g, 0, none⟩, cap, by rw [hlen]⟩
  exact ⟨hsl, hc, l, ns', hs, rfl, r8, o8, hlen, m8, ml⟩

end Go.Proofs.YtmcjincgppddeaaDoor
