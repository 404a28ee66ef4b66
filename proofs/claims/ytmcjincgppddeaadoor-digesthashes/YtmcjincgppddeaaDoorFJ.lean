/-
  The document's hashes of all places.
-/
import Derived.Test.YtmcjincgppddeaaDoorFI
namespace Go.Proofs.YtmcjincgppddeaaDoor
open Go.RowKit
set_option linter.unusedSimpArgs false
set_option linter.unusedVariables false

theorem hashT_fuel {g : Int → Tm} {t : Tree} {n : Int} : ∀ (f f' : Nat) (x : Int), inB x n = true → lev x < f → lev x < f' → hashT g t f x = hashT g t f' x
  | 0, f', x, hx, h1, h2 => by have := lev_nn hx; omega
  | f + 1, 0, x, hx, h1, h2 => by have := lev_nn hx; omega
  | f + 1, f' + 1, x, hx, h1, h2 => by
    by_cases h0 : lev x = 0
    · simp only [hashT, if_pos h0]
    · obtain ⟨a1, a2, a3, a4⟩ := kidsI hx h0
      simp only [hashT, if_neg h0]
      rw [hashT_fuel f f' _ a1 (by omega) (by omega), hashT_fuel f f' _ a2 (by omega) (by omega)]

theorem one_any (hD : DigitsOk) {w : World} {r : Nat} {ns : List Nd} {dr : Int} (h : RefAt w r ns dr) (hw : Wf ns) {g : Int → Tm} {v : Value} {t : Tree} (hf : Fit t) (ht : TR w r v t) {x : Nat} (hx : x < t.length) (hk : Known ns g (vx t x)) {kb : Nat} (hkb : kb < w.heap.size) (hkf : ¬ OwnR w r kb)
    (hkid : lev (x : Int) ≠ 0 → ∀ z : Nat, z < t.length → lev (z : Int) < lev (x : Int) → ∃ y, w.cell? ⟨kb, z, none⟩ = some (.int .i64 y) ∧ Means ns y (hashT g t 6 z)) (hr : (ns.length : Int) + 100 < 262144) :
    Calls Tryd.prog 38 #[.pointer (some ⟨r, 0, none⟩), v, .int .i64 x, .slice (some ⟨kb, 0, none⟩) t.length t.length] w fun e w' => ∃ t' ns', e = .returned (.int .i64 t') ∧ RunR r w w' ns ns' dr 80 ∧ Means ns' t' (hashT g t 6 x) := by
  have hs := hf.sh
  have hb := hs.bounds
  have hin : inB (x : Int) (lv t) = true := by have h1 := hs.1; have h2 := hs.2; simp [inB, h1]; omega
  have hlb := inB_lt hin
  have hget := vx_some (t := t) hx
  have hlate := fit_late hf hget
  by_cases hl0 : lev (x : Int) = 0
  · have er : hashT g t 6 (x : Int) = leafT g ((x : Int) / 2) (vx t x) := by simp [hashT, hl0]
    rw [er]
    refine (one_leaf hD h hw ht (by omega) hget ((lev_parity (by omega) (by omega)).1 hl0) hk _ _ _ (by omega)).mono ?_
    rintro e w' ⟨t', ns', rfl, hR, hm⟩
    exact ⟨t', ns', rfl, hR.mono (by omega), hm⟩
  · obtain ⟨k1, k2, k3, k4⟩ := kids hin hl0
    obtain ⟨y, ey, hy⟩ := in_place hs k1
    obtain ⟨z, ez, hz⟩ := in_place hs k2
    have hln := lev_nn hin
    rw [ey] at k1 k3
    rw [ez] at k2 k4
    obtain ⟨a, ca, ma⟩ := hkid hl0 y hy (by omega)
    obtain ⟨b, cb, mb⟩ := hkid hl0 z hz (by omega)
    have er : hashT g t 6 (x : Int) = nodeT g (vx t x) (hashT g t 6 y) (hashT g t 6 z) := by
      rw [hashT, if_neg hl0, ey, ez, hashT_fuel 5 6 (y : Int) k1 (by omega) (by omega), hashT_fuel 5 6 (z : Int) k2 (by omega) (by omega)]
      simp
    rw [er]
    cases hu : (vx t x).full with
    | false => exact one_node_no h hw ht (by omega) hget hu hl0 ey ez hy hz hkb hkf ca cb ma mb hr
    | true => exact one_node_yes hD h hw ht (by omega) hget hu hlate.1 hlate.2 hk hl0 ey ez hy hz hkb hkf ca cb ma mb hr

theorem RunR.stored {r : Nat} {w0 w : World} {ns ns' : List Nd} {dr : Int} {c : Nat} (h : RunR r w0 w ns ns' dr c) {g cap n : Nat} {xs : List Value} (hv : OwnX w0.heap.size w r (.slice (some ⟨g, 0, none⟩) n cap) n xs) (j : Nat) (u : Value) :
    RunR r w0 (w.setCell ⟨g, j, none⟩ u) ns ns' dr c ∧ OwnX w0.heap.size (w.setCell ⟨g, j, none⟩ u) r (.slice (some ⟨g, 0, none⟩) n cap) n (xs.set j u) := by
  obtain ⟨h1, h2⟩ := hv.own.stored j u
  obtain ⟨h3, h4⟩ := h.grown h2 (fun g' e => by cases e; exact ⟨(hv.own.lt g rfl).1, hv.free g rfl⟩)
  exact ⟨h3, h1, fun g' e ho => hv.free g' e ((h4 g').1 ho)⟩

theorem OwnX.head {B : Nat} {w : World} {r g cap n : Nat} {xs : List Value} (h : OwnX B w r (.slice (some ⟨g, 0, none⟩) n cap) n xs) : B ≤ g ∧ g < w.heap.size ∧ n ≤ cap ∧ (∃ cur, w.heap[g]? = some (.cells cur 3)) := by
  rcases h.own.2 with ⟨h', _⟩ | ⟨g', cap', cur, h', hb, hgg, hnc, _⟩
  · simp at h'
  · cases h'
    exact ⟨hb, (Array.getElem?_eq_some_iff.1 hgg).1, hnc, cur, hgg⟩

/-- The places whose hashes are known. -/
def Upto (g : Int → Tm) (t : Tree) (ns : List Nd) (xs : List Int) (k x : Nat) : Prop :=
  ∀ z : Nat, z < t.length → (lev (z : Int) < k ∨ lev (z : Int) = k ∧ z < x) → ∃ y, xs[z]? = some y ∧ Means ns y (hashT g t 6 z)

theorem Upto.skip {g : Int → Tm} {t : Tree} {ns : List Nd} {xs : List Int} {k x : Nat} (h : Upto g t ns xs k x) (hne : lev (x : Int) ≠ k) : Upto g t ns xs k (x + 1) := fun z hz hc => h z hz (by
  rcases hc with hc | ⟨h1, h2⟩
  · exact .inl hc
  · refine .inr ⟨h1, ?_⟩
    rcases Nat.lt_or_ge z x with h3 | h3
    · exact h3
    · have : z = x := by omega
      subst this
      exact absurd h1 hne)

theorem Upto.put {g : Int → Tm} {t : Tree} {ns ns' : List Nd} {xs : List Int} {k x : Nat} (h : Upto g t ns xs k x) (hp : ns <+: ns') (hx : x < xs.length) {y : Int} (hy : Means ns' y (hashT g t 6 x)) : Upto g t ns' (xs.set x y) k (x + 1) := fun z hz hc => by
  by_cases e : z = x
  · subst e
    exact ⟨y, by simp [hx], hy⟩
  · obtain ⟨y', h1, h2⟩ := h z hz (by rcases hc with hc | ⟨h1, h2⟩; exact .inl hc; exact .inr ⟨h1, by omega⟩)
    exact ⟨y', by rw [List.getElem?_set_ne (fun h => e h.symm)]; exact h1, h2.keeps hp⟩

theorem Upto.next {g : Int → Tm} {t : Tree} {ns : List Nd} {xs : List Int} {k : Nat} (h : Upto g t ns xs k t.length) : Upto g t ns xs (k + 1) 0 := fun z hz hc => h z hz (by
  rcases hc with hc | ⟨_, h2⟩
  · by_cases h3 : lev (z : Int) < k
    · exact .inl h3
    · exact .inr ⟨by omega, hz⟩
  · omega)

end Go.Proofs.YtmcjincgppddeaaDoor
