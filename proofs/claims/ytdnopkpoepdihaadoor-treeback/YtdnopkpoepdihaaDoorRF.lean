/-
  Resolutions, by the document: with a list of places still to go through.
-/
import Derived.Test.YtdnopkpoepdihaaDoorRE
import Derived.Deep.LoopGhost
namespace Go.Proofs.YtdnopkpoepdihaaDoor
open Go.RowKit
set_option linter.unusedSimpArgs false
set_option linter.unusedVariables false

theorem resF_fuel {t : Tree} : ∀ (f f' : Nat) (y : Int), inB y (lv t) = true → lev y < f → lev y < f' → resF f t y = resF f' t y
  | 0, f', y, hy, h1, h2 => by have := lev_small (inB_lt hy).1 (inB_lt hy).2; omega
  | f + 1, 0, y, hy, h1, h2 => by have := lev_small (inB_lt hy).1 (inB_lt hy).2; omega
  | f + 1, f' + 1, y, hy, h1, h2 => by
    unfold resF
    split
    · rfl
    · split
      · rfl
      · rename_i hl
        obtain ⟨k1, k2, k3, k4⟩ := kids hy hl
        have e : halfN y = halfI y := rfl
        rw [e, resF_fuel f f' _ k1 (by omega) (by omega), resF_fuel f f' _ k2 (by omega) (by omega)]

def R (t : Tree) (y : Int) : List Int := resF 6 t y
theorem R_full {t : Tree} {k : Nat} (hf : (vx t k).full = true) : R t k = (k : Int) :: (vx t k).late.map (fun i => 2 * i) := by simp [R, resF, hf]
theorem R_leaf {t : Tree} {k : Nat} (hf : (vx t k).full = false) (hl : lev (k : Int) = 0) : R t k = [] := by simp [R, resF, hf, hl]
theorem R_par {t : Tree} {k : Nat} (hy : inB (k : Int) (lv t) = true) (hf : (vx t k).full = false) (hl : lev (k : Int) ≠ 0) : R t k = R t ((k : Int) - halfI k) ++ R t ((k : Int) + halfI k) := by
  obtain ⟨k1, k2, k3, k4⟩ := kids hy hl
  have hs := lev_small (inB_lt hy).1 (inB_lt hy).2
  have e : halfN (k : Int) = halfI k := rfl
  have : R t k = resF 5 t ((k : Int) - halfI k) ++ resF 5 t ((k : Int) + halfI k) := by
    simp [R, resF, hf, hl, e]
  rw [this, resF_fuel 5 6 _ k1 (by omega) (by omega), resF_fuel 5 6 _ k2 (by omega) (by omega)]
  rfl

def nod (y : Int) : Nat := 2 * 2 ^ (lev y).toNat - 1
theorem nod_pos (y : Int) : 1 ≤ nod y := by
  have : 0 < 2 ^ (lev y).toNat := Nat.pow_pos (by decide)
  unfold nod; omega
theorem nod_kids {y n : Int} (h : inB y n = true) (hl : lev y ≠ 0) : nod (y - halfI y) + nod (y + halfI y) + 1 = nod y := by
  have := forall_in (fun y n => lev y == 0 || nod (y - halfI y) + nod (y + halfI y) + 1 == nod y) (by decide +kernel) y n h
  simpa [hl] using this
def nods (S : List Int) : Nat := (S.map nod).sum
theorem half_width {y : Int} (h0 : 0 ≤ y) (h1 : y < 63) : (widthI y + 1) / 2 = (if lev y = 0 then 0 else halfI y) ∧ 0 ≤ widthI y ∧ widthI y ≤ 64 := by
  have := forall_lt 63 (fun y => decide ((widthI y + 1) / 2 = (if lev y = 0 then 0 else halfI y) ∧ 0 ≤ widthI y ∧ widthI y ≤ 64)) (by decide +kernel) y h0 h1
  simpa using this
theorem half_pos {y : Int} (h0 : 0 ≤ y) (h1 : y < 63) (hl : lev y ≠ 0) : 1 ≤ halfI y ∧ halfI y ≤ 16 := by
  have := forall_lt 63 (fun x => lev x == 0 || decide (1 ≤ halfI x ∧ halfI x ≤ 16)) (by decide +kernel) y h0 h1
  simpa [hl] using this

/-- The stack: all places, the deeper ones below the others. -/
structure Stk (t : Tree) (x : Int) (O S : List Int) (g : Nat) : Prop where
  res : R t x = O ++ (S.reverse.map (R t)).flatten
  place : ∀ y ∈ S, inB y (lv t) = true
  left : g = nods S
  small : S.length ≤ g

theorem stk_len {t : Tree} {x : Int} {O S : List Int} {g : Nat} (hf : Fit t) (h : Stk t x O S g) : O.length ≤ 2112 := by
  have h1 := resF_len hf 6 x
  have h2 : (R t x).length = O.length + ((S.reverse.map (R t)).flatten).length := by rw [h.res, List.length_append]
  unfold R at h2
  omega

theorem nods_snoc (S : List Int) (y : Int) : nods (S ++ [y]) = nods S + nod y := by simp [nods]
theorem nods_ge : ∀ S : List Int, S.length ≤ nods S
  | [] => by simp [nods]
  | y :: r => by
    have := nods_ge r
    have := nod_pos y
    simp [nods] at *
    omega

theorem Stk.pop_full {t : Tree} {x : Int} {O S : List Int} {g k : Nat} (h : Stk t x O (S ++ [(k : Int)]) g) (hf : (vx t k).full = true) : Stk t x (O ++ ((k : Int) :: (vx t k).late.map (fun i => 2 * i))) S (nods S) ∧ nods S < g := by
  have hp := nod_pos (k : Int)
  refine ⟨⟨?_, fun y hy => h.place y (by simp [hy]), rfl, nods_ge S⟩, by rw [h.left, nods_snoc]; omega⟩
  rw [h.res]
  simp [R_full hf]
theorem Stk.pop_leaf {t : Tree} {x : Int} {O S : List Int} {g k : Nat} (h : Stk t x O (S ++ [(k : Int)]) g) (hf : (vx t k).full = false) (hl : lev (k : Int) = 0) : Stk t x O S (nods S) ∧ nods S < g := by
  have hp := nod_pos (k : Int)
  refine ⟨⟨?_, fun y hy => h.place y (by simp [hy]), rfl, nods_ge S⟩, by rw [h.left, nods_snoc]; omega⟩
  rw [h.res]
  simp [R_leaf hf hl]
theorem Stk.pop_par {t : Tree} {x : Int} {O S : List Int} {g k : Nat} (h : Stk t x O (S ++ [(k : Int)]) g) (hf : (vx t k).full = false) (hl : lev (k : Int) ≠ 0) : Stk t x O (S ++ [(k : Int) + halfI k] ++ [(k : Int) - halfI k]) (nods (S ++ [(k : Int) + halfI k] ++ [(k : Int) - halfI k])) ∧ nods (S ++ [(k : Int) + halfI k] ++ [(k : Int) - halfI k]) < g := by
  have hin := h.place k (by simp)
  obtain ⟨k1, k2, _, _⟩ := kids hin hl
  have hk := nod_kids hin hl
  refine ⟨⟨?_, fun y hy => ?_, rfl, nods_ge _⟩, by rw [h.left, nods_snoc, nods_snoc, nods_snoc]; omega⟩
  · rw [h.res]
    simp [R_par hin hf hl]
  · simp only [List.mem_append, List.mem_singleton] at hy
    rcases hy with (hy | rfl) | rfl
    · exact h.place y (by simp [hy])
    · exact k2
    · exact k1

end Go.Proofs.YtdnopkpoepdihaaDoor
