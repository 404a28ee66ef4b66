/-
  Trees as lists of vertices: the calls of layer 4 as functions.
-/
import Derived.Test.YtdnopkpoepdihaaDoorHJ
namespace Go.Proofs.YtdnopkpoepdihaaDoor
set_option linter.unusedVariables false
set_option linter.unusedSimpArgs false

structure PV where
  full : Bool
  key : Int
  client : Int
  sig : Int
  hash : Int
  late : List Int

def PV.blank : PV := ⟨false, 0, 0, 0, 0, []⟩
def leafV (v : PV) : PV := ⟨true, v.key, v.client, v.sig, v.hash, []⟩
abbrev Tree := List PV
def lv (t : Tree) : Nat := (t.length + 1) / 2
def vx (t : Tree) (x : Nat) : PV := t.getD x PV.blank

/-- A list of a tree's length. -/
def Sh (t : Tree) : Prop := rightB (lv t) = true ∧ (t.length : Int) = 2 * lv t - 1
def shB (t : Tree) : Bool := rightB (lv t) && ((t.length : Int) == 2 * lv t - 1)
theorem shB_iff {t : Tree} : shB t = true ↔ Sh t := by simp [shB, Sh]

theorem Sh.bounds {t : Tree} (h : Sh t) : 1 ≤ lv t ∧ lv t ≤ 32 ∧ t.length + 1 = 2 * lv t ∧ t.length ≤ 63 ∧ 1 ≤ t.length := by
  have := rightB_bounds h.1; have := h.2; omega

theorem vx_get {t : Tree} {x : Nat} {u : PV} (h : t[x]? = some u) : vx t x = u := by simp [vx, h]
theorem vx_some {t : Tree} {x : Nat} (h : x < t.length) : t[x]? = some (vx t x) := by
  simp [vx, h]

def fullB (t : Tree) (i : Int) : Bool := decide (0 ≤ i) && decide (i < lv t) && (vx t (2 * i.toNat)).full

def membersN (t : Tree) (k : Nat) : List Int := ((List.range k).filter fun i => (vx t (2 * i)).full).map fun i : Nat => (i : Int)
def members (t : Tree) : List Int := membersN t (lv t)
theorem membersN_succ (t : Tree) (k : Nat) : membersN t (k + 1) = if (vx t (2 * k)).full then membersN t k ++ [(k : Int)] else membersN t k := by
  unfold membersN
  rw [List.range_succ, List.filter_append, List.map_append]
  by_cases h : (vx t (2 * k)).full = true
  · simp [h]
  · simp [h]
theorem membersN_len (t : Tree) (k : Nat) : (membersN t k).length ≤ k := by
  unfold membersN
  rw [List.length_map]
  exact Nat.le_trans (List.length_filter_le _ _) (by simp)
theorem mem_membersN {t : Tree} {k : Nat} {i : Int} : i ∈ membersN t k ↔ 0 ≤ i ∧ i < k ∧ (vx t (2 * i.toNat)).full = true := by
  unfold membersN
  simp only [List.mem_map, List.mem_filter, List.mem_range]
  constructor
  · rintro ⟨a, ⟨h1, h2⟩, rfl⟩
    refine ⟨by omega, by omega, by simpa using h2⟩
  · rintro ⟨h1, h2, h3⟩
    exact ⟨i.toNat, ⟨by omega, h3⟩, by omega⟩
theorem mem_members {t : Tree} {i : Int} : i ∈ members t ↔ fullB t i = true := by
  rw [members, mem_membersN]; simp [fullB, and_assoc]

/-- The least number whose leaf is blank; the number of leaves, if none is. -/
def leastN (t : Tree) : Nat → Nat → Nat
  | 0, k => k
  | f + 1, k => if (vx t (2 * k)).full then leastN t f (k + 1) else k
def least (t : Tree) : Nat := leastN t (lv t) 0
theorem leastN_spec (t : Tree) : ∀ f k, k ≤ leastN t f k ∧ leastN t f k ≤ k + f ∧ (∀ j, k ≤ j → j < leastN t f k → (vx t (2 * j)).full = true) ∧ (leastN t f k < k + f → (vx t (2 * leastN t f k)).full = false)
  | 0, k => ⟨Nat.le_refl _, Nat.le_refl _, fun j h1 h2 => by simp [leastN] at h2; omega, fun h => by simp [leastN] at h⟩
  | f + 1, k => by
    unfold leastN
    by_cases h : (vx t (2 * k)).full = true
    · rw [if_pos h]
      obtain ⟨a, b, c, d⟩ := leastN_spec t f (k + 1)
      refine ⟨by omega, by omega, fun j h1 h2 => ?_, fun h3 => d (by omega)⟩
      by_cases hj : j = k
      · subst hj; exact h
      · exact c j (by omega) h2
    · rw [if_neg h]
      exact ⟨Nat.le_refl _, by omega, fun j h1 h2 => by omega, fun _ => by simpa using h⟩
theorem least_spec (t : Tree) : least t ≤ lv t ∧ (∀ j, j < least t → (vx t (2 * j)).full = true) ∧ (least t < lv t → (vx t (2 * least t)).full = false) := by
  obtain ⟨a, b, c, d⟩ := leastN_spec t (lv t) 0
  exact ⟨by unfold least; omega, fun j hj => c j (by omega) hj, fun h => d (by unfold least at h; omega)⟩

/-- The resolution of a place. -/
def halfN (x : Int) : Int := 2 ^ (lev x - 1).toNat
def resF : Nat → Tree → Int → List Int
  | 0, _, _ => []
  | f + 1, t, x => if (vx t x.toNat).full then x :: (vx t x.toNat).late.map (fun i => 2 * i) else if lev x = 0 then [] else resF f t (x - halfN x) ++ resF f t (x + halfN x)
def resI (t : Tree) (x : Int) : List Int := if decide (0 ≤ x) && decide (x < t.length) then resF 6 t x else []

/-- The filtered path of a leaf, with the copath. -/
def pairs (i n : Int) : List (Int × Int) := (pathI (2 * i) n).zip (copathI (2 * i) n)
def filt (t : Tree) (i : Int) : List (Int × Int) := if decide (0 ≤ i) && decide (i < lv t) then (pairs i (lv t)).filter fun p => !(resI t p.2).isEmpty else []

/-- A number put into a rising list. -/
def ins (i : Int) : List Int → List Int
  | [] => [i]
  | k :: r => if k > i then i :: k :: r else k :: ins i r

def dbl (t : Tree) : Tree := t ++ List.replicate (2 * lv t) PV.blank
def room (t : Tree) : Tree := if least t = lv t then dbl t else t
def addV (i : Int) (n : Int) (leaf : PV) (x : Nat) (u : PV) : PV :=
  if (x : Int) = 2 * i then leafV leaf else if u.full && underB (2 * i) x n then { u with late := ins i u.late } else u
def addF (t : Tree) (leaf : PV) : Tree := (room t).mapIdx (addV (least t) (lv (room t)) leaf)

def putV (i n : Int) (v : PV) (x : Nat) (u : PV) : PV := if (x : Int) = 2 * i then v else if underB (2 * i) x n then PV.blank else u
def putF (t : Tree) (i : Int) (v : PV) : Tree := t.mapIdx (putV i (lv t) v)

def fromB (t : Tree) (k : Nat) : Bool := (members t).any fun i => decide ((k : Int) ≤ i)
def tightB (t : Tree) : Bool := fromB t (lv t / 2)
def shr : Nat → Tree → Tree
  | 0, t => t
  | f + 1, t => if decide (1 < lv t) && !tightB t then shr f (t.take (lv t - 1)) else t
def remF (t : Tree) (i : Int) : Tree := shr 6 (putF t i PV.blank)

def laid : Tree → List Int → List Int → List Int → Tree
  | t, p :: ps, k :: ks, h :: hs => laid (t.set p.toNat ⟨true, k, 0, 0, h, []⟩) ps ks hs
  | t, _, _, _ => t
def mergeF (t : Tree) (i : Int) (leaf : PV) (ks hs : List Int) : Tree := laid (putF t i (leafV leaf)) ((filt t i).map (·.1)) ks hs

/-- What the reading calls want of a tree. -/
structure Fit (t : Tree) : Prop where
  sh : Sh t
  small : ∀ (x : Nat) (u : PV), t[x]? = some u → u.late.length ≤ 32 ∧ u.late.Pairwise (· < ·) ∧ ∀ i ∈ u.late, 0 ≤ i ∧ i < lv t

end Go.Proofs.YtdnopkpoepdihaaDoor
