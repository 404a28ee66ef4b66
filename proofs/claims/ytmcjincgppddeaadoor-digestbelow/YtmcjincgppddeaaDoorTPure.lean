/-
  Trees as lists of vertices: the calls of layer 4 as functions.
-/
import Derived.Test.YtmcjincgppddeaaDoorHJ
namespace Go.Proofs.YtmcjincgppddeaaDoor
open Go.RowKit
set_option linter.unusedSimpArgs false
set_option linter.unusedVariables false

structure PV where
  full : Bool
  key : Int
  client : Int
  sig : Int
  hash : Int
  late : List Int

def PV.blank : PV := ⟨false, 0, 0, 0, 0, []⟩

abbrev Tree := List PV

def lv (t : Tree) : Nat := (t.length + 1) / 2

def vx (t : Tree) (x : Nat) : PV := t.getD x PV.blank

/-- A list of a tree's length. -/
def Sh (t : Tree) : Prop := rightB (lv t) = true ∧ (t.length : Int) = 2 * lv t - 1

def shB (t : Tree) : Bool := rightB (lv t) && ((t.length : Int) == 2 * lv t - 1)

theorem shB_iff {t : Tree} : shB t = true ↔ Sh t := by simp [shB, Sh]

theorem Sh.bounds {t : Tree} (h : Sh t) : 1 ≤ lv t ∧ lv t ≤ 32 ∧ t.length + 1 = 2 * lv t ∧ t.length ≤ 63 ∧ 1 ≤ t.length := by
  have := rightB_bounds h.1; have := h.2; omega

theorem vx_get {t : Tree} {x : Nat} {u : PV} (h : t[x]? = some u) : vx t x = u := by simp [vx, h]

theorem vx_some {t : Tree} {x : Nat} (h : x < t.length) : t[x]? = some (vx t x) := by
  simp [vx, h]

def fullB (t : Tree) (i : Int) : Bool := decide (0 ≤ i) && decide (i < lv t) && (vx t (2 * i.toNat)).full

def membersN (t : Tree) (k : Nat) : List Int := ((List.range k).filter fun i => (vx t (2 * i)).full).map fun i : Nat => (i : Int)

def members (t : Tree) : List Int := membersN t (lv t)

theorem mem_membersN {t : Tree} {k : Nat} {i : Int} : i ∈ membersN t k ↔ 0 ≤ i ∧ i < k ∧ (vx t (2 * i.toNat)).full = true := by
  unfold membersN
  simp only [List.mem_map, List.mem_filter, List.mem_range]
  constructor
  · rintro ⟨a, ⟨h1, h2⟩, rfl⟩
    refine ⟨by omega, by omega, by simpa using h2⟩
  · rintro ⟨h1, h2, h3⟩
    exact ⟨i.toNat, ⟨by omega, h3⟩, by omega⟩

theorem mem_members {t : Tree} {i : Int} : i ∈ members t ↔ fullB t i = true := by
  rw [members, mem_membersN]; simp [fullB, and_assoc]

/-- The resolution of a place. -/
def halfN (x : Int) : Int := 2 ^ (lev x - 1).toNat

def resF : Nat → Tree → Int → List Int
  | 0, _, _ => []
  | f + 1, t, x => if (vx t x.toNat).full then x :: (vx t x.toNat).late.map (fun i => 2 * i) else if lev x = 0 then [] else resF f t (x - halfN x) ++ resF f t (x + halfN x)

def resI (t : Tree) (x : Int) : List Int := if decide (0 ≤ x) && decide (x < t.length) then resF 6 t x else []

/-- The filtered path of a leaf, with the copath. -/
def pairs (i n : Int) : List (Int × Int) := (pathI (2 * i) n).zip (copathI (2 * i) n)

def filt (t : Tree) (i : Int) : List (Int × Int) := if decide (0 ≤ i) && decide (i < lv t) then (pairs i (lv t)).filter fun p => !(resI t p.2).isEmpty else []

def fromB (t : Tree) (k : Nat) : Bool := (members t).any fun i => decide ((k : Int) ≤ i)

def tightB (t : Tree) : Bool := fromB t (lv t / 2)

/-- What the reading calls want of a tree. -/
structure Fit (t : Tree) : Prop where
  sh : Sh t
  small : ∀ (x : Nat) (u : PV), t[x]? = some u → u.late.length ≤ 32 ∧ u.late.Pairwise (· < ·) ∧ ∀ i ∈ u.late, 0 ≤ i ∧ i < lv t

end Go.Proofs.YtmcjincgppddeaaDoor
