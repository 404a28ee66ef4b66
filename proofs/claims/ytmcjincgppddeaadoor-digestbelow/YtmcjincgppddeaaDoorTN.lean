/-
  Copies of trees: slices.Clone of vertices, package tree's copied · Copies of trees: package tree's copied · A number put into a rising list: package tree's withNumber · Blank vertices put behind a tree · A leaf added: package tree's Add · A leaf added: the walk of package tree's Add · No room for a leaf; a leaf replaced, with all above it blank: package tree's replaced · Whether a leaf from a number on is full; whether a tree is right: package tree's Check · Whether a tree is right: package tree's Check · Whether a tree is right: the walk of package tree's Check.
-/
import Derived.Test.YtmcjincgppddeaaDoorTD
import Derived.Deep.DeepCutAuto
namespace Go.Proofs.YtmcjincgppddeaaDoor
open Go.RowKit 
set_option linter.unusedSimpArgs false
set_option linter.unusedVariables false

theorem Tryd.infoV : (Tryd.prog.info? 47).map (fun i => (i.zero, i.size, i.bytes)) = some (some (.agg #[.bool false, .int .i64 0, .int .i64 0, .int .i64 0, .int .i64 0, .slice none 0 0]), 6, 64) := by kernel_rfl

theorem vcells_one (u : PV) {h : Value} (hh : h.oneCell' = true) : ∀ c ∈ vcells u h, c.oneCell' = true := by
  intro c hc
  simp [vcells] at hc
  rcases hc with rfl | rfl | rfl | rfl | rfl | rfl <;> first | rfl | exact hh

end Go.Proofs.YtmcjincgppddeaaDoor

namespace Go.Proofs.YtmcjincgppddeaaDoor
open Go.RowKit 
set_option linter.unusedSimpArgs false
set_option linter.unusedVariables false



end Go.Proofs.YtmcjincgppddeaaDoor

namespace Go.Proofs.YtmcjincgppddeaaDoor
open Go.RowKit 
set_option linter.unusedSimpArgs false
set_option linter.unusedVariables false



end Go.Proofs.YtmcjincgppddeaaDoor

namespace Go.Proofs.YtmcjincgppddeaaDoor
open Go.RowKit 
set_option linter.unusedSimpArgs false
set_option linter.unusedVariables false

theorem OwnT.mono {B B' : Nat} {w : World} {v : Value} {t : Tree} {hs : List Value} {j : Nat} (h : OwnT B w v t hs j) (hb : B' ≤ B) : OwnT B' w v t hs j :=
  ⟨h.len, h.row.mono hb, fun x u a hx hu ha => (h.late x u a hx hu ha).mono hb, h.apart⟩

end Go.Proofs.YtmcjincgppddeaaDoor

namespace Go.Proofs.YtmcjincgppddeaaDoor
open Go.RowKit 
set_option linter.unusedSimpArgs false
set_option linter.unusedVariables false

def leafCells (u : PV) (h : Value) : Array Value := #[.bool u.full, .int .i64 u.key, .int .i64 u.client, .int .i64 u.sig, .int .i64 u.hash, h]

end Go.Proofs.YtmcjincgppddeaaDoor

namespace Go.Proofs.YtmcjincgppddeaaDoor
open Go.RowKit 
set_option linter.unusedSimpArgs false
set_option linter.unusedVariables false

def lateB (t : Tree) (x : Int) : Int → List Int → Bool
  | _, [] => true
  | last, i :: r => decide (last < i) && fullB t i && underB (2 * i) x (lv t) && lateB t x i r

def vertB (t : Tree) (x : Int) (u : PV) : Bool :=
  if u.full then (if lev x == 0 then decide (u.late.length = 0) else u.client == 0 && (u.sig == 0 && lateB t x (-1) u.late))
  else u.key == 0 && (u.client == 0 && (u.sig == 0 && (u.hash == 0 && decide (u.late.length = 0))))

def vertsB (t : Tree) (k : Nat) : Bool := (List.range k).all fun x => vertB t x (vx t x)

def checkB (t : Tree) : Bool := shB t && (vertsB t t.length && fromB t (lv t / 2))

theorem vertsB_succ (t : Tree) (k : Nat) : vertsB t (k + 1) = (vertsB t k && vertB t k (vx t k)) := by
  simp [vertsB, List.range_succ]

theorem vertsB_false {t : Tree} {k m : Nat} (hk : k < m) (h : vertB t k (vx t k) = false) : vertsB t m = false := by
  cases hv : vertsB t m with
  | false => rfl
  | true =>
    unfold vertsB at hv
    rw [List.all_eq_true] at hv
    have := hv k (List.mem_range.2 hk)
    rw [h] at this
    cases this

theorem nilB (l : List Int) : ((l.length : Int) == 0) = decide (l = []) := by
  cases l with
  | nil => rfl
  | cons a r =>
    simp
    omega

theorem fullB_range {t : Tree} {i : Int} (h : fullB t i = true) : 0 ≤ i ∧ i < lv t := by
  simp [fullB] at h; exact ⟨h.1.1, h.1.2⟩

end Go.Proofs.YtmcjincgppddeaaDoor
