/-
  A tree that a call has made: rows of vertices, and what writing does to them.
-/
import Derived.Test.YtmcjincgppddeaaDoorTC
import Derived.Laws.IdiomCopy
namespace Go.Proofs.YtmcjincgppddeaaDoor
open Go.RowKit 
set_option linter.unusedSimpArgs false
set_option linter.unusedVariables false

def vcells (u : PV) (h : Value) : List Value := [.bool u.full, .int .i64 u.key, .int .i64 u.client, .int .i64 u.sig, .int .i64 u.hash, h]

def flatV : Tree → List Value → List Value
  | u :: t, h :: hs => vcells u h ++ flatV t hs
  | _, _ => []

theorem flatV_append : ∀ (t : Tree) (hs : List Value) (t' : Tree) (hs' : List Value), hs.length = t.length → flatV (t ++ t') (hs ++ hs') = flatV t hs ++ flatV t' hs'
  | [], [], t', hs', h => by simp [flatV]
  | [], a :: hs, t', hs', h => by simp at h
  | u :: t, [], t', hs', h => by simp at h
  | u :: t, a :: hs, t', hs', h => by
    have := flatV_append t hs t' hs' (by simpa using h)
    simp [flatV, this]

theorem flatV_get (u : PV) (h : Value) : ∀ (t : Tree) (hs : List Value) (x : Nat), t[x]? = some u → hs[x]? = some h → ∀ r, r < 6 → (flatV t hs)[x * 6 + r]? = (vcells u h)[r]?
  | [], hs, x, h1, h2, r, hr => by simp at h1
  | u' :: t, [], x, h1, h2, r, hr => by simp at h2
  | u' :: t, a :: hs, 0, h1, h2, r, hr => by
    simp at h1 h2; subst h1; subst h2
    simp only [flatV]
    rw [List.getElem?_append_left (by simp [vcells]; omega)]
    simp
  | u' :: t, a :: hs, x + 1, h1, h2, r, hr => by
    have := flatV_get u h t hs x (by simpa using h1) (by simpa using h2) r hr
    rw [← this]
    simp only [flatV]
    rw [List.getElem?_append_right (by simp [vcells]; omega)]
    congr 1
    simp [vcells]; omega

theorem row_cut {w : World} {B e size g m cap : Nat} {ys : List Value} (h : w.ownsRow B e size (.slice (some ⟨g, 0, none⟩) m cap) m ys) (n : Nat) (hn : n ≤ m) :
    w.ownsRow B e size (.slice (some ⟨g, 0, none⟩) n cap) n (ys.take (n * size)) := by
  rcases h.2 with ⟨h', _⟩ | ⟨g', cap', cur, h', hb, hg, hnc, hcm, hcs, htake⟩
  · cases h'
  · cases h'
    have hm : n * size ≤ m * size := Nat.mul_le_mul_right _ hn
    refine ⟨by rw [List.length_take, h.1]; omega, .inr ⟨_, _, cur, rfl, hb, hg, by omega, hcm, hcs, ?_⟩⟩
    rw [← htake, List.take_take, Nat.min_eq_left hm]

/-- A tree in rows of its own: the vertices' row, and the rows of the Lates of the first j. -/
structure OwnT (B : Nat) (w : World) (v : Value) (t : Tree) (hs : List Value) (j : Nat) : Prop where
  len : hs.length = t.length
  row : w.ownsRow B 47 6 v t.length (flatV t hs)
  late : ∀ (x : Nat) (u : PV) (h : Value), x < j → t[x]? = some u → hs[x]? = some h → OwnI B w h u.late
  apart : ∀ (x : Nat) (h : Value) (k : Nat), x < j → hs[x]? = some h → h.ownBlock = some k → v.ownBlock ≠ some k ∧ ∀ (y : Nat) (h' : Value), y < j → y ≠ x → hs[y]? = some h' → h'.ownBlock ≠ some k

theorem OwnT.form {B : Nat} {w : World} {v : Value} {t : Tree} {hs : List Value} {j : Nat} (h : OwnT B w v t hs j) (hne : 0 < t.length) : ∃ g cap, v = .slice (some ⟨g, 0, none⟩) t.length cap ∧ B ≤ g ∧ g < w.heap.size := by
  rcases h.row.2 with ⟨_, h0⟩ | ⟨g, cap, cur, e, hb, hg, _⟩
  · omega
  · exact ⟨g, cap, e, hb, (Array.getElem?_eq_some_iff.1 hg).1⟩

theorem OwnT.vat {B : Nat} {w : World} {g cap : Nat} {t : Tree} {hs : List Value} {j : Nat} (h : OwnT B w (.slice (some ⟨g, 0, none⟩) t.length cap) t hs j) {x : Nat} {u : PV} {a : Value} (hu : t[x]? = some u) (ha : hs[x]? = some a) :
    w.cell? ⟨g, x * 6, none⟩ = some (.bool u.full) ∧ w.cell? ⟨g, x * 6 + 1, none⟩ = some (.int .i64 u.key) ∧ w.cell? ⟨g, x * 6 + 2, none⟩ = some (.int .i64 u.client) ∧ w.cell? ⟨g, x * 6 + 3, none⟩ = some (.int .i64 u.sig) ∧ w.cell? ⟨g, x * 6 + 4, none⟩ = some (.int .i64 u.hash) ∧ w.cell? ⟨g, x * 6 + 5, none⟩ = some a := by
  have hx := (List.getElem?_eq_some_iff.1 hu).1
  have hc : ∀ r, r < 6 → w.cell? ⟨g, x * 6 + r, none⟩ = (vcells u a)[r]? := fun r hr => by
    rw [h.row.cellAt (x * 6 + r) (by omega), flatV_get u a t hs x hu ha r hr]
  exact ⟨hc 0 (by omega), hc 1 (by omega), hc 2 (by omega), hc 3 (by omega), hc 4 (by omega), hc 5 (by omega)⟩

theorem OwnT.head {B : Nat} {w : World} {v : Value} {t : Tree} {hs : List Value} {j : Nat} (h : OwnT B w v t hs j) {x : Nat} (hx : x < t.length) : ∃ a, hs[x]? = some a :=
  ⟨hs[x]'(by rw [h.len]; exact hx), by simp⟩

/-- Made, it is read as any tree. -/
theorem OwnT.tree {B : Nat} {w : World} {v : Value} {t : Tree} {hs : List Value} (h : OwnT B w v t hs t.length) (hl : t.length ≤ 127) (hlate : ∀ (x : Nat) (u : PV), t[x]? = some u → (u.late.length : Int) ≤ 9223372036854775807) : TreeAt w v t := by
  by_cases hne : 0 < t.length
  · obtain ⟨g, cap, rfl, hb, hg⟩ := h.form hne
    refine ⟨_, cap, rfl, by omega, fun _ => ⟨g, 0, rfl, hg, fun x u hu => ?_⟩⟩
    have hx := (List.getElem?_eq_some_iff.1 hu).1
    obtain ⟨a, ha⟩ := h.head hx
    obtain ⟨c0, c1, c2, c3, c4, c5⟩ := h.vat hu ha
    rw [Nat.zero_add]
    exact ⟨a, c0, c1, c2, c3, c4, c5, ownsRow_ints (h.late x u a hx hu ha) (hlate x u hu)⟩
  · have : t = [] := List.eq_nil_of_length_eq_zero (by omega)
    subst this
    rcases h.row.2 with ⟨rfl, _⟩ | ⟨g, cap, cur, e, _⟩
    · exact ⟨none, 0, rfl, by simp, fun h => absurd rfl h⟩
    · exact ⟨_, cap, e, by simp, fun h => absurd rfl h⟩

/-- Blocks that are not the tree's own may turn. -/
theorem OwnT.kept {B : Nat} {w w' : World} {v : Value} {t : Tree} {hs : List Value} {j : Nat} (h : OwnT B w v t hs j) (hj : j ≤ t.length) (hg : w.grownBy w' none) : OwnT B w' v t hs j :=
  ⟨h.len, h.row.kept hg (by cases v.ownBlock <;> simp), fun x u a hx hu ha => (h.late x u a hx hu ha).kept hg (by cases a.ownBlock <;> simp), h.apart⟩

theorem OwnT.below {B : Nat} {w w' : World} {v : Value} {t : Tree} {hs : List Value} {j : Nat} (h : OwnT B w v t hs j) (hj : j ≤ t.length) (hg : Below w.heap.size w w') : OwnT B w' v t hs j := h.kept hj (Below.grownNone hg)

end Go.Proofs.YtmcjincgppddeaaDoor
