/-
  The document's example begins: the laws' anchor · Leaves replaced and taken out: package tree's Update, shrunk, Remove · Leaves taken out: package tree's Remove · Which leaves are full behind a step; right trees stay right behind replacing and taking out · Trees and lists by the blocks that they lie in; what Remove answers lies in new blocks.
-/
import Derived.Test.YtmcjincgppddeaaDoorTQ
namespace Go.Proofs.YtmcjincgppddeaaDoor
open Go.RowKit 
set_option linter.unusedSimpArgs false
set_option linter.unusedVariables false

theorem late_small {t : Tree} (hf : Fit t) : ∀ (x : Nat) (u : PV), t[x]? = some u → (u.late.length : Int) ≤ 9223372036854775807 := fun x u hu => by
  have := (hf.small x u hu).1
  omega

end Go.Proofs.YtmcjincgppddeaaDoor

namespace Go.Proofs.YtmcjincgppddeaaDoor
open Go.RowKit 
set_option linter.unusedSimpArgs false
set_option linter.unusedVariables false

theorem TreeAt.take {w : World} {a : Option Addr} {cap : Nat} {t : Tree} (h : TreeAt w (.slice a t.length cap) t) (k c : Nat) (hk : k ≤ t.length) : TreeAt w (.slice a k c) (t.take k) := by
  obtain ⟨a', cap', e, hl, hc⟩ := h
  cases e
  refine ⟨a, c, by simp [Nat.min_eq_left hk], by simp; omega, fun hne => ?_⟩
  obtain ⟨b, off, rfl, hr⟩ := hc (by rintro rfl; simp at hne)
  refine ⟨b, off, rfl, hr.lt, fun x u hu => hr.at_ x u ?_⟩
  rw [List.getElem?_take] at hu
  split at hu
  · exact hu
  · cases hu

end Go.Proofs.YtmcjincgppddeaaDoor

namespace Go.Proofs.YtmcjincgppddeaaDoor
open Go.RowKit 
set_option linter.unusedSimpArgs false
set_option linter.unusedVariables false



end Go.Proofs.YtmcjincgppddeaaDoor

namespace Go.Proofs.YtmcjincgppddeaaDoor
open Go.RowKit
set_option linter.unusedSimpArgs false
set_option linter.unusedVariables false

def isF (t : Tree) (j : Nat) : Bool := decide (j < lv t) && (vx t (2 * j)).full

theorem isF_fullB {t : Tree} {j : Nat} : isF t j = fullB t j := by simp [isF, fullB]

end Go.Proofs.YtmcjincgppddeaaDoor

namespace Go.Proofs.YtmcjincgppddeaaDoor
open Go.RowKit 
set_option linter.unusedSimpArgs false
set_option linter.unusedVariables false

/-- A list whose block, if it has one, is one of those. -/
def IntsP (q : Nat → Prop) (w : World) (v : Value) (l : List Int) : Prop :=
  ∃ a cap, v = .slice a l.length cap ∧ (l.length : Int) ≤ 9223372036854775807 ∧
    (l ≠ [] → ∃ b off, a = some ⟨b, off, none⟩ ∧ q b ∧ b < w.heap.size ∧ ∀ (i : Nat) (x : Int), l[i]? = some x → w.cell? ⟨b, off + i, none⟩ = some (.int .i64 x))

structure VP (q : Nat → Prop) (w : World) (b o : Nat) (u : PV) (h : Value) : Prop where
  at_ : VAt w b o u h
  late : IntsP q w h u.late

def TreeP (q : Nat → Prop) (w : World) (v : Value) (t : Tree) : Prop :=
  ∃ a cap, v = .slice a t.length cap ∧ (t.length : Int) ≤ 9223372036854775806 ∧ (t ≠ [] → ∃ b off, a = some ⟨b, off, none⟩ ∧ q b ∧ b < w.heap.size ∧ ∀ (x : Nat) (u : PV), t[x]? = some u → ∃ h, VP q w b (off + x * 6) u h)

theorem IntsP.ints {q : Nat → Prop} {w : World} {v : Value} {l : List Int} (h : IntsP q w v l) : IntsAt w v l := by
  obtain ⟨a, cap, e, hl, hc⟩ := h
  exact ⟨a, cap, e, hl, fun hne => by obtain ⟨b, off, h1, _, h2, h3⟩ := hc hne; exact ⟨b, off, h1, h2, h3⟩⟩

theorem IntsAt.p {w : World} {v : Value} {l : List Int} (h : IntsAt w v l) : IntsP (fun b => b < w.heap.size) w v l := by
  obtain ⟨a, cap, e, hl, hc⟩ := h
  exact ⟨a, cap, e, hl, fun hne => by obtain ⟨b, off, h1, h2, h3⟩ := hc hne; exact ⟨b, off, h1, h2, h2, h3⟩⟩

theorem IntsP.imp {q r : Nat → Prop} {w : World} {v : Value} {l : List Int} (h : IntsP q w v l) (hi : ∀ b, b < w.heap.size → q b → r b) : IntsP r w v l := by
  obtain ⟨a, cap, e, hl, hc⟩ := h
  exact ⟨a, cap, e, hl, fun hne => by obtain ⟨b, off, h1, h0, h2, h3⟩ := hc hne; exact ⟨b, off, h1, hi b h2 h0, h2, h3⟩⟩

theorem IntsP.agree {q : Nat → Prop} {w w' : World} {v : Value} {l : List Int} (h : IntsP q w v l) (hs : w.heap.size ≤ w'.heap.size) (hb : ∀ b, b < w.heap.size → q b → w'.heap[b]? = w.heap[b]?) : IntsP q w' v l := by
  obtain ⟨a, cap, e, hl, hc⟩ := h
  refine ⟨a, cap, e, hl, fun hne => ?_⟩
  obtain ⟨b, off, h1, h0, h2, h3⟩ := hc hne
  exact ⟨b, off, h1, h0, by omega, fun i x hx => (World.cell?_of_block (a := ⟨b, off + i, none⟩) (hb b h2 h0)).trans (h3 i x hx)⟩

theorem TreeP.tree {q : Nat → Prop} {w : World} {v : Value} {t : Tree} (h : TreeP q w v t) : TreeAt w v t := by
  obtain ⟨a, cap, e, hl, hc⟩ := h
  exact ⟨a, cap, e, hl, fun hne => by
    obtain ⟨b, off, h1, _, h2, h3⟩ := hc hne
    exact ⟨b, off, h1, h2, fun x u hu => by obtain ⟨hd, k⟩ := h3 x u hu; exact ⟨hd, k.at_⟩⟩⟩

theorem TreeAt.p {w : World} {v : Value} {t : Tree} (h : TreeAt w v t) : TreeP (fun b => b < w.heap.size) w v t := by
  obtain ⟨a, cap, e, hl, hc⟩ := h
  exact ⟨a, cap, e, hl, fun hne => by
    obtain ⟨b, off, h1, h2⟩ := hc hne
    exact ⟨b, off, h1, h2.lt, h2.lt, fun x u hu => by obtain ⟨hd, k⟩ := h2.at_ x u hu; exact ⟨hd, k, k.late.p⟩⟩⟩

theorem TreeP.imp {q r : Nat → Prop} {w : World} {v : Value} {t : Tree} (h : TreeP q w v t) (hi : ∀ b, b < w.heap.size → q b → r b) : TreeP r w v t := by
  obtain ⟨a, cap, e, hl, hc⟩ := h
  exact ⟨a, cap, e, hl, fun hne => by
    obtain ⟨b, off, h1, h0, h2, h3⟩ := hc hne
    exact ⟨b, off, h1, hi b h2 h0, h2, fun x u hu => by obtain ⟨hd, k⟩ := h3 x u hu; exact ⟨hd, k.at_, k.late.imp hi⟩⟩⟩

theorem TreeP.agree {q : Nat → Prop} {w w' : World} {v : Value} {t : Tree} (h : TreeP q w v t) (hs : w.heap.size ≤ w'.heap.size) (hb : ∀ b, b < w.heap.size → q b → w'.heap[b]? = w.heap[b]?) : TreeP q w' v t := by
  obtain ⟨a, cap, e, hl, hc⟩ := h
  refine ⟨a, cap, e, hl, fun hne => ?_⟩
  obtain ⟨b, off, h1, h0, h2, h3⟩ := hc hne
  refine ⟨b, off, h1, h0, by omega, fun x u hu => ?_⟩
  obtain ⟨hd, k⟩ := h3 x u hu
  have hl2 := k.late.agree hs hb
  obtain ⟨c0, c1, c2, c3, c4, c5, _⟩ := k.at_
  have cc : ∀ o, w'.cell? ⟨b, o, none⟩ = w.cell? ⟨b, o, none⟩ := fun o => World.cell?_of_block (a := ⟨b, o, none⟩) (hb b h2 h0)
  exact ⟨hd, ⟨(cc _).trans c0, (cc _).trans c1, (cc _).trans c2, (cc _).trans c3, (cc _).trans c4, (cc _).trans c5, hl2.ints⟩, hl2⟩

theorem TreeP.below {q : Nat → Prop} {w w' : World} {v : Value} {t : Tree} (h : TreeP q w v t) (hb : Below w.heap.size w w') : TreeP q w' v t :=
  h.agree hb.size (fun b hlt _ => hb.block b hlt)

theorem TreeP.take {q : Nat → Prop} {w : World} {a : Option Addr} {cap : Nat} {t : Tree} (h : TreeP q w (.slice a t.length cap) t) (k c : Nat) (hk : k ≤ t.length) : TreeP q w (.slice a k c) (t.take k) := by
  obtain ⟨a', cap', e, hl, hc⟩ := h
  cases e
  refine ⟨a, c, by simp [Nat.min_eq_left hk], by simp; omega, fun hne => ?_⟩
  obtain ⟨b, off, rfl, h0, h2, h3⟩ := hc (by rintro rfl; simp at hne)
  refine ⟨b, off, rfl, h0, h2, fun x u hu => h3 x u ?_⟩
  rw [List.getElem?_take] at hu
  split at hu
  · exact hu
  · cases hu

theorem ownI_p {B : Nat} {w : World} {v : Value} {l : List Int} (h : OwnI B w v l) (hl : (l.length : Int) ≤ 9223372036854775807) : IntsP (fun b => B ≤ b) w v l := by
  rcases h.2 with ⟨rfl, h0⟩ | ⟨g, cap, cur, rfl, hb, hgg, r1, r2, r3, r4⟩
  · have : l = [] := List.eq_nil_of_length_eq_zero h0
    subst this
    exact ⟨none, 0, rfl, by simp, fun h => absurd rfl h⟩
  · refine ⟨_, cap, rfl, hl, fun _ => ⟨g, 0, rfl, hb, (Array.getElem?_eq_some_iff.1 hgg).1, fun i x hi => ?_⟩⟩
    have hil := (List.getElem?_eq_some_iff.1 hi).1
    rw [Nat.zero_add, World.ownsRow.cellAt h i (by omega)]
    simp [hi]

theorem OwnT.p {B : Nat} {w : World} {v : Value} {t : Tree} {hs : List Value} (h : OwnT B w v t hs t.length) (hf : Fit t) : TreeP (fun b => B ≤ b) w v t := by
  have hb := hf.sh.bounds
  obtain ⟨g, cap, rfl, hgB, hg⟩ := h.form (by omega)
  refine ⟨_, cap, rfl, by omega, fun _ => ⟨g, 0, rfl, hgB, hg, fun x u hu => ?_⟩⟩
  have hx := (List.getElem?_eq_some_iff.1 hu).1
  obtain ⟨a, ha⟩ := h.head hx
  obtain ⟨c0, c1, c2, c3, c4, c5⟩ := h.vat hu ha
  rw [Nat.zero_add]
  have hl := late_small hf x u hu
  have hp := ownI_p (h.late x u a hx hu ha) hl
  exact ⟨a, ⟨c0, c1, c2, c3, c4, c5, hp.ints⟩, hp⟩

end Go.Proofs.YtmcjincgppddeaaDoor
