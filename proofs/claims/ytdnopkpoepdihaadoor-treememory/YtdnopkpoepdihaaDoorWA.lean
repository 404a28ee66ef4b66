/-
  A tree of one's own that is spoilt: what stays of it, and what is let alone.
-/
import Derived.Test.YtdnopkpoepdihaaDoorYA
namespace Go.Proofs.YtdnopkpoepdihaaDoor
open Go.RowKit
set_option linter.unusedSimpArgs false
set_option linter.unusedVariables false

/-- How the rows of a tree lie to one another: its own blocks are in [B, E), no two are one. -/
structure Lie (B E : Nat) (va : Value) (n : Nat) (hs : List Value) : Prop where
  len : hs.length = n
  va_in : ∀ k, va.ownBlock = some k → B ≤ k ∧ k < E
  hs_in : ∀ (x : Nat) (h : Value) (k : Nat), hs[x]? = some h → h.ownBlock = some k → B ≤ k ∧ k < E
  apart : ∀ (x : Nat) (h : Value) (k : Nat), hs[x]? = some h → h.ownBlock = some k → va.ownBlock ≠ some k ∧ ∀ (y : Nat) (h' : Value), y ≠ x → hs[y]? = some h' → h'.ownBlock ≠ some k

/-- What is left of it from the j-th on. -/
structure Sp (B : Nat) (va : Value) (n : Nat) (hs : List Value) (ls : List Nat) (w : World) (j : Nat) : Prop where
  row : ∃ cs, w.ownsRow B 24 6 va n cs ∧ ∀ (y : Nat) (h : Value), j ≤ y → hs[y]? = some h → cs[y * 6 + 5]? = some h
  late : ∀ (y : Nat) (h : Value), j ≤ y → hs[y]? = some h → ∃ L : List Int, OwnI B w h L ∧ ls[y]? = some L.length

/-- Nothing but the blocks in [B, E) and new ones has turned since w0. -/
structure Let (B E : Nat) (w0 w : World) : Prop where
  os : w.os = w0.os
  tape : w.tape = w0.tape
  output : w.output = w0.output
  size : w0.heap.size ≤ w.heap.size
  block : ∀ b, b < w0.heap.size → ¬ (B ≤ b ∧ b < E) → w.heap[b]? = w0.heap[b]?

theorem Let.refl (B E : Nat) (w : World) : Let B E w w := ⟨rfl, rfl, rfl, Nat.le_refl _, fun _ _ _ => rfl⟩
theorem Let.grown {B E : Nat} {w0 w w' : World} {row : Option Nat} (h : Let B E w0 w) (hg : w.grownBy w' row) (hr : ∀ k, row = some k → B ≤ k ∧ k < E) : Let B E w0 w' :=
  ⟨hg.os.trans h.os, hg.tape.trans h.tape, hg.output.trans h.output, Nat.le_trans h.size hg.size, fun b hb hn => (hg.block b (Nat.lt_of_lt_of_le hb h.size) (fun e => hn (hr b e.symm))).trans (h.block b hb hn)⟩
theorem Let.alloc {B E : Nat} {w0 w : World} (h : Let B E w0 w) (o : Obj) : Let B E w0 (w.alloc o) := h.grown (World.grownBy_alloc w o none) (fun k hk => by cases hk)
theorem Let.below {B E D : Nat} {w w0 w1 : World} (h : Let B E w0 w1) (hb : Below D w w0) (hD : D ≤ B) (hs : D ≤ w0.heap.size) : Below D w w1 :=
  ⟨h.os.trans hb.os, h.tape.trans hb.tape, h.output.trans hb.output, Nat.le_trans hb.size h.size, fun b hlt => (h.block b (by omega) (by omega)).trans (hb.block b hlt)⟩
theorem TreeP.let {q : Nat → Prop} {B E : Nat} {w0 w : World} {v : Value} {t : Tree} (h : TreeP q w0 v t) (hl : Let B E w0 w) (hq : ∀ b, b < w0.heap.size → q b → ¬ (B ≤ b ∧ b < E)) : TreeAt w v t :=
  (h.agree hl.size (fun b hb hqb => hl.block b hb (hq b hb hqb))).tree

/-- Made, it lies so. -/
theorem OwnT.lie {B : Nat} {w : World} {v : Value} {t : Tree} {hs : List Value} (h : OwnT B w v t hs t.length) : Lie B w.heap.size v t.length hs ∧ Sp B v t.length hs (t.map fun u => u.late.length) w 0 := by
  have hx : ∀ {x : Nat} {a : Value}, hs[x]? = some a → x < t.length := fun {x a} hxa => by
    have := (List.getElem?_eq_some_iff.1 hxa).1
    rw [h.len] at this
    exact this
  refine ⟨⟨h.len, fun k hk => h.row.lt k hk, fun x a k ha hk => (h.late x _ a (hx ha) (vx_some (hx ha)) ha).lt k hk, fun x a k ha hk => ?_⟩, ⟨⟨_, h.row, fun y a _ ha => ?_⟩, fun y a _ ha => ?_⟩⟩
  · obtain ⟨h1, h2⟩ := h.apart x a k (hx ha) ha hk
    exact ⟨h1, fun y a' hne ha' => h2 y a' (hx ha') hne ha'⟩
  · have := flatV_get (vx t y) a t hs y (vx_some (hx ha)) ha 5 (by omega)
    rw [this]
    rfl
  · exact ⟨(vx t y).late, h.late y _ a (hx ha) (vx_some (hx ha)) ha, by simp [vx_some (hx ha)]⟩

theorem Sp.grown {B E : Nat} {va : Value} {n : Nat} {hs : List Value} {ls : List Nat} {w w' : World} {j : Nat} (h : Sp B va n hs ls w j) {row : Option Nat} (hg : w.grownBy w' row) (i : Nat) (hij : j ≤ i) (hv : ∀ k, row = some k → va.ownBlock ≠ some k) (hh : ∀ (y : Nat) (a : Value), i ≤ y → hs[y]? = some a → ∀ k, row = some k → a.ownBlock ≠ some k) : Sp B va n hs ls w' i := by
  have key : ∀ {v : Value}, (∀ k, row = some k → v.ownBlock ≠ some k) → v.ownBlock = none ∨ v.ownBlock ≠ row := fun {v} hk => by
    cases hr : row with
    | none => cases v.ownBlock <;> simp
    | some k => exact .inr (hk k hr)
  obtain ⟨cs, h1, h2⟩ := h.row
  refine ⟨⟨cs, h1.kept hg (key hv), fun y a hy ha => h2 y a (by omega) ha⟩, fun y a hy ha => ?_⟩
  obtain ⟨L, l1, l2⟩ := h.late y a (by omega) ha
  exact ⟨L, World.ownsRow.kept l1 hg (key (hh y a hy ha)), l2⟩

theorem Sp.alloc {B : Nat} {va : Value} {n : Nat} {hs : List Value} {ls : List Nat} {w : World} {j : Nat} (h : Sp B va n hs ls w j) (o : Obj) : Sp B va n hs ls (w.alloc o) j :=
  h.grown (E := 0) (World.grownBy_alloc w o none) j (Nat.le_refl _) (fun k hk => by cases hk) (fun y a _ _ k hk => by cases hk)
theorem Sp.below {B : Nat} {va : Value} {n : Nat} {hs : List Value} {ls : List Nat} {w w' : World} {j : Nat} (h : Sp B va n hs ls w j) (hb : Below w.heap.size w w') : Sp B va n hs ls w' j :=
  h.grown (E := 0) (row := none) ⟨hb.os, hb.tape, hb.output, hb.size, fun k hk _ => hb.block k hk⟩ j (Nat.le_refl _) (fun k hk => by cases hk) (fun y a _ _ k hk => by cases hk)

/-- One item of the j-th Late is written. -/
theorem Sp.item {B E : Nat} {va : Value} {n : Nat} {hs : List Value} {ls : List Nat} {w : World} {j : Nat} (h : Sp B va n hs ls w j) (lie : Lie B E va n hs) {k m c : Nat} (ha : hs[j]? = some (.slice (some ⟨k, 0, none⟩) m c)) (p : Nat) (x : Int) :
    Sp B va n hs ls (w.setCell ⟨k, p, none⟩ (.int .i64 x)) j ∧ w.grownBy (w.setCell ⟨k, p, none⟩ (.int .i64 x)) (some k) ∧ (B ≤ k ∧ k < E) := by
  obtain ⟨L, l1, l2⟩ := h.late j _ (Nat.le_refl _) ha
  have hm : L.length = m := by
    rcases l1.2 with ⟨h', _⟩ | ⟨g', cap', cur, h', _⟩
    · cases h'
    · cases h'; rfl
  have l1' : w.ownsRow B 3 1 (.slice (some ⟨k, 0, none⟩) m c) m (L.map (Value.int .i64)) := by rw [← hm]; rw [← hm] at l1; exact l1
  obtain ⟨s1, s2⟩ := l1'.stored p (.int .i64 x)
  obtain ⟨a1, a2⟩ := lie.apart j _ k ha rfl
  have hrest := h.grown (E := E) s2 (j + 1) (by omega) (fun k' hk' => by cases hk'; exact a1) (fun y a hy hya k' hk' => by cases hk'; exact a2 y a (by omega) hya)
  refine ⟨⟨?_, fun y a hy hya => ?_⟩, s2, lie.hs_in j _ k ha rfl⟩
  · obtain ⟨cs, h1, h2⟩ := h.row
    exact ⟨cs, h1.kept s2 (.inr (by simpa using a1)), h2⟩
  · by_cases e : y = j
    · subst e
      rw [ha] at hya
      cases hya
      refine ⟨L.set p x, ?_, by simpa using l2⟩
      have e2 : (L.set p x).length = m := by simpa using hm
      show World.ownsRow _ _ _ _ _ _ _
      rw [e2, List.map_set]
      exact s1
    · exact hrest.late y a (by omega) hya

/-- The j-th is written over. -/
theorem Sp.put {B E : Nat} {n c g : Nat} {hs : List Value} {ls : List Nat} {w : World} {j : Nat} (h : Sp B (.slice (some ⟨g, 0, none⟩) n c) n hs ls w (j + 1)) (lie : Lie B E (.slice (some ⟨g, 0, none⟩) n c) n hs) (vs : List Value) (hv : vs.length = 6) :
    Sp B (.slice (some ⟨g, 0, none⟩) n c) n hs ls (w.setCells g (j * 6) vs) (j + 1) ∧ w.grownBy (w.setCells g (j * 6) vs) (some g) := by
  obtain ⟨cs, h1, h2⟩ := h.row
  obtain ⟨s1, s2⟩ := stored_all (w := w) vs (j * 6) w cs h1
  have hset : ∀ (vs : List Value) (xs : List Value) (o i : Nat), o + vs.length ≤ i → (setAll xs o vs)[i]? = xs[i]? := by
    intro vs
    induction vs with
    | nil => intro xs o i _; rfl
    | cons v r ih =>
      intro xs o i hi
      simp only [setAll]
      rw [ih (xs.set o v) (o + 1) i (by simp at hi; omega), List.getElem?_set_ne (by simp at hi; omega)]
  refine ⟨⟨⟨_, s1, fun y a hy ha => ?_⟩, fun y a hy ha => ?_⟩, s2⟩
  · rw [hset vs cs (j * 6) (y * 6 + 5) (by rw [hv]; omega)]
    exact h2 y a hy ha
  · obtain ⟨L, l1, l2⟩ := h.late y a hy ha
    refine ⟨L, World.ownsRow.kept l1 s2 ?_, l2⟩
    cases hk : a.ownBlock with
    | none => exact .inl rfl
    | some k =>
      right
      intro e
      have := (lie.apart y a k ha hk).1
      simp [Value.ownBlock] at this
      simp at e
      exact this e.symm

end Go.Proofs.YtdnopkpoepdihaaDoor
