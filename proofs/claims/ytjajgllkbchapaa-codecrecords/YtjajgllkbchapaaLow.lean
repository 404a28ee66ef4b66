/-
  Memory below a bound that stands; lists read item by item; the Reader's end.
-/
import Derived.Test.YtjajgllkbchapaaRdC
namespace Go.Proofs.Ytjajgllkbchapaa
open Go.RowKit
set_option linter.unusedSimpArgs false
set_option linter.unusedVariables false

/-- Below B the world is xs w0 was. -/
def Low (B : Nat) (w0 w : World) : Prop := ∀ k, k < B → w.heap[k]? = w0.heap[k]?

theorem Low.cell {B : Nat} {w0 w : World} (h : Low B w0 w) {b : Nat} (hb : b < B) (o : Nat) : w.cell? ⟨b, o, none⟩ = w0.cell? ⟨b, o, none⟩ :=
  World.cell?_of_block (a := ⟨b, o, none⟩) (h b hb)
theorem Low.refl (B : Nat) (w0 : World) : Low B w0 w0 := fun _ _ => rfl
theorem Low.grown {B r : Nat} {w0 w w' : World} (h : Low B w0 w) (hg : w.grownBy w' (some r)) (hr : B ≤ r) (hlt : r < w.heap.size) : Low B w0 w' := fun k hk =>
  (hg.block k (by omega) (by simp; omega)).trans (h k hk)
theorem Low.below {B : Nat} {w0 w w' : World} (h : Low B w0 w) (hb : Below B w w') : Low B w0 w' := fun k hk => (hb.block k hk).trans (h k hk)

/-- What stands for something goes on to do so while other rows than those of the kind T turn. -/
def Stable {α : Type} (rep : World → Value → α → Prop) (T : Nat) : Prop :=
  ∀ (w w' : World) (u : Value) (a : α) (row : Option Nat), rep w u a → w.grownBy w' row → (∀ k, row = some k → k < w.heap.size → ∃ cur fr, w.heap[k]? = some (.cells cur T fr)) → rep w' u a

/-- A row of the call's own. -/
def Row {α : Type} (rep : World → Value → α → Prop) (E base : Nat) (w : World) (v : Value) (l : List α) : Prop :=
  ∃ vs : List Value, w.ownsRow base E 1 v l.length vs ∧ (∀ u ∈ vs, u.oneCell' = true) ∧ ∀ (i : Nat) (u : Value) (a : α), vs[i]? = some u → l[i]? = some a → rep w u a

theorem stable_bool (T : Nat) : Stable isBool T := fun _ _ _ _ _ h _ _ => h
theorem stable_str (T : Nat) : Stable isStr T := fun _ _ _ _ _ h _ _ => h
theorem stable_nat (T : Nat) : Stable isNat T := fun _ _ _ _ _ h _ _ => h

theorem Row.keep {α : Type} {rep : World → Value → α → Prop} {E T base : Nat} {w w' : World} {v : Value} {l : List α} {row : Option Nat} (h : Row rep E base w v l) (hs : Stable rep T) (hg : w.grownBy w' row)
    (hrow : ∀ k, row = some k → k < w.heap.size → ∃ cur fr, w.heap[k]? = some (.cells cur T fr)) (hne : T ≠ E) : Row rep E base w' v l := by
  obtain ⟨vs, ho, h1, hr⟩ := h
  refine ⟨vs, ?_, h1, fun i u a hu ha => hs w w' u a row (hr i u a hu ha) hg hrow⟩
  refine ownsRow_keep ho fun k cur hk hh => hg.block k (Array.getElem?_eq_some_iff.1 hh).1 ?_
  intro e
  obtain ⟨cur', fr', h'⟩ := hrow k e.symm (Array.getElem?_eq_some_iff.1 hh).1
  rw [hh] at h'
  simp at h'
  exact hne h'.2.1.symm

theorem stable_row {α : Type} {rep : World → Value → α → Prop} {E T base : Nat} (hs : Stable rep T) (hne : T ≠ E) : Stable (Row rep E base) T :=
  fun _ _ _ _ _ h hg hrow => h.keep hs hg hrow hne

theorem Row.nil {α : Type} (rep : World → Value → α → Prop) (E base : Nat) (w : World) : Row rep E base w (.slice none 0 0) [] :=
  ⟨[], World.ownsRow_nil _ _ _ _, by simp, by simp⟩

/-- One item more. -/
theorem Row.push {α : Type} {rep : World → Value → α → Prop} {E base : Nat} {w W w' : World} {v v' u : Value} {l : List α} {a : α} {vs : List Value} (hs : Stable rep E) (ho : w.ownsRow base E 1 v l.length vs) (h1 : ∀ x ∈ vs, x.oneCell' = true)
    (hr : ∀ (i : Nat) (x : Value) (y : α), vs[i]? = some x → l[i]? = some y → rep w x y) (hu : rep w u a) (hu1 : u.oneCell' = true) (hW : Below w.heap.size w W)
    (hown : w'.ownsRow base E 1 v' (l.length + 1) (vs ++ [u])) (hg : W.grownBy w' v.ownBlock) : Row rep E base w' v' (l ++ [a]) := by
  have hvl : vs.length = l.length := by simpa using ho.1
  have hgr : w.grownBy w' v.ownBlock := by
    refine ⟨hg.os.trans hW.os, hg.tape.trans hW.tape, hg.output.trans hW.output, Nat.le_trans hW.size hg.size, fun k hk hne => ?_⟩
    have := hW.size
    rw [hg.block k (by omega) hne, hW.block k hk]
  have hkind : ∀ k, v.ownBlock = some k → k < w.heap.size → ∃ cur fr, w.heap[k]? = some (.cells cur E fr) := fun k hk _ => Lib.ownsRow_kind ho k hk
  refine ⟨vs ++ [u], by simpa using hown, ?_, fun i x y hx hy => ?_⟩
  · intro x hx
    simp at hx
    rcases hx with hx | rfl
    · exact h1 x hx
    · exact hu1
  · by_cases hi : i < l.length
    · rw [List.getElem?_append_left (by omega)] at hx
      rw [List.getElem?_append_left hi] at hy
      exact hs w w' x y _ (hr i x y hx hy) hgr hkind
    · have hil : i < (l ++ [a]).length := (List.getElem?_eq_some_iff.1 hy).1
      have hi' : i = l.length := by simp at hil; omega
      subst hi'
      rw [List.getElem?_append_right (by omega), hvl, Nat.sub_self] at hx
      rw [List.getElem?_append_right (Nat.le_refl _), Nat.sub_self] at hy
      simp at hx hy
      subst hx hy
      exact hs w w' _ _ _ hu hgr hkind

theorem Row.mono {α : Type} {rep : World → Value → α → Prop} {E base base' : Nat} {w : World} {v : Value} {l : List α} (h : Row rep E base w v l) (hb : base' ≤ base) : Row rep E base' w v l := by
  obtain ⟨vs, ho, h1, hr⟩ := h
  refine ⟨vs, ⟨ho.1, ?_⟩, h1, hr⟩
  rcases ho.2 with h | ⟨g, cap, cur, e, hg, r⟩
  · exact Or.inl h
  · exact Or.inr ⟨g, cap, cur, e, Nat.le_trans hb hg, r⟩

theorem Row.one {α : Type} {rep : World → Value → α → Prop} {E base : Nat} {w : World} {v : Value} {l : List α} (h : Row rep E base w v l) : v.oneCell' = true := by
  obtain ⟨vs, ho, h1, hr⟩ := h
  obtain ⟨a, c, rfl⟩ := ownsRow_form ho
  rfl

theorem RAt.grown {w w' : World} {r k : Nat} {s : ByteArray} {er : Int} {row : Option Nat} (h : RAt w r s k er) (hg : w.grownBy w' row) (hne : some r ≠ row) : RAt w' r s k er :=
  ⟨(hg.block r h.lt hne).trans h.1, h.2⟩
theorem ROk.grown {w w' : World} {r : Nat} {l : List UInt8} {row : Option Nat} (h : ROk w r l) (hg : w.grownBy w' row) (hne : some r ≠ row) : ROk w' r l := by
  obtain ⟨s, k, h, hd⟩ := h
  exact ⟨s, k, h.grown hg hne, hd⟩
theorem RBad.grown {w w' : World} {r : Nat} {e : Int} {row : Option Nat} (h : RBad w r e) (hg : w.grownBy w' row) (hne : some r ≠ row) : RBad w' r e := by
  obtain ⟨s, k, h⟩ := h
  exact ⟨s, k, h.grown hg hne⟩

/-- Behind a step that turned a row of the call's own alone. -/
theorem grown_row {a w w' : World} {r : Nat} {row : Option Nat} (h : a.grownBy w (some r)) (hg : w.grownBy w' row) (hrow : ∀ k, row = some k → a.heap.size ≤ k) : a.grownBy w' (some r) := by
  refine ⟨hg.os.trans h.os, hg.tape.trans h.tape, hg.output.trans h.output, Nat.le_trans h.size hg.size, fun k hk hne => ?_⟩
  have := h.size
  rw [hg.block k (by omega) (fun e => by have := hrow k e.symm; omega), h.block k hk hne]

theorem cells_one {v : Value} (h : v.oneCell' = true) : v.cells = #[v] := by
  cases v <;> first | rfl | (simp [Value.oneCell'] at h)

/-- So many items, one behind the other. -/
def many {α : Type} (g : List UInt8 → Except Int (α × List UInt8)) : Nat → List UInt8 → Except Int (List α × List UInt8)
  | 0, l => .ok ([], l)
  | n + 1, l =>
    match g l with
    | .error e => .error e
    | .ok (a, t) =>
      match many g n t with
      | .error e => .error e
      | .ok (xs, u) => .ok (a :: xs, u)

def pre {α : Type} (acc : List α) : Except Int (List α × List UInt8) → Except Int (List α × List UInt8)
  | .error e => .error e
  | .ok (xs, u) => .ok (acc ++ xs, u)

def getList {α : Type} (most : Int) (g : List UInt8 → Except Int (α × List UInt8)) (l : List UInt8) : Except Int (List α × List UInt8) :=
  match getC most l with
  | .error e => .error e
  | .ok (n, t) => many g n t

theorem pre_nil {α : Type} (x : Except Int (List α × List UInt8)) : pre [] x = x := by
  cases x <;> rfl

theorem pre_many {α : Type} (g : List UInt8 → Except Int (α × List UInt8)) (acc : List α) (n : Nat) (l t : List UInt8) (a : α) (h : g l = .ok (a, t)) : pre acc (many g (n + 1) l) = pre (acc ++ [a]) (many g n t) := by
  simp only [many, h]
  cases many g n t with
  | error e => rfl
  | ok x => simp [pre]

theorem pre_bad {α : Type} (g : List UInt8 → Except Int (α × List UInt8)) (acc : List α) (n : Nat) (l : List UInt8) (e : Int) (h : g l = .error e) : pre acc (many g (n + 1) l) = .error e := by
  simp only [many, h]
  rfl

/-- Reading takes bytes. -/
def Eats {α : Type} (g : List UInt8 → Except Int (α × List UInt8)) : Prop := ∀ l a t, g l = .ok (a, t) → t.length + 1 ≤ l.length

theorem eats_N : Eats getN := fun l a t h => getN_suffix h
theorem eats_flag : Eats getFlag := by
  intro l a t h
  unfold getFlag at h
  cases hg : getN l with
  | error er => rw [hg] at h; simp at h
  | ok x =>
    obtain ⟨n, t'⟩ := x
    rw [hg] at h
    simp only at h
    split at h
    · simp at h
      have := getN_suffix hg
      rw [← h.2]
      exact this
    · simp at h
theorem eats_text (most : Int) : Eats (getText most) := by
  intro l a t h
  unfold getText at h
  cases hg : getC most l with
  | error er => rw [hg] at h; simp at h
  | ok x =>
    obtain ⟨n, t'⟩ := x
    rw [hg] at h
    simp only at h
    split at h
    · simp at h
      have := getN_suffix (getC_ok hg).1
      rw [← h.2]
      simp
      omega
    · simp at h
theorem many_le {α : Type} {g : List UInt8 → Except Int (α × List UInt8)} (hg : Eats g) : ∀ n l xs t, many g n l = .ok (xs, t) → t.length + n ≤ l.length ∧ xs.length = n
  | 0, l, xs, t, h => by
    simp [many] at h
    rw [h.1, h.2]
    simp
  | n + 1, l, xs, t, h => by
    simp only [many] at h
    cases h1 : g l with
    | error e => rw [h1] at h; simp at h
    | ok x =>
      obtain ⟨a, t1⟩ := x
      rw [h1] at h
      simp only at h
      cases h2 : many g n t1 with
      | error e => rw [h2] at h; simp at h
      | ok y =>
        obtain ⟨xs2, t2⟩ := y
        rw [h2] at h
        simp at h
        have ih := many_le hg n t1 xs2 t2 h2
        have := hg l a t1 h1
        rw [← h.1, ← h.2]
        simp
        omega
theorem eats_list {α : Type} {g : List UInt8 → Except Int (α × List UInt8)} (hg : Eats g) (most : Int) : Eats (getList most g) := by
  intro l a t h
  unfold getList at h
  cases hc : getC most l with
  | error er => rw [hc] at h; simp at h
  | ok x =>
    obtain ⟨n, t'⟩ := x
    rw [hc] at h
    have h1 := getN_suffix (getC_ok hc).1
    have h2 := many_le hg n t' a t h
    omega

set_option maxHeartbeats 400000 in
theorem end_bad {w : World} {r : Nat} {er : Int} (h : RBad w r er) (he : er ≠ 0) :
    Calls Try.prog 63 #[.pointer (some ⟨r, 0, none⟩)] w fun e w' => e = .returned (.tuple #[]) ∧ RBad w' r er ∧ w.grownBy w' (some r) := by
  obtain ⟨s, k, h⟩ := h
  obtain ⟨c0, c1, c2, cf, hlt⟩ := h.cells
  have h1 : (er == 0) = false := by simpa using he
  go_enter Try.func63, Try.ntmps63
  go_wp2_with fail
  go_region
  all_goals
    go_wp2_with fail
    go_end0
    exact ⟨rfl, ⟨s, k, h.drew⟩, grown_drew (World.grownBy.refl _ _)⟩

set_option maxHeartbeats 400000 in
theorem end_nil {w : World} {r : Nat} (h : ROk w r []) :
    Calls Try.prog 63 #[.pointer (some ⟨r, 0, none⟩)] w fun e w' => e = .returned (.tuple #[]) ∧ ROk w' r [] ∧ w.grownBy w' (some r) := by
  obtain ⟨s, k, h, hd⟩ := h
  obtain ⟨c0, c1, c2, cf, hlt⟩ := h.cells
  have hk : ¬ (k : Int) < s.size := by
    have := List.drop_eq_nil_iff.1 hd
    rw [Array.length_toList] at this
    have e : s.data.size = s.size := rfl
    omega
  have Hd : Hid (List.drop k s.data.toList = []) := hd
  clear hd
  go_enter Try.func63, Try.ntmps63
  go_wp2_with fail
  go_region
  all_goals
    go_wp2_with fail
    go_end0
    exact ⟨rfl, ⟨s, k, h.drew, Hd.out⟩, grown_drew (World.grownBy.refl _ _)⟩

set_option maxHeartbeats 400000 in
theorem end_more {w : World} {r : Nat} {l : List UInt8} (h : ROk w r l) (hl : l ≠ []) :
    Calls Try.prog 63 #[.pointer (some ⟨r, 0, none⟩)] w fun e w' => e = .returned (.tuple #[]) ∧ RBad w' r 21 ∧ w.grownBy w' (some r) := by
  obtain ⟨s, k, h, hd⟩ := h
  obtain ⟨c0, c1, c2, cf, hlt⟩ := h.cells
  have hk : (k : Int) < s.size := by
    have e : s.data.size = s.size := rfl
    rcases Int.lt_or_le (k : Int) s.size with h | h
    · exact h
    · exfalso
      apply hl
      rw [← hd]
      exact List.drop_of_length_le (by rw [Array.length_toList]; omega)
  clear hd
  go_enter Try.func63, Try.ntmps63
  go_wp2_with fail
  go_region
  all_goals
    go_wp2_with fail
    go_end0
    exact ⟨rfl, ⟨s, k, (h.fail 21).drew⟩, grown_drew (grown_set (World.grownBy.refl _ _) _ _)⟩

end Go.Proofs.Ytjajgllkbchapaa
