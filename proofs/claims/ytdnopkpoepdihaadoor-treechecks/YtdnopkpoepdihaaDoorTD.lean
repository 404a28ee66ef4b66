/-
  A tree that a call has made: rows of vertices, and what writing does to them.
-/
import Derived.Test.YtdnopkpoepdihaaDoorTC
import Derived.Laws.IdiomCopy
namespace Go.Proofs.YtdnopkpoepdihaaDoor
open Go.RowKit
set_option linter.unusedSimpArgs false
set_option linter.unusedVariables false

def vcells (u : PV) (h : Value) : List Value := [.bool u.full, .int .i64 u.key, .int .i64 u.client, .int .i64 u.sig, .int .i64 u.hash, h]
def flatV : Tree → List Value → List Value
  | u :: t, h :: hs => vcells u h ++ flatV t hs
  | _, _ => []

theorem flatV_len : ∀ (t : Tree) (hs : List Value), hs.length = t.length → (flatV t hs).length = t.length * 6
  | [], hs, h => by simp [flatV]
  | u :: t, [], h => by simp at h
  | u :: t, a :: hs, h => by
    have := flatV_len t hs (by simpa using h)
    simp [flatV, vcells, this]; omega

theorem flatV_append : ∀ (t : Tree) (hs : List Value) (t' : Tree) (hs' : List Value), hs.length = t.length → flatV (t ++ t') (hs ++ hs') = flatV t hs ++ flatV t' hs'
  | [], [], t', hs', h => by simp [flatV]
  | [], a :: hs, t', hs', h => by simp at h
  | u :: t, [], t', hs', h => by simp at h
  | u :: t, a :: hs, t', hs', h => by
    have := flatV_append t hs t' hs' (by simpa using h)
    simp [flatV, this]

theorem flatV_get (u : PV) (h : Value) : ∀ (t : Tree) (hs : List Value) (x : Nat), t[x]? = some u → hs[x]? = some h → ∀ r, r < 6 → (flatV t hs)[x * 6 + r]? = (vcells u h)[r]?
  | [], hs, x, h1, h2, r, hr => by simp at h1
  | u' :: t, [], x, h1, h2, r, hr => by simp at h2
  | u' :: t, a :: hs, 0, h1, h2, r, hr => by
    simp at h1 h2; subst h1; subst h2
    simp only [flatV]
    rw [List.getElem?_append_left (by simp [vcells]; omega)]
    simp
  | u' :: t, a :: hs, x + 1, h1, h2, r, hr => by
    have := flatV_get u h t hs x (by simpa using h1) (by simpa using h2) r hr
    rw [← this]
    simp only [flatV]
    rw [List.getElem?_append_right (by simp [vcells]; omega)]
    congr 1
    simp [vcells]; omega

/-- Cells put one behind the other. -/
def setAll : List Value → Nat → List Value → List Value
  | xs, _, [] => xs
  | xs, o, v :: r => setAll (xs.set o v) (o + 1) r

theorem setAll_len : ∀ (vs : List Value) (xs : List Value) (o : Nat), (setAll xs o vs).length = xs.length
  | [], xs, o => rfl
  | v :: r, xs, o => by simp [setAll, setAll_len r]

theorem setAll_right (a : List Value) : ∀ (vs : List Value) (xs : List Value) (o : Nat), setAll (a ++ xs) (a.length + o) vs = a ++ setAll xs o vs
  | [], xs, o => rfl
  | v :: r, xs, o => by
    simp only [setAll]
    rw [List.set_append_right _ _ (by omega), show a.length + o - a.length = o by omega, show a.length + o + 1 = a.length + (o + 1) by omega, setAll_right a r]

theorem setAll_take : ∀ (vs : List Value) (xs : List Value) (o : Nat), o + vs.length ≤ xs.length → (setAll xs o vs).take (o + vs.length) = xs.take o ++ vs
  | [], xs, o, h => by simp [setAll]
  | v :: r, xs, o, h => by
    have h1 := setAll_take r (xs.set o v) (o + 1) (by simp at h ⊢; omega)
    simp only [setAll, List.length_cons]
    rw [show o + (r.length + 1) = o + 1 + r.length by omega, h1]
    have hlt : o < xs.length := by simp at h; omega
    rw [List.take_add_one, List.getElem?_set_self hlt]
    rw [List.take_set, List.set_eq_of_length_le (by simp; omega)]
    simp

theorem flatV_setV (u' : PV) (h' : Value) : ∀ (t : Tree) (hs : List Value) (x : Nat), x < t.length → hs.length = t.length → setAll (flatV t hs) (x * 6) (vcells u' h') = flatV (t.set x u') (hs.set x h')
  | [], hs, x, h1, h2 => by simp at h1
  | u :: t, [], x, h1, h2 => by simp at h2
  | u :: t, a :: hs, 0, h1, h2 => by simp [flatV, vcells, setAll]
  | u :: t, a :: hs, x + 1, h1, h2 => by
    have := flatV_setV u' h' t hs x (by simpa using h1) (by simpa using h2)
    simp only [flatV, List.set_cons_succ]
    rw [show (x + 1) * 6 = (vcells u a).length + x * 6 by simp [vcells]; omega, setAll_right, this]

theorem flatV_set5 (h' : Value) : ∀ (t : Tree) (hs : List Value) (x : Nat), x < t.length → hs.length = t.length → (flatV t hs).set (x * 6 + 5) h' = flatV t (hs.set x h')
  | [], hs, x, h1, h2 => by simp at h1
  | u :: t, [], x, h1, h2 => by simp at h2
  | u :: t, a :: hs, 0, h1, h2 => by simp [flatV, vcells]
  | u :: t, a :: hs, x + 1, h1, h2 => by
    have := flatV_set5 h' t hs x (by simpa using h1) (by simpa using h2)
    simp only [flatV, List.set_cons_succ]
    rw [show (x + 1) * 6 + 5 = (vcells u a).length + (x * 6 + 5) by simp [vcells]; omega, List.set_append_right _ _ (by omega), show (vcells u a).length + (x * 6 + 5) - (vcells u a).length = x * 6 + 5 by omega, this]

theorem stored_all {w : World} {B e size g n cap : Nat} : ∀ (vs : List Value) (o : Nat) (w : World) (xs : List Value), w.ownsRow B e size (.slice (some ⟨g, 0, none⟩) n cap) n xs →
    (w.setCells g o vs).ownsRow B e size (.slice (some ⟨g, 0, none⟩) n cap) n (setAll xs o vs) ∧ w.grownBy (w.setCells g o vs) (some g)
  | [], o, w, xs, h => ⟨h, rfl, rfl, rfl, Nat.le_refl _, fun _ _ _ => rfl⟩
  | v :: r, o, w, xs, h => by
    obtain ⟨h1, g1⟩ := h.stored o v
    obtain ⟨h2, g2⟩ := stored_all (w := w) r (o + 1) (w.setCell ⟨g, o, none⟩ v) _ h1
    exact ⟨h2, g2.os.trans g1.os, g2.tape.trans g1.tape, g2.output.trans g1.output, Nat.le_trans g1.size g2.size, fun k hk hne => (g2.block k (Nat.lt_of_lt_of_le hk g1.size) hne).trans (g1.block k hk hne)⟩

theorem row_full {w : World} {B e size g n cap : Nat} {xs : List Value} (h : w.ownsRow B e size (.slice (some ⟨g, 0, none⟩) n cap) n xs) :
    ∃ cur : List Value, cur.take (n * size) = xs ∧ n ≤ cap ∧ cap ≤ maxLen ∧ cur.length = cap * size ∧ w.ownsRow B e size (.slice (some ⟨g, 0, none⟩) cap cap) cap cur := by
  rcases h.2 with ⟨h', _⟩ | ⟨g', cap', cur, h', hb, hg, hnc, hcm, hcs, htake⟩
  · cases h'
  · cases h'
    exact ⟨cur.toList, htake, hnc, hcm, by simpa using hcs, by simpa using hcs, .inr ⟨_, _, cur, rfl, hb, hg, Nat.le_refl _, hcm, hcs, List.take_of_length_le (by simp [hcs])⟩⟩

theorem row_cut {w : World} {B e size g m cap : Nat} {ys : List Value} (h : w.ownsRow B e size (.slice (some ⟨g, 0, none⟩) m cap) m ys) (n : Nat) (hn : n ≤ m) :
    w.ownsRow B e size (.slice (some ⟨g, 0, none⟩) n cap) n (ys.take (n * size)) := by
  rcases h.2 with ⟨h', _⟩ | ⟨g', cap', cur, h', hb, hg, hnc, hcm, hcs, htake⟩
  · cases h'
  · cases h'
    have hm : n * size ≤ m * size := Nat.mul_le_mul_right _ hn
    refine ⟨by rw [List.length_take, h.1]; omega, .inr ⟨_, _, cur, rfl, hb, hg, by omega, hcm, hcs, ?_⟩⟩
    rw [← htake, List.take_take, Nat.min_eq_left hm]

/-- A tree in rows of its own: the vertices' row, and the rows of the Lates of the first j. -/
structure OwnT (B : Nat) (w : World) (v : Value) (t : Tree) (hs : List Value) (j : Nat) : Prop where
  len : hs.length = t.length
  row : w.ownsRow B 24 6 v t.length (flatV t hs)
  late : ∀ (x : Nat) (u : PV) (h : Value), x < j → t[x]? = some u → hs[x]? = some h → OwnI B w h u.late
  apart : ∀ (x : Nat) (h : Value) (k : Nat), x < j → hs[x]? = some h → h.ownBlock = some k → v.ownBlock ≠ some k ∧ ∀ (y : Nat) (h' : Value), y < j → y ≠ x → hs[y]? = some h' → h'.ownBlock ≠ some k

theorem OwnT.form {B : Nat} {w : World} {v : Value} {t : Tree} {hs : List Value} {j : Nat} (h : OwnT B w v t hs j) (hne : 0 < t.length) : ∃ g cap, v = .slice (some ⟨g, 0, none⟩) t.length cap ∧ B ≤ g ∧ g < w.heap.size := by
  rcases h.row.2 with ⟨_, h0⟩ | ⟨g, cap, cur, e, hb, hg, _⟩
  · omega
  · exact ⟨g, cap, e, hb, (Array.getElem?_eq_some_iff.1 hg).1⟩

theorem OwnT.vat {B : Nat} {w : World} {g cap : Nat} {t : Tree} {hs : List Value} {j : Nat} (h : OwnT B w (.slice (some ⟨g, 0, none⟩) t.length cap) t hs j) {x : Nat} {u : PV} {a : Value} (hu : t[x]? = some u) (ha : hs[x]? = some a) :
    w.cell? ⟨g, x * 6, none⟩ = some (.bool u.full) ∧ w.cell? ⟨g, x * 6 + 1, none⟩ = some (.int .i64 u.key) ∧ w.cell? ⟨g, x * 6 + 2, none⟩ = some (.int .i64 u.client) ∧ w.cell? ⟨g, x * 6 + 3, none⟩ = some (.int .i64 u.sig) ∧ w.cell? ⟨g, x * 6 + 4, none⟩ = some (.int .i64 u.hash) ∧ w.cell? ⟨g, x * 6 + 5, none⟩ = some a := by
  have hx := (List.getElem?_eq_some_iff.1 hu).1
  have hc : ∀ r, r < 6 → w.cell? ⟨g, x * 6 + r, none⟩ = (vcells u a)[r]? := fun r hr => by
    rw [h.row.cellAt (x * 6 + r) (by omega), flatV_get u a t hs x hu ha r hr]
  exact ⟨hc 0 (by omega), hc 1 (by omega), hc 2 (by omega), hc 3 (by omega), hc 4 (by omega), hc 5 (by omega)⟩

theorem OwnT.head {B : Nat} {w : World} {v : Value} {t : Tree} {hs : List Value} {j : Nat} (h : OwnT B w v t hs j) {x : Nat} (hx : x < t.length) : ∃ a, hs[x]? = some a :=
  ⟨hs[x]'(by rw [h.len]; exact hx), by simp⟩

/-- Made, it is read as any tree. -/
theorem OwnT.tree {B : Nat} {w : World} {v : Value} {t : Tree} {hs : List Value} (h : OwnT B w v t hs t.length) (hl : t.length ≤ 127) (hlate : ∀ (x : Nat) (u : PV), t[x]? = some u → (u.late.length : Int) ≤ 9223372036854775807) : TreeAt w v t := by
  by_cases hne : 0 < t.length
  · obtain ⟨g, cap, rfl, hb, hg⟩ := h.form hne
    refine ⟨_, cap, rfl, by omega, fun _ => ⟨g, 0, rfl, hg, fun x u hu => ?_⟩⟩
    have hx := (List.getElem?_eq_some_iff.1 hu).1
    obtain ⟨a, ha⟩ := h.head hx
    obtain ⟨c0, c1, c2, c3, c4, c5⟩ := h.vat hu ha
    rw [Nat.zero_add]
    exact ⟨a, c0, c1, c2, c3, c4, c5, ownsRow_ints (h.late x u a hx hu ha) (hlate x u hu)⟩
  · have : t = [] := List.eq_nil_of_length_eq_zero (by omega)
    subst this
    rcases h.row.2 with ⟨rfl, _⟩ | ⟨g, cap, cur, e, _⟩
    · exact ⟨none, 0, rfl, by simp, fun h => absurd rfl h⟩
    · exact ⟨_, cap, e, by simp, fun h => absurd rfl h⟩

/-- Blocks that are not the tree's own may turn. -/
theorem OwnT.kept {B : Nat} {w w' : World} {v : Value} {t : Tree} {hs : List Value} {j : Nat} (h : OwnT B w v t hs j) (hj : j ≤ t.length) (hg : w.grownBy w' none) : OwnT B w' v t hs j :=
  ⟨h.len, h.row.kept hg (by cases v.ownBlock <;> simp), fun x u a hx hu ha => (h.late x u a hx hu ha).kept hg (by cases a.ownBlock <;> simp), h.apart⟩

theorem OwnT.below {B : Nat} {w w' : World} {v : Value} {t : Tree} {hs : List Value} {j : Nat} (h : OwnT B w v t hs j) (hj : j ≤ t.length) (hg : Below w.heap.size w w') : OwnT B w' v t hs j := h.kept hj (Below.grownNone hg)

/-- A vertex without Late put at a place. -/
theorem OwnT.setV {B : Nat} {w : World} {g cap : Nat} {t : Tree} {hs : List Value} (h : OwnT B w (.slice (some ⟨g, 0, none⟩) t.length cap) t hs t.length) {x : Nat} (hx : x < t.length) (u' : PV) (hu : u'.late = []) :
    OwnT B (w.setCells g (x * 6) (vcells u' (.slice none 0 0))) (.slice (some ⟨g, 0, none⟩) t.length cap) (t.set x u') (hs.set x (.slice none 0 0)) t.length ∧ w.grownBy (w.setCells g (x * 6) (vcells u' (.slice none 0 0))) (some g) := by
  obtain ⟨h1, h2⟩ := stored_all (w := w) (vcells u' (.slice none 0 0)) (x * 6) w _ h.row
  rw [flatV_setV u' _ t hs x hx h.len] at h1
  refine ⟨⟨by simp [h.len], by simpa using h1, fun y u a hy hu' ha => ?_, fun y a k hy ha hk => ?_⟩, h2⟩
  · by_cases hyx : y = x
    · subst hyx
      simp [hx] at hu'
      simp [h.len, hx] at ha
      subst hu'; subst ha
      rw [OwnI, hu]
      exact World.ownsRow_nil _ _ _ _
    · rw [List.getElem?_set_ne (by omega)] at hu' ha
      refine (h.late y u a hy hu' ha).kept h2 ?_
      cases ho : a.ownBlock with
      | none => exact .inl rfl
      | some k => exact .inr (fun e => (h.apart y a k hy ha ho).1 (by cases e; rfl))
  · by_cases hyx : y = x
    · subst hyx
      simp [h.len, hx] at ha
      subst ha
      simp [Value.ownBlock] at hk
    · rw [List.getElem?_set_ne (by omega)] at ha
      refine ⟨(h.apart y a k hy ha hk).1, fun z a' hz hzy ha' => ?_⟩
      by_cases hzx : z = x
      · subst hzx
        simp [h.len, hx] at ha'
        subst ha'
        simp [Value.ownBlock]
      · rw [List.getElem?_set_ne (by omega)] at ha'
        exact (h.apart y a k hy ha hk).2 z a' hz hzy ha'

theorem flatV_late (l : List Int) (u : PV) : ∀ (t : Tree) (hs : List Value) (x : Nat), t[x]? = some u → flatV (t.set x { u with late := l }) hs = flatV t hs
  | [], hs, x, h => by simp at h
  | u' :: t, [], x, h => by cases x <;> simp [flatV]
  | u' :: t, a :: hs, 0, h => by
    simp at h; subst h
    simp [flatV, vcells]
  | u' :: t, a :: hs, x + 1, h => by
    have := flatV_late l u t hs x (by simpa using h)
    simp [flatV, this]

/-- Another Late put at a place: in a row that is nobody else's. -/
theorem OwnT.setL {B : Nat} {w w1 : World} {g cap : Nat} {t : Tree} {hs : List Value} {j : Nat} (h : OwnT B w (.slice (some ⟨g, 0, none⟩) t.length cap) t hs j) (hj : j ≤ t.length) {x : Nat} (hx : x < t.length) {a a' : Value} (ha : hs[x]? = some a) {u : PV} (hu : t[x]? = some u) (l : List Int)
    (hg : w.grownBy w1 (if x < j then a.ownBlock else none)) (ho : OwnI B w1 a' l) (hl : (x < j ∧ a'.ownBlock = a.ownBlock) ∨ a'.ownBlock = none ∨ ∃ N, a'.ownBlock = some N ∧ w.heap.size ≤ N) (j' : Nat) (hj' : j' = j ∨ (j' = j + 1 ∧ x = j)) (hxj : x < j') :
    OwnT B (w1.setCell ⟨g, x * 6 + 5, none⟩ a') (.slice (some ⟨g, 0, none⟩) t.length cap) (t.set x { u with late := l }) (hs.set x a') j' ∧ w1.grownBy (w1.setCell ⟨g, x * 6 + 5, none⟩ a') (some g) := by
  have hgw : g < w.heap.size := by
    obtain ⟨g', cap', e, _, hlt⟩ := h.form (by omega)
    cases e; exact hlt
  have lt_ : ∀ (y : Nat) (b : Value) (k : Nat), y < j → hs[y]? = some b → b.ownBlock = some k → k < w.heap.size := fun y b k hy hb hk => by
    have hyl : y < t.length := by omega
    exact ((h.late y _ b hy (vx_some hyl) hb).lt k hk).2
  -- the row's block is not the one that turned
  have hgne : (if x < j then a.ownBlock else none) ≠ some g := by
    split
    · rename_i hxj'
      intro e
      exact (h.apart x a g hxj' ha e).1 rfl
    · simp
  have hrow : w1.ownsRow B 24 6 (.slice (some ⟨g, 0, none⟩) t.length cap) t.length (flatV t hs) := h.row.kept hg (.inr (fun e => hgne e.symm))
  obtain ⟨r1, r2⟩ := hrow.stored (x * 6 + 5) a'
  rw [flatV_set5 a' t hs x hx h.len] at r1
  have e5 : flatV (t.set x { u with late := l }) (hs.set x a') = flatV t (hs.set x a') := flatV_late l u t (hs.set x a') x hu
  rw [← e5] at r1
  have jy : ∀ y, y < j' → y ≠ x → y < j := fun y h1 h2 => by omega
  have hag : a'.ownBlock ≠ some g := by
    intro e
    rcases hl with ⟨h1, h2⟩ | h2 | ⟨N, h2, h3⟩
    · exact (h.apart x a g h1 ha (h2 ▸ e)).1 rfl
    · rw [h2] at e; cases e
    · rw [h2] at e; cases e; omega
  have hab : ∀ (y : Nat) (b : Value) (k : Nat), y < j → y ≠ x → hs[y]? = some b → b.ownBlock = some k → a'.ownBlock ≠ some k := by
    intro y b k hy hyx hb hk e
    rcases hl with ⟨h1, h2⟩ | h2 | ⟨N, h2, h3⟩
    · exact (h.apart x a k h1 ha (h2 ▸ e)).2 y b hy hyx hb hk
    · rw [h2] at e; cases e
    · rw [h2] at e; cases e
      have := lt_ y b _ hy hb hk
      omega
  refine ⟨⟨by simp [h.len], by simpa using r1, fun y v b hy hv hb => ?_, fun y b k hy hb hk => ?_⟩, r2⟩
  · by_cases hyx : y = x
    · subst hyx
      simp [hx] at hv
      simp [h.len, hx] at hb
      subst hv; subst hb
      exact World.ownsRow.kept ho r2 (.inr hag)
    · rw [List.getElem?_set_ne (by omega)] at hv hb
      have hyj := jy y hy hyx
      have k1 := (h.late y v b hyj hv hb).kept hg (by
        cases hbo : b.ownBlock with
        | none => exact .inl rfl
        | some k =>
          refine .inr (fun e => ?_)
          split at e
          · rename_i hxj'
            exact (h.apart y b k hyj hb hbo).2 x a hxj' (by omega) ha e.symm
          · cases e)
      refine k1.kept r2 ?_
      cases hbo : b.ownBlock with
      | none => exact .inl rfl
      | some k => exact .inr (fun e => (h.apart y b k hyj hb hbo).1 (by cases e; rfl))
  · by_cases hyx : y = x
    · subst hyx
      simp [h.len, hx] at hb
      subst hb
      refine ⟨fun e => hag (by rw [hk]; exact e.symm), fun z b' hz hzx hb' e => ?_⟩
      rw [List.getElem?_set_ne (by omega)] at hb'
      exact hab z b' k (jy z hz hzx) hzx hb' e hk
    · rw [List.getElem?_set_ne (by omega)] at hb
      have hyj := jy y hy hyx
      refine ⟨(h.apart y b k hyj hb hk).1, fun z b' hz hzy hb' e => ?_⟩
      by_cases hzx : z = x
      · subst hzx
        simp [h.len, hx] at hb'
        subst hb'
        exact hab y b k hyj hyx hb hk e
      · rw [List.getElem?_set_ne (by omega)] at hb'
        exact (h.apart y b k hyj hb hk).2 z b' (jy z hz hzx) hzy hb' e

end Go.Proofs.YtdnopkpoepdihaaDoor
