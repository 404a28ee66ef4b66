/-
  The store, pure: what Make leaves; lists.
-/
import Derived.Test.YtcfmagmhnemhaaaMC
import Derived.Maps.AppendAt
namespace Go.Proofs.Ytcfmagmhnemhaaa
open Go.RowKit
set_option linter.unusedSimpArgs false
set_option linter.unusedVariables false

/-- A store that the call itself made: it and all of its blocks are new since w0. -/
structure Mine (w0 : World) (s : Nat) (w : World) (ns : List Nd) (dr : Int) : Prop where
  st : StoreAt w s ns dr
  below : Below w0.heap.size w0 w
  own : ∀ k, Own w s k → w0.heap.size ≤ k

theorem Mine.moved {w0 w w' : World} {s : Nat} {ns ns' : List Nd} {dr dr' : Int} (h : Mine w0 s w ns dr) (hs : StoreAt w' s ns' dr') (hm : Moved s w w') : Mine w0 s w' ns' dr' := by
  have hsz := h.below.size
  refine ⟨hs, h.below.trans ⟨hm.os, hm.tape, hm.output, hm.size, fun k hk => hm.block k (by omega) (fun ho => by have := h.own k ho; omega)⟩, fun k hk => ?_⟩
  rcases hm.own k hk with ho | hge
  · exact h.own k ho
  · omega

def nText (l : ByteArray) : Nd := ⟨2, l, 0, 0⟩

def nPair (a b : Int) : Nd := ⟨3, ⟨#[]⟩, a, b⟩

theorem findN_none (n : Nd) : ∀ (ns : List Nd) (i : Nat), findN n ns i = none ↔ n ∉ ns
  | [], i => by simp [findN]
  | m :: r, i => by
    simp only [findN, List.mem_cons, not_or]
    cases hb : n.beq m
    · simp only [Bool.false_eq_true, if_false]
      rw [findN_none n r (i + 1)]
      have : n ≠ m := fun e => by rw [(Nd.beq_iff n m).2 e] at hb; cases hb
      simp [this]
    · simp [(Nd.beq_iff n m).1 hb]

theorem findN_some (n : Nd) : ∀ (ns : List Nd) (i j : Nat), findN n ns i = some j → i ≤ j ∧ ns[j - i]? = some n
  | [], i, j, h => by simp [findN] at h
  | m :: r, i, j, h => by
    simp only [findN] at h
    cases hb : n.beq m
    · rw [hb] at h
      simp only [Bool.false_eq_true, if_false] at h
      obtain ⟨h1, h2⟩ := findN_some n r (i + 1) j h
      refine ⟨by omega, ?_⟩
      rw [show j - i = (j - (i + 1)) + 1 from by omega]
      simpa using h2
    · rw [hb] at h
      simp at h
      subst h
      simp [(Nd.beq_iff n m).1 hb]

/-- The four ways of Make. -/
theorem makeF_cases (ns : List Nd) (n : Nd) :
    (fitsB ns n = false ∧ makeF ns n = (0, 10, ns)) ∨
    (fitsB ns n = true ∧ ∃ j : Nat, ns[j]? = some n ∧ makeF ns n = (((j + 1 : Nat) : Int), 0, ns)) ∨
    (fitsB ns n = true ∧ n ∉ ns ∧ 262144 ≤ ns.length ∧ makeF ns n = (0, 11, ns)) ∨
    (fitsB ns n = true ∧ n ∉ ns ∧ ns.length < 262144 ∧ makeF ns n = (((ns.length + 1 : Nat) : Int), 0, ns ++ [n])) := by
  unfold makeF
  cases hf : fitsB ns n
  · simp
  · rw [if_pos rfl]
    cases hj : findN n ns 0 with
    | some j =>
      obtain ⟨_, h⟩ := findN_some n ns 0 j hj
      exact Or.inr (Or.inl ⟨rfl, j, by simpa using h, rfl⟩)
    | none =>
      have hn := (findN_none n ns 0).1 hj
      by_cases hl : 262144 ≤ ns.length
      · exact Or.inr (Or.inr (Or.inl ⟨rfl, hn, hl, by simp [hl]⟩))
      · exact Or.inr (Or.inr (Or.inr ⟨rfl, hn, by omega, by simp [hl]⟩))

/-- Every node was made behind those ahead of it. -/
def Wf (ns : List Nd) : Prop := ∀ i n, ns[i]? = some n → fitsB (ns.take i) n = true ∧ n ∉ ns.take i

theorem Wf.nil : Wf [] := fun i n h => by simp at h

theorem Wf.snoc {ns : List Nd} {n : Nd} (h : Wf ns) (hf : fitsB ns n = true) (hn : n ∉ ns) : Wf (ns ++ [n]) := by
  intro i m hm
  by_cases hi : i < ns.length
  · rw [List.getElem?_append_left hi] at hm
    rw [List.take_append_of_le_length (by omega)]
    exact h i m hm
  · rw [List.getElem?_append_right (by omega)] at hm
    have h0 : i - ns.length = 0 := by
      have := (List.getElem?_eq_some_iff.1 hm).1
      simp at this; omega
    rw [h0] at hm
    simp at hm
    subst hm
    rw [List.take_append_of_le_length (by omega), List.take_of_length_le (by omega)]
    exact ⟨hf, hn⟩

theorem Wf.make {ns : List Nd} (h : Wf ns) (n : Nd) : Wf (makeF ns n).2.2 := by
  rcases makeF_cases ns n with ⟨_, e⟩ | ⟨_, j, _, e⟩ | ⟨_, _, _, e⟩ | ⟨hf, hn, _, e⟩ <;> rw [e]
  · exact h
  · exact h
  · exact h
  · exact h.snoc hf hn

theorem hasB_iff (ns : List Nd) (t : Int) : hasB ns t = true ↔ 1 ≤ t ∧ t ≤ ns.length := by simp [hasB]

theorem nodeF_at {ns : List Nd} {i : Nat} {n : Nd} (h : ns[i]? = some n) : nodeF ns ((i + 1 : Nat) : Int) = n ∧ hasB ns ((i + 1 : Nat) : Int) = true := by
  have hi := (List.getElem?_eq_some_iff.1 h).1
  have hb : hasB ns ((i + 1 : Nat) : Int) = true := (hasB_iff _ _).2 (by omega)
  refine ⟨?_, hb⟩
  unfold nodeF
  rw [if_pos hb]
  simp [List.getD, h]

theorem Wf.inj {ns : List Nd} (h : Wf ns) {i j : Nat} {n : Nd} (hi : ns[i]? = some n) (hj : ns[j]? = some n) : i = j := by
  have key : ∀ i j : Nat, i < j → ns[i]? = some n → ns[j]? = some n → False := by
    intro i j hlt hi hj
    refine (h j n hj).2 ?_
    rw [List.mem_iff_getElem?]
    exact ⟨i, by rw [List.getElem?_take, if_pos hlt]; exact hi⟩
  rcases Nat.lt_trichotomy i j with hlt | he | hgt
  · exact (key i j hlt hi hj).elim
  · exact he
  · exact (key j i hgt hj hi).elim

theorem nodeF_inv {ns : List Nd} {t : Int} (h : hasB ns t = true) : ∃ i : Nat, t = (i + 1 : Nat) ∧ ns[i]? = some (nodeF ns t) := by
  obtain ⟨h1, h2⟩ := (hasB_iff _ _).1 h
  refine ⟨t.toNat - 1, by omega, ?_⟩
  unfold nodeF
  rw [if_pos h]
  have : t.toNat - 1 < ns.length := by omega
  simp [List.getD, this]

/-- One node, one number. -/
theorem Wf.number {ns : List Nd} (h : Wf ns) {t u : Int} (ht : hasB ns t = true) (hu : hasB ns u = true) (he : nodeF ns t = nodeF ns u) : t = u := by
  obtain ⟨i, rfl, hi⟩ := nodeF_inv ht
  obtain ⟨j, rfl, hj⟩ := nodeF_inv hu
  rw [he] at hi
  rw [h.inj hi hj]

/-- What is known behind a making that went well. -/
structure Mk1 (ns ns' : List Nd) (t : Int) (n : Nd) : Prop where
  pre : ns <+: ns'
  len : ns'.length ≤ ns.length + 1
  node : nodeF ns' t = n
  has : hasB ns' t = true
  wf : Wf ns'

theorem prefix_keeps {ns ns' : List Nd} (h : ns <+: ns') {t : Int} (ht : hasB ns t = true) : hasB ns' t = true ∧ nodeF ns' t = nodeF ns t := by
  obtain ⟨i, rfl, hi⟩ := nodeF_inv ht
  obtain ⟨r, rfl⟩ := h
  have hil := (List.getElem?_eq_some_iff.1 hi).1
  have h2 : (ns ++ r)[i]? = some (nodeF ns ((i + 1 : Nat) : Int)) := by rw [List.getElem?_append_left hil]; exact hi
  exact ⟨(nodeF_at h2).2, (nodeF_at h2).1⟩

theorem Mk1.keeps {ns ns' : List Nd} {t : Int} {n : Nd} (h : Mk1 ns ns' t n) {u : Int} (hu : hasB ns u = true) : hasB ns' u = true ∧ nodeF ns' u = nodeF ns u := prefix_keeps h.pre hu

theorem makeF_ok {ns : List Nd} {n : Nd} (hw : Wf ns) (hf : fitsB ns n = true) (hl : (ns.length : Int) < 262144) : ∃ t ns', makeF ns n = (t, 0, ns') ∧ Mk1 ns ns' t n := by
  rcases makeF_cases ns n with ⟨h, _⟩ | ⟨_, j, hj, e⟩ | ⟨_, _, h, _⟩ | ⟨_, hn, _, e⟩
  · rw [hf] at h; cases h
  · exact ⟨_, _, e, List.prefix_refl _, by omega, (nodeF_at hj).1, (nodeF_at hj).2, hw⟩
  · omega
  · have hx : (ns ++ [n])[ns.length]? = some n := by simp
    exact ⟨_, _, e, List.prefix_append _ _, by simp, (nodeF_at hx).1, (nodeF_at hx).2, hw.snoc hf hn⟩

theorem emptyB_nil : emptyB ⟨#[]⟩ = true := by simp [emptyB]

theorem emptyB_eq {l : ByteArray} (h : emptyB l = true) : l = ⟨#[]⟩ := by
  unfold emptyB at h
  rw [ByteArray.toList_eq, List.isEmpty_iff] at h
  cases l with | mk d =>
  simp at h
  simp [h]

theorem fits_text (ns : List Nd) {l : ByteArray} (h : l.size ≤ 1024) : fitsB ns (nText l) = true := by simp [fitsB, nText, h]

theorem fits_atom (ns : List Nd) {a : Int} (h : 1 ≤ a) (h2 : a ≤ 1099511627776) : fitsB ns (atom a) = true := by simp [fitsB, atom, emptyB_nil, h, h2]

/-- A made node of a kind without a label has none. -/
theorem Wf.label {ns : List Nd} (h : Wf ns) {t : Int} (ht : hasB ns t = true) (hk : (nodeF ns t).kind = 9) : (nodeF ns t).label = ⟨#[]⟩ := by
  obtain ⟨i, rfl, hi⟩ := nodeF_inv ht
  have hf := (h i _ hi).1
  unfold fitsB at hf
  rw [hk] at hf
  simp only [show (9 : Int) ≠ 1 from by decide, show (9 : Int) ≠ 2 from by decide, show (9 : Int) ≠ 3 from by decide, show (9 : Int) ≠ 4 from by decide, show (9 : Int) ≠ 5 from by decide, show (9 : Int) ≠ 6 from by decide, show (9 : Int) ≠ 7 from by decide, show (9 : Int) ≠ 8 from by decide, if_false, if_true, Bool.and_eq_true] at hf
  exact emptyB_eq hf.1

structure Side (w0 w : World) (s : Nat) (e size : Nat) (v : Value) (n : Nat) (xs : List Value) : Prop where
  own : w.ownsRow w0.heap.size e size v n xs
  free : ∀ g, v.ownBlock = some g → ¬ Own w s g

theorem Side.nil (w0 w : World) (s e size : Nat) : Side w0 w s e size (.slice none 0 0) 0 [] := ⟨World.ownsRow_nil _ _ _ _, fun g h => by simp [Value.ownBlock] at h⟩

theorem Side.moved {w0 w w' : World} {s e size n : Nat} {v : Value} {xs : List Value} (h : Side w0 w s e size v n xs) (hm : Moved s w w') : Side w0 w' s e size v n xs := by
  refine ⟨⟨h.own.1, ?_⟩, fun g hg ho => ?_⟩
  · rcases h.own.2 with hn | ⟨g, cap, cur, rfl, hb, hgg, rest⟩
    · exact Or.inl hn
    · refine Or.inr ⟨g, cap, cur, rfl, hb, ?_, rest⟩
      rw [hm.block g (Array.getElem?_eq_some_iff.1 hgg).1 (h.free g rfl)]
      exact hgg
  · have hlt := (h.own.lt g hg).2
    rcases hm.own g ho with h1 | h1
    · exact h.free g hg h1
    · omega

theorem Side.form {w0 w : World} {s e size n : Nat} {v : Value} {xs : List Value} (h : Side w0 w s e size v n xs) : ∃ a cap, v = .slice a n cap := by
  rcases h.own.2 with ⟨rfl, rfl⟩ | ⟨g, cap, cur, rfl, _⟩
  · exact ⟨_, _, rfl⟩
  · exact ⟨_, _, rfl⟩

/-- The cells of a node of the law's own slice. -/
theorem Side.node {w0 w : World} {s : Nat} {v : Value} {ns : List Nd} (h : Side w0 w s 48 4 v ns.length (flat ns)) {j : Nat} {n : Nd} (hj : ns[j]? = some n) :
    ∃ g cap, v = .slice (some ⟨g, 0, none⟩) ns.length cap ∧ g < w.heap.size ∧ w.cell? ⟨g, j * 4, none⟩ = some (.int .i64 n.kind) ∧ w.cell? ⟨g, j * 4 + 1, none⟩ = some (.string n.label) ∧ w.cell? ⟨g, j * 4 + 2, none⟩ = some (.int .i64 n.a) ∧ w.cell? ⟨g, j * 4 + 3, none⟩ = some (.int .i64 n.b) := by
  have hjl := (List.getElem?_eq_some_iff.1 hj).1
  rcases h.own.2 with ⟨_, h0⟩ | ⟨g, cap, cur, rfl, hb, hgg, rest⟩
  · omega
  · have c : ∀ r, r < 4 → w.cell? ⟨g, j * 4 + r, none⟩ = n.cells[r]? := fun r hr => by
      rw [World.ownsRow.cellAt h.own _ (by omega), flat_get n ns j hj r hr]
    exact ⟨g, cap, rfl, (Array.getElem?_eq_some_iff.1 hgg).1, c 0 (by omega), c 1 (by omega), c 2 (by omega), c 3 (by omega)⟩

theorem StoreAt.drewN {w : World} {s : Nat} {ns : List Nd} {dr : Int} (h : StoreAt w s ns dr) (n : Nat) : StoreAt (w.drewN n) s ns dr := h

theorem Mine.drewN {w0 w : World} {s : Nat} {ns : List Nd} {dr : Int} (h : Mine w0 s w ns dr) (n : Nat) : Mine w0 s (w.drewN n) ns dr := ⟨h.st, below_drewN h.below n, h.own⟩

theorem Side.drewN {w0 w : World} {s e size n : Nat} {v : Value} {xs : List Value} (h : Side w0 w s e size v n xs) (k : Nat) : Side w0 (w.drewN k) s e size v n xs := ⟨h.own, h.free⟩

theorem Moved.cell {s : Nat} {w w' : World} (h : Moved s w w') {b : Nat} (hb : b < w.heap.size) (hn : ¬ Own w s b) (o : Nat) : w'.cell? ⟨b, o, none⟩ = w.cell? ⟨b, o, none⟩ := World.cell?_of_block (h.block b hb hn)

theorem IntsAt.moved {w w' : World} {v : Value} {l : List Int} {s : Nat} (h : IntsAt w v l) (hf : ∀ b o sp n c, v = .slice (some ⟨b, o, sp⟩) n c → ¬ Own w s b) (hm : Moved s w w') : IntsAt w' v l := by
  obtain ⟨a, cap, rfl, hl, hc⟩ := h
  refine ⟨a, cap, rfl, hl, fun hne => ?_⟩
  obtain ⟨b, off, rfl, hlt, hcell⟩ := hc hne
  refine ⟨b, off, rfl, Nat.lt_of_lt_of_le hlt hm.size, fun i n hi => ?_⟩
  rw [hm.cell hlt (hf b off none _ _ rfl)]
  exact hcell i n hi

/-- The term t is the list of these. -/
def IsL (ns : List Nd) : Int → List Int → Prop
  | t, [] => hasB ns t = true ∧ nodeF ns t = nText ⟨#[]⟩
  | t, x :: r => hasB ns t = true ∧ ∃ u, nodeF ns t = nPair x u ∧ IsL ns u r

theorem IsL.has {ns : List Nd} {t : Int} {l : List Int} (h : IsL ns t l) : hasB ns t = true := by
  cases l <;> exact h.1

theorem IsL.keeps {ns ns' : List Nd} (hp : ns <+: ns') : ∀ {l : List Int} {t : Int}, IsL ns t l → IsL ns' t l
  | [], t, h => ⟨(prefix_keeps hp h.1).1, (prefix_keeps hp h.1).2.trans h.2⟩
  | x :: r, t, h => by
    obtain ⟨h1, u, h2, h3⟩ := h
    exact ⟨(prefix_keeps hp h1).1, u, (prefix_keeps hp h1).2.trans h2, IsL.keeps hp h3⟩

theorem IsL.inj {ns : List Nd} (hw : Wf ns) : ∀ {l : List Int} {t u : Int}, IsL ns t l → IsL ns u l → t = u
  | [], t, u, h, k => hw.number h.1 k.1 (h.2.trans k.2.symm)
  | x :: r, t, u, h, k => by
    obtain ⟨h1, a, h2, h3⟩ := h
    obtain ⟨k1, b, k2, k3⟩ := k
    have := IsL.inj hw h3 k3
    subst this
    exact hw.number h1 k1 (h2.trans k2.symm)

/-- The k first atoms. -/
def atoms : Nat → List Nd
  | 0 => []
  | k + 1 => atoms k ++ [atom ((k : Int) + 1)]

theorem atoms_length : ∀ k, (atoms k).length = k
  | 0 => rfl
  | k + 1 => by simp [atoms, atoms_length k]

theorem atoms_mem : ∀ (k : Nat) (n : Nd), n ∈ atoms k → ∃ i : Nat, i < k ∧ n = atom ((i : Int) + 1)
  | 0, n, h => by simp [atoms] at h
  | k + 1, n, h => by
    simp [atoms] at h
    rcases h with h | h
    · obtain ⟨i, hi, e⟩ := atoms_mem k n h
      exact ⟨i, by omega, e⟩
    · exact ⟨k, by omega, h⟩

theorem atoms_make (k : Nat) (hk : k ≤ 2000) : makeF (atoms k) (atom ((k : Int) + 1)) = ((k : Int) + 1, 0, atoms (k + 1)) := by
  have hf := fits_atom (atoms k) (a := (k : Int) + 1) (by omega) (by omega)
  have hn : atom ((k : Int) + 1) ∉ atoms k := fun h => by
    obtain ⟨i, hi, e⟩ := atoms_mem k _ h
    simp [atom] at e
    omega
  rcases makeF_cases (atoms k) (atom ((k : Int) + 1)) with ⟨h, _⟩ | ⟨_, j, hj, e⟩ | ⟨_, _, h, _⟩ | ⟨_, _, _, e⟩
  · rw [hf] at h; cases h
  · exact absurd (List.mem_of_getElem? hj) hn
  · rw [atoms_length] at h; omega
  · rw [e, atoms_length]
    simp [atoms]

theorem atoms_wf : ∀ k, k ≤ 2000 → Wf (atoms k)
  | 0, _ => Wf.nil
  | k + 1, hk => by
    have := (atoms_wf k (by omega)).make (atom ((k : Int) + 1))
    rw [atoms_make k (by omega)] at this
    exact this

end Go.Proofs.Ytcfmagmhnemhaaa
