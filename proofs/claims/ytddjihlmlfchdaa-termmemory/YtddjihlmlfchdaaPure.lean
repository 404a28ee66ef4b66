/-
  Plain facts on lists of nodes: what Make leaves.
-/
import Derived.Test.YtddjihlmlfchdaaAnchor
namespace Go.Proofs.Ytddjihlmlfchdaa
open Go.RowKit
set_option linter.unusedSimpArgs false
set_option linter.unusedVariables false

theorem findN_none (n : Nd) : ∀ (ns : List Nd) (i : Nat), findN n ns i = none ↔ n ∉ ns
  | [], i => by simp [findN]
  | m :: r, i => by
    simp only [findN, List.mem_cons, not_or]
    cases hb : n.beq m
    · simp only [Bool.false_eq_true, if_false]
      rw [findN_none n r (i + 1)]
      have : n ≠ m := fun e => by rw [(Nd.beq_iff n m).2 e] at hb; cases hb
      simp [this]
    · simp [(Nd.beq_iff n m).1 hb]

theorem findN_some (n : Nd) : ∀ (ns : List Nd) (i j : Nat), findN n ns i = some j → i ≤ j ∧ ns[j - i]? = some n
  | [], i, j, h => by simp [findN] at h
  | m :: r, i, j, h => by
    simp only [findN] at h
    cases hb : n.beq m
    · rw [hb] at h
      simp only [Bool.false_eq_true, if_false] at h
      obtain ⟨h1, h2⟩ := findN_some n r (i + 1) j h
      refine ⟨by omega, ?_⟩
      rw [show j - i = (j - (i + 1)) + 1 from by omega]
      simpa using h2
    · rw [hb] at h
      simp at h
      subst h
      simp [(Nd.beq_iff n m).1 hb]

/-- The four ways of Make. -/
theorem makeF_cases (ns : List Nd) (n : Nd) :
    (fitsB ns n = false ∧ makeF ns n = (0, 10, ns)) ∨
    (fitsB ns n = true ∧ ∃ j : Nat, ns[j]? = some n ∧ makeF ns n = (((j + 1 : Nat) : Int), 0, ns)) ∨
    (fitsB ns n = true ∧ n ∉ ns ∧ 262144 ≤ ns.length ∧ makeF ns n = (0, 11, ns)) ∨
    (fitsB ns n = true ∧ n ∉ ns ∧ ns.length < 262144 ∧ makeF ns n = (((ns.length + 1 : Nat) : Int), 0, ns ++ [n])) := by
  unfold makeF
  cases hf : fitsB ns n
  · simp
  · rw [if_pos rfl]
    cases hj : findN n ns 0 with
    | some j =>
      obtain ⟨_, h⟩ := findN_some n ns 0 j hj
      exact Or.inr (Or.inl ⟨rfl, j, by simpa using h, rfl⟩)
    | none =>
      have hn := (findN_none n ns 0).1 hj
      by_cases hl : 262144 ≤ ns.length
      · exact Or.inr (Or.inr (Or.inl ⟨rfl, hn, hl, by simp [hl]⟩))
      · exact Or.inr (Or.inr (Or.inr ⟨rfl, hn, by omega, by simp [hl]⟩))

/-- Every node was made behind those ahead of it. -/
def Wf (ns : List Nd) : Prop := ∀ i n, ns[i]? = some n → fitsB (ns.take i) n = true ∧ n ∉ ns.take i

theorem Wf.nil : Wf [] := fun i n h => by simp at h

theorem Wf.snoc {ns : List Nd} {n : Nd} (h : Wf ns) (hf : fitsB ns n = true) (hn : n ∉ ns) : Wf (ns ++ [n]) := by
  intro i m hm
  by_cases hi : i < ns.length
  · rw [List.getElem?_append_left hi] at hm
    rw [List.take_append_of_le_length (by omega)]
    exact h i m hm
  · rw [List.getElem?_append_right (by omega)] at hm
    have h0 : i - ns.length = 0 := by
      have := (List.getElem?_eq_some_iff.1 hm).1
      simp at this; omega
    rw [h0] at hm
    simp at hm
    subst hm
    rw [List.take_append_of_le_length (by omega), List.take_of_length_le (by omega)]
    exact ⟨hf, hn⟩

theorem Wf.make {ns : List Nd} (h : Wf ns) (n : Nd) : Wf (makeF ns n).2.2 := by
  rcases makeF_cases ns n with ⟨_, e⟩ | ⟨_, j, _, e⟩ | ⟨_, _, _, e⟩ | ⟨hf, hn, _, e⟩ <;> rw [e]
  · exact h
  · exact h
  · exact h
  · exact h.snoc hf hn

theorem makeF_prefix (ns : List Nd) (n : Nd) : ns <+: (makeF ns n).2.2 := by
  rcases makeF_cases ns n with ⟨_, e⟩ | ⟨_, j, _, e⟩ | ⟨_, _, _, e⟩ | ⟨hf, hn, _, e⟩ <;> rw [e]
  · exact List.prefix_refl _
  · exact List.prefix_refl _
  · exact List.prefix_refl _
  · exact List.prefix_append _ _

theorem hasB_iff (ns : List Nd) (t : Int) : hasB ns t = true ↔ 1 ≤ t ∧ t ≤ ns.length := by simp [hasB]

theorem nodeF_at {ns : List Nd} {i : Nat} {n : Nd} (h : ns[i]? = some n) : nodeF ns ((i + 1 : Nat) : Int) = n ∧ hasB ns ((i + 1 : Nat) : Int) = true := by
  have hi := (List.getElem?_eq_some_iff.1 h).1
  have hb : hasB ns ((i + 1 : Nat) : Int) = true := (hasB_iff _ _).2 (by omega)
  refine ⟨?_, hb⟩
  unfold nodeF
  rw [if_pos hb]
  simp [List.getD, h]

theorem nodeF_kind_has {ns : List Nd} {t : Int} (h : (nodeF ns t).kind ≠ 0) : hasB ns t = true := by
  unfold nodeF at h
  split at h
  · assumption
  · simp [Nd.zero] at h

/-- What a node of a made list is: its kind, and that its parts are lower. -/
theorem Wf.parts {ns : List Nd} (h : Wf ns) {i : Nat} {n : Nd} (hi : ns[i]? = some n) :
    1 ≤ n.kind ∧ n.kind ≤ 9 ∧ 0 ≤ n.b ∧ n.b ≤ i ∧ (n.kind ≠ 1 → n.kind ≠ 2 → 1 ≤ n.a ∧ n.a ≤ i) := by
  have hil := (List.getElem?_eq_some_iff.1 hi).1
  have hf := (h i n hi).1
  have hlen : (ns.take i).length = i := by simp; omega
  have hasL : ∀ t, hasB (ns.take i) t = true → 1 ≤ t ∧ t ≤ i := fun t ht => by
    have := (hasB_iff _ _).1 ht
    rw [hlen] at this
    exact this
  unfold fitsB at hf
  repeat' split at hf
  all_goals simp only [Bool.and_eq_true, decide_eq_true_eq, beq_iff_eq, Bool.false_eq_true] at hf
  case isTrue h1 => exact ⟨by omega, by omega, by omega, by omega, fun h => absurd h1 h⟩
  case isFalse.isTrue h1 => exact ⟨by omega, by omega, by omega, by omega, fun _ h => absurd h1 h⟩
  case isFalse.isFalse.isTrue h1 => have a := hasL _ hf.2.1; have b := hasL _ hf.2.2; exact ⟨by omega, by omega, by omega, by omega, fun _ _ => a⟩
  case isFalse.isFalse.isFalse.isTrue h1 => have a := hasL _ hf.2.1; exact ⟨by omega, by omega, by omega, by omega, fun _ _ => a⟩
  case isFalse.isFalse.isFalse.isFalse.isTrue h1 => have a := hasL _ hf.2.1; have b := hasL _ hf.2.2; exact ⟨by omega, by omega, by omega, by omega, fun _ _ => a⟩
  case isFalse.isFalse.isFalse.isFalse.isFalse.isTrue h1 => have a := hasL _ hf.2.1; exact ⟨by omega, by omega, by omega, by omega, fun _ _ => a⟩
  case isFalse.isFalse.isFalse.isFalse.isFalse.isFalse.isTrue h1 => have a := hasL _ hf.2.1; have b := hasL _ hf.2.2; exact ⟨by omega, by omega, by omega, by omega, fun _ _ => a⟩
  case isFalse.isFalse.isFalse.isFalse.isFalse.isFalse.isFalse.isTrue h1 =>
    have a := hasL _ (nodeF_kind_has (by rw [hf.2.1]; decide))
    have b := hasL _ hf.2.2
    exact ⟨by omega, by omega, by omega, by omega, fun _ _ => a⟩
  case isFalse.isFalse.isFalse.isFalse.isFalse.isFalse.isFalse.isFalse.isTrue h1 => have a := hasL _ hf.2.1; have b := hasL _ hf.2.2; exact ⟨by omega, by omega, by omega, by omega, fun _ _ => a⟩

theorem Wf.inj {ns : List Nd} (h : Wf ns) {i j : Nat} {n : Nd} (hi : ns[i]? = some n) (hj : ns[j]? = some n) : i = j := by
  have key : ∀ i j : Nat, i < j → ns[i]? = some n → ns[j]? = some n → False := by
    intro i j hlt hi hj
    refine (h j n hj).2 ?_
    rw [List.mem_iff_getElem?]
    exact ⟨i, by rw [List.getElem?_take, if_pos hlt]; exact hi⟩
  rcases Nat.lt_trichotomy i j with hlt | he | hgt
  · exact (key i j hlt hi hj).elim
  · exact he
  · exact (key j i hgt hj hi).elim

theorem nodeF_inv {ns : List Nd} {t : Int} (h : hasB ns t = true) : ∃ i : Nat, t = (i + 1 : Nat) ∧ ns[i]? = some (nodeF ns t) := by
  obtain ⟨h1, h2⟩ := (hasB_iff _ _).1 h
  refine ⟨t.toNat - 1, by omega, ?_⟩
  unfold nodeF
  rw [if_pos h]
  have : t.toNat - 1 < ns.length := by omega
  simp [List.getD, this]

/-- One node, one number. -/
theorem Wf.number {ns : List Nd} (h : Wf ns) {t u : Int} (ht : hasB ns t = true) (hu : hasB ns u = true) (he : nodeF ns t = nodeF ns u) : t = u := by
  obtain ⟨i, rfl, hi⟩ := nodeF_inv ht
  obtain ⟨j, rfl, hj⟩ := nodeF_inv hu
  rw [he] at hi
  rw [h.inj hi hj]

/-- What is known behind a making that went well. -/
structure Made (ns ns' : List Nd) (t : Int) (n : Nd) : Prop where
  pre : ns <+: ns'
  len : ns'.length ≤ ns.length + 1
  node : nodeF ns' t = n
  has : hasB ns' t = true
  wf : Wf ns'

theorem prefix_keeps {ns ns' : List Nd} (h : ns <+: ns') {t : Int} (ht : hasB ns t = true) : hasB ns' t = true ∧ nodeF ns' t = nodeF ns t := by
  obtain ⟨i, rfl, hi⟩ := nodeF_inv ht
  obtain ⟨r, rfl⟩ := h
  have hil := (List.getElem?_eq_some_iff.1 hi).1
  have h2 : (ns ++ r)[i]? = some (nodeF ns ((i + 1 : Nat) : Int)) := by rw [List.getElem?_append_left hil]; exact hi
  exact ⟨(nodeF_at h2).2, (nodeF_at h2).1⟩

theorem Made.keeps {ns ns' : List Nd} {t : Int} {n : Nd} (h : Made ns ns' t n) {u : Int} (hu : hasB ns u = true) : hasB ns' u = true ∧ nodeF ns' u = nodeF ns u := prefix_keeps h.pre hu

theorem makeF_ok {ns : List Nd} {n : Nd} (hw : Wf ns) (hf : fitsB ns n = true) (hl : (ns.length : Int) < 262144) : ∃ t ns', makeF ns n = (t, 0, ns') ∧ Made ns ns' t n := by
  rcases makeF_cases ns n with ⟨h, _⟩ | ⟨_, j, hj, e⟩ | ⟨_, _, h, _⟩ | ⟨_, hn, _, e⟩
  · rw [hf] at h; cases h
  · exact ⟨_, _, e, List.prefix_refl _, by omega, (nodeF_at hj).1, (nodeF_at hj).2, hw⟩
  · omega
  · have hx : (ns ++ [n])[ns.length]? = some n := by simp
    exact ⟨_, _, e, List.prefix_append _ _, by simp, (nodeF_at hx).1, (nodeF_at hx).2, hw.snoc hf hn⟩

def nSeal (a b : Int) : Nd := ⟨7, ⟨#[]⟩, a, b⟩
def nSign (a b : Int) : Nd := ⟨9, ⟨#[]⟩, a, b⟩

theorem emptyB_nil : emptyB ⟨#[]⟩ = true := by simp [emptyB]
theorem emptyB_eq {l : ByteArray} (h : emptyB l = true) : l = ⟨#[]⟩ := by
  unfold emptyB at h
  rw [ByteArray.toList_eq, List.isEmpty_iff] at h
  cases l with | mk d =>
  simp at h
  simp [h]

theorem fits_text (ns : List Nd) {l : ByteArray} (h : l.size ≤ 1024) : fitsB ns (nText l) = true := by simp [fitsB, nText, h]
theorem fits_pub {ns : List Nd} {a : Int} (h : hasB ns a = true) : fitsB ns (nPub a) = true := by simp [fitsB, nPub, emptyB_nil, h]
theorem fits_pair {ns : List Nd} {a b : Int} (h : hasB ns a = true) (h2 : hasB ns b = true) : fitsB ns (nPair a b) = true := by simp [fitsB, nPair, emptyB_nil, h, h2]
theorem fits_seal {ns : List Nd} {a b : Int} (h : hasB ns a = true) (h2 : hasB ns b = true) : fitsB ns (nSeal a b) = true := by simp [fitsB, nSeal, emptyB_nil, h, h2]
theorem fits_sign {ns : List Nd} {a b : Int} (h : hasB ns a = true) (h2 : hasB ns b = true) : fitsB ns (nSign a b) = true := by simp [fitsB, nSign, emptyB_nil, h, h2]
theorem fits_box {ns : List Nd} {a b : Int} (h : (nodeF ns a).kind = 6) (h2 : hasB ns b = true) : fitsB ns (nBox a b) = true := by simp [fitsB, nBox, emptyB_nil, h, h2]
theorem fits_atom (ns : List Nd) {a : Int} (h : 1 ≤ a) (h2 : a ≤ 1099511627776) : fitsB ns (atom a) = true := by simp [fitsB, atom, emptyB_nil, h, h2]

/-- A made node of a kind without a label has none. -/
theorem Wf.label {ns : List Nd} (h : Wf ns) {t : Int} (ht : hasB ns t = true) (hk : (nodeF ns t).kind = 9) : (nodeF ns t).label = ⟨#[]⟩ := by
  obtain ⟨i, rfl, hi⟩ := nodeF_inv ht
  have hf := (h i _ hi).1
  unfold fitsB at hf
  rw [hk] at hf
  simp only [show (9 : Int) ≠ 1 from by decide, show (9 : Int) ≠ 2 from by decide, show (9 : Int) ≠ 3 from by decide, show (9 : Int) ≠ 4 from by decide, show (9 : Int) ≠ 5 from by decide, show (9 : Int) ≠ 6 from by decide, show (9 : Int) ≠ 7 from by decide, show (9 : Int) ≠ 8 from by decide, if_false, if_true, Bool.and_eq_true] at hf
  exact emptyB_eq hf.1

end Go.Proofs.Ytddjihlmlfchdaa
