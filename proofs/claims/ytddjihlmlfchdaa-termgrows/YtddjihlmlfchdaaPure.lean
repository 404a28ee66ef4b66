/-
  Plain facts on lists of nodes: what Make leaves.
-/
import Derived.Test.YtddjihlmlfchdaaAnchor
namespace Go.Proofs.Ytddjihlmlfchdaa
open Go.RowKit
set_option linter.unusedSimpArgs false
set_option linter.unusedVariables false

theorem findN_none (n : Nd) : ∀ (ns : List Nd) (i : Nat), findN n ns i = none ↔ n ∉ ns
  | [], i => by simp [findN]
  | m :: r, i => by
    simp only [findN, List.mem_cons, not_or]
    cases hb : n.beq m
    · simp only [Bool.false_eq_true, if_false]
      rw [findN_none n r (i + 1)]
      have : n ≠ m := fun e => by rw [(Nd.beq_iff n m).2 e] at hb; cases hb
      simp [this]
    · simp [(Nd.beq_iff n m).1 hb]

theorem findN_some (n : Nd) : ∀ (ns : List Nd) (i j : Nat), findN n ns i = some j → i ≤ j ∧ ns[j - i]? = some n
  | [], i, j, h => by simp [findN] at h
  | m :: r, i, j, h => by
    simp only [findN] at h
    cases hb : n.beq m
    · rw [hb] at h
      simp only [Bool.false_eq_true, if_false] at h
      obtain ⟨h1, h2⟩ := findN_some n r (i + 1) j h
      refine ⟨by omega, ?_⟩
      rw [show j - i = (j - (i + 1)) + 1 from by omega]
      simpa using h2
    · rw [hb] at h
      simp at h
      subst h
      simp [(Nd.beq_iff n m).1 hb]

/-- The four ways of Make. -/
theorem makeF_cases (ns : List Nd) (n : Nd) :
    (fitsB ns n = false ∧ makeF ns n = (0, 10, ns)) ∨
    (fitsB ns n = true ∧ ∃ j : Nat, ns[j]? = some n ∧ makeF ns n = (((j + 1 : Nat) : Int), 0, ns)) ∨
    (fitsB ns n = true ∧ n ∉ ns ∧ 262144 ≤ ns.length ∧ makeF ns n = (0, 11, ns)) ∨
    (fitsB ns n = true ∧ n ∉ ns ∧ ns.length < 262144 ∧ makeF ns n = (((ns.length + 1 : Nat) : Int), 0, ns ++ [n])) := by
  unfold makeF
  cases hf : fitsB ns n
  · simp
  · rw [if_pos rfl]
    cases hj : findN n ns 0 with
    | some j =>
      obtain ⟨_, h⟩ := findN_some n ns 0 j hj
      exact Or.inr (Or.inl ⟨rfl, j, by simpa using h, rfl⟩)
    | none =>
      have hn := (findN_none n ns 0).1 hj
      by_cases hl : 262144 ≤ ns.length
      · exact Or.inr (Or.inr (Or.inl ⟨rfl, hn, hl, by simp [hl]⟩))
      · exact Or.inr (Or.inr (Or.inr ⟨rfl, hn, by omega, by simp [hl]⟩))

/-- Every node was made behind those ahead of it. -/
def Wf (ns : List Nd) : Prop := ∀ i n, ns[i]? = some n → fitsB (ns.take i) n = true ∧ n ∉ ns.take i

theorem Wf.nil : Wf [] := fun i n h => by simp at h

theorem Wf.snoc {ns : List Nd} {n : Nd} (h : Wf ns) (hf : fitsB ns n = true) (hn : n ∉ ns) : Wf (ns ++ [n]) := by
  intro i m hm
  by_cases hi : i < ns.length
  · rw [List.getElem?_append_left hi] at hm
    rw [List.take_append_of_le_length (by omega)]
    exact h i m hm
  · rw [List.getElem?_append_right (by omega)] at hm
    have h0 : i - ns.length = 0 := by
      have := (List.getElem?_eq_some_iff.1 hm).1
      simp at this; omega
    rw [h0] at hm
    simp at hm
    subst hm
    rw [List.take_append_of_le_length (by omega), List.take_of_length_le (by omega)]
    exact ⟨hf, hn⟩

theorem Wf.make {ns : List Nd} (h : Wf ns) (n : Nd) : Wf (makeF ns n).2.2 := by
  rcases makeF_cases ns n with ⟨_, e⟩ | ⟨_, j, _, e⟩ | ⟨_, _, _, e⟩ | ⟨hf, hn, _, e⟩ <;> rw [e]
  · exact h
  · exact h
  · exact h
  · exact h.snoc hf hn

theorem makeF_prefix (ns : List Nd) (n : Nd) : ns <+: (makeF ns n).2.2 := by
  rcases makeF_cases ns n with ⟨_, e⟩ | ⟨_, j, _, e⟩ | ⟨_, _, _, e⟩ | ⟨hf, hn, _, e⟩ <;> rw [e]
  · exact List.prefix_refl _
  · exact List.prefix_refl _
  · exact List.prefix_refl _
  · exact List.prefix_append _ _

theorem hasB_iff (ns : List Nd) (t : Int) : hasB ns t = true ↔ 1 ≤ t ∧ t ≤ ns.length := by simp [hasB]

theorem nodeF_at {ns : List Nd} {i : Nat} {n : Nd} (h : ns[i]? = some n) : nodeF ns ((i + 1 : Nat) : Int) = n ∧ hasB ns ((i + 1 : Nat) : Int) = true := by
  have hi := (List.getElem?_eq_some_iff.1 h).1
  have hb : hasB ns ((i + 1 : Nat) : Int) = true := (hasB_iff _ _).2 (by omega)
  refine ⟨?_, hb⟩
  unfold nodeF
  rw [if_pos hb]
  simp [List.getD, h]

theorem nodeF_kind_has {ns : List Nd} {t : Int} (h : (nodeF ns t).kind ≠ 0) : hasB ns t = true := by
  unfold nodeF at h
  split at h
  · assumption
  · simp [Nd.zero] at h

/-- What a node of a made list is: its kind, and that its parts are lower. -/
theorem Wf.parts {ns : List Nd} (h : Wf ns) {i : Nat} {n : Nd} (hi : ns[i]? = some n) :
    1 ≤ n.kind ∧ n.kind ≤ 9 ∧ 0 ≤ n.b ∧ n.b ≤ i ∧ (n.kind ≠ 1 → n.kind ≠ 2 → 1 ≤ n.a ∧ n.a ≤ i) := by
  have hil := (List.getElem?_eq_some_iff.1 hi).1
  have hf := (h i n hi).1
  have hlen : (ns.take i).length = i := by simp; omega
  have hasL : ∀ t, hasB (ns.take i) t = true → 1 ≤ t ∧ t ≤ i := fun t ht => by
    have := (hasB_iff _ _).1 ht
    rw [hlen] at this
    exact this
  unfold fitsB at hf
  repeat' split at hf
  all_goals simp only [Bool.and_eq_true, decide_eq_true_eq, beq_iff_eq, Bool.false_eq_true] at hf
  case isTrue h1 => exact ⟨by omega, by omega, by omega, by omega, fun h => absurd h1 h⟩
  case isFalse.isTrue h1 => exact ⟨by omega, by omega, by omega, by omega, fun _ h => absurd h1 h⟩
  case isFalse.isFalse.isTrue h1 => have a := hasL _ hf.2.1; have b := hasL _ hf.2.2; exact ⟨by omega, by omega, by omega, by omega, fun _ _ => a⟩
  case isFalse.isFalse.isFalse.isTrue h1 => have a := hasL _ hf.2.1; exact ⟨by omega, by omega, by omega, by omega, fun _ _ => a⟩
  case isFalse.isFalse.isFalse.isFalse.isTrue h1 => have a := hasL _ hf.2.1; have b := hasL _ hf.2.2; exact ⟨by omega, by omega, by omega, by omega, fun _ _ => a⟩
  case isFalse.isFalse.isFalse.isFalse.isFalse.isTrue h1 => have a := hasL _ hf.2.1; exact ⟨by omega, by omega, by omega, by omega, fun _ _ => a⟩
  case isFalse.isFalse.isFalse.isFalse.isFalse.isFalse.isTrue h1 => have a := hasL _ hf.2.1; have b := hasL _ hf.2.2; exact ⟨by omega, by omega, by omega, by omega, fun _ _ => a⟩
  case isFalse.isFalse.isFalse.isFalse.isFalse.isFalse.isFalse.isTrue h1 =>
    have a := hasL _ (nodeF_kind_has (by rw [hf.2.1]; decide))
    have b := hasL _ hf.2.2
    exact ⟨by omega, by omega, by omega, by omega, fun _ _ => a⟩
  case isFalse.isFalse.isFalse.isFalse.isFalse.isFalse.isFalse.isFalse.isTrue h1 => have a := hasL _ hf.2.1; have b := hasL _ hf.2.2; exact ⟨by omega, by omega, by omega, by omega, fun _ _ => a⟩

end Go.Proofs.Ytddjihlmlfchdaa
