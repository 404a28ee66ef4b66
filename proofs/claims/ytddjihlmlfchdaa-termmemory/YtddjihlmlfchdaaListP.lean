/-
  Lists of terms, on the list of nodes alone: what a list's items are, and that a list has one number.
-/
import Derived.Test.YtddjihlmlfchdaaTermI
namespace Go.Proofs.Ytddjihlmlfchdaa
open Go.RowKit
set_option linter.unusedSimpArgs false
set_option linter.unusedVariables false

/-- The term t is the list of these. -/
def IsL (ns : List Nd) : Int → List Int → Prop
  | t, [] => hasB ns t = true ∧ nodeF ns t = nText ⟨#[]⟩
  | t, x :: r => hasB ns t = true ∧ ∃ u, nodeF ns t = nPair x u ∧ IsL ns u r

theorem IsL.has {ns : List Nd} {t : Int} {l : List Int} (h : IsL ns t l) : hasB ns t = true := by
  cases l <;> exact h.1

theorem IsL.keeps {ns ns' : List Nd} (hp : ns <+: ns') : ∀ {l : List Int} {t : Int}, IsL ns t l → IsL ns' t l
  | [], t, h => ⟨(prefix_keeps hp h.1).1, (prefix_keeps hp h.1).2.trans h.2⟩
  | x :: r, t, h => by
    obtain ⟨h1, u, h2, h3⟩ := h
    exact ⟨(prefix_keeps hp h1).1, u, (prefix_keeps hp h1).2.trans h2, IsL.keeps hp h3⟩

theorem IsL.inj {ns : List Nd} (hw : Wf ns) : ∀ {l : List Int} {t u : Int}, IsL ns t l → IsL ns u l → t = u
  | [], t, u, h, k => hw.number h.1 k.1 (h.2.trans k.2.symm)
  | x :: r, t, u, h, k => by
    obtain ⟨h1, a, h2, h3⟩ := h
    obtain ⟨k1, b, k2, k3⟩ := k
    have := IsL.inj hw h3 k3
    subst this
    exact hw.number h1 k1 (h2.trans k2.symm)

theorem IsL.items {ns : List Nd} (hw : Wf ns) : ∀ {l : List Int} {t : Int}, IsL ns t l → itemsF ns t = some l
  | [], t, h => by
    unfold itemsF
    rw [h.2]
    simp [itemsGo, (Nd.beq_iff _ _).2 rfl]
  | x :: r, t, h => by
    obtain ⟨h1, u, h2, h3⟩ := h
    have ih := IsL.items hw h3
    unfold itemsF at ih ⊢
    have hc := hw.come t
    rw [h2] at hc ⊢
    rw [itemsGo_pair hw hc (by simp [Nd.beq, nPair, nText]) rfl]
    show Option.map (fun l => x :: l) (itemsGo ns (ns.length + 1) (nodeF ns u)) = some (x :: r)
    rw [ih]
    rfl

theorem listGo_ok (xs : List Int) : ∀ (ns : List Nd) (rest : Int) (done : List Int), Wf ns → IsL ns rest done → (∀ x ∈ xs, hasB ns x = true) → (ns.length : Int) + xs.length < 262144 →
    ∃ t ns', listGo ns rest xs = (t, ns') ∧ ns <+: ns' ∧ Wf ns' ∧ IsL ns' t (xs.reverse ++ done) ∧ ns'.length ≤ ns.length + xs.length := by
  induction xs with
  | nil => exact fun ns rest done hw hd _ _ => ⟨rest, ns, rfl, List.prefix_refl _, hw, by simpa using hd, by simp⟩
  | cons x r ih =>
    intro ns rest done hw hd hall hl
    have h0 : rest ≠ 0 := by have := (hasB_iff _ _).1 hd.has; omega
    simp only [List.length_cons] at hl
    obtain ⟨t1, ns1, hk, hm⟩ := makeF_ok hw (fits_pair (hall x (by simp)) hd.has) (by omega)
    have hm2 := hm.len
    obtain ⟨t, ns', e, hp, hw', hL, hlen⟩ := ih ns1 t1 (x :: done) hm.wf ⟨hm.has, rest, hm.node, hd.keeps hm.pre⟩ (fun y hy => (hm.keeps (hall y (by simp [hy]))).1) (by omega)
    refine ⟨t, ns', ?_, hm.pre.trans hp, hw', by simpa using hL, by simp only [List.length_cons]; omega⟩
    simp only [listGo, if_neg h0]
    rw [hk]
    exact e

theorem listF_ok {ns : List Nd} {l : List Int} (hw : Wf ns) (hall : ∀ x ∈ l, hasB ns x = true) (hl : (ns.length : Int) + l.length + 1 < 262144) :
    ∃ t ns', listF ns l = (t, ns') ∧ ns <+: ns' ∧ Wf ns' ∧ IsL ns' t l ∧ ns'.length ≤ ns.length + l.length + 1 := by
  obtain ⟨t1, ns1, hk, hm⟩ := makeF_ok hw (fits_text ns (l := ⟨#[]⟩) (by decide)) (by omega)
  have hm2 := hm.len
  obtain ⟨t, ns', e, hp, hw', hL, hlen⟩ := listGo_ok l.reverse ns1 t1 [] hm.wf ⟨hm.has, hm.node⟩ (fun y hy => (hm.keeps (hall y (by simpa using hy))).1) (by simp; omega)
  refine ⟨t, ns', ?_, hm.pre.trans hp, hw', by simpa using hL, by simp at hlen; omega⟩
  unfold listF
  rw [if_pos (by rw [List.all_eq_true]; exact hall), hk]
  exact e

/-- A slice that was told is a slice that can be read. -/
theorem ownsRow_ints {w : World} {base : Nat} {v : Value} {l : List Int} (h : w.ownsRow base 3 1 v l.length (l.map (Value.int .i64))) (hl : (l.length : Int) ≤ 9223372036854775807) : IntsAt w v l := by
  rcases h.2 with ⟨rfl, h0⟩ | ⟨g, cap, cur, rfl, hb, hgg, r1, r2, r3, r4⟩
  · have : l = [] := List.eq_nil_of_length_eq_zero h0
    subst this
    exact ⟨none, 0, rfl, by simp, fun h => absurd rfl h⟩
  · refine ⟨_, cap, rfl, hl, fun _ => ⟨g, 0, rfl, (Array.getElem?_eq_some_iff.1 hgg).1, fun i x hi => ?_⟩⟩
    have hil := (List.getElem?_eq_some_iff.1 hi).1
    rw [Nat.zero_add, World.ownsRow.cellAt h i (by omega)]
    simp [hi]

/-- The k first atoms. -/
def atoms : Nat → List Nd
  | 0 => []
  | k + 1 => atoms k ++ [atom ((k : Int) + 1)]

theorem atoms_length : ∀ k, (atoms k).length = k
  | 0 => rfl
  | k + 1 => by simp [atoms, atoms_length k]

theorem atoms_mem : ∀ (k : Nat) (n : Nd), n ∈ atoms k → ∃ i : Nat, i < k ∧ n = atom ((i : Int) + 1)
  | 0, n, h => by simp [atoms] at h
  | k + 1, n, h => by
    simp [atoms] at h
    rcases h with h | h
    · obtain ⟨i, hi, e⟩ := atoms_mem k n h
      exact ⟨i, by omega, e⟩
    · exact ⟨k, by omega, h⟩

theorem atoms_make (k : Nat) (hk : k ≤ 2000) : makeF (atoms k) (atom ((k : Int) + 1)) = ((k : Int) + 1, 0, atoms (k + 1)) := by
  have hf := fits_atom (atoms k) (a := (k : Int) + 1) (by omega) (by omega)
  have hn : atom ((k : Int) + 1) ∉ atoms k := fun h => by
    obtain ⟨i, hi, e⟩ := atoms_mem k _ h
    simp [atom] at e
    omega
  rcases makeF_cases (atoms k) (atom ((k : Int) + 1)) with ⟨h, _⟩ | ⟨_, j, hj, e⟩ | ⟨_, _, h, _⟩ | ⟨_, _, _, e⟩
  · rw [hf] at h; cases h
  · exact absurd (List.mem_of_getElem? hj) hn
  · rw [atoms_length] at h; omega
  · rw [e, atoms_length]
    simp [atoms]

theorem atoms_wf : ∀ k, k ≤ 2000 → Wf (atoms k)
  | 0, _ => Wf.nil
  | k + 1, hk => by
    have := (atoms_wf k (by omega)).make (atom ((k : Int) + 1))
    rw [atoms_make k (by omega)] at this
    exact this

end Go.Proofs.Ytddjihlmlfchdaa
