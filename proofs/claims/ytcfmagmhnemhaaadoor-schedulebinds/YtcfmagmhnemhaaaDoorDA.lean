/-
  Terms as trees: what a number of a store means; two numbers of one store are one just if they mean the same.
-/
import Derived.Test.YtcfmagmhnemhaaaDoorMP
namespace Go.Proofs.YtcfmagmhnemhaaaDoor
open Go.RowKit
set_option linter.unusedSimpArgs false
set_option linter.unusedVariables false

inductive Tm where
  | atom (a : Int)
  | text (l : ByteArray)
  | pair (a b : Tm)
  | hash (l : ByteArray) (a : Tm)
  | kdf (l : ByteArray) (a b : Tm)
  | pub (a : Tm)
  | lock (a b : Tm)
  | box (a b : Tm)
  | sign (a b : Tm)

def Means (ns : List Nd) : Int → Tm → Prop
  | t, .atom a => hasB ns t = true ∧ nodeF ns t = ⟨1, ⟨#[]⟩, a, 0⟩
  | t, .text l => hasB ns t = true ∧ nodeF ns t = ⟨2, l, 0, 0⟩
  | t, .pair a b => hasB ns t = true ∧ ∃ x y, nodeF ns t = ⟨3, ⟨#[]⟩, x, y⟩ ∧ Means ns x a ∧ Means ns y b
  | t, .hash l a => hasB ns t = true ∧ ∃ x, nodeF ns t = ⟨4, l, x, 0⟩ ∧ Means ns x a
  | t, .kdf l a b => hasB ns t = true ∧ ∃ x y, nodeF ns t = ⟨5, l, x, y⟩ ∧ Means ns x a ∧ Means ns y b
  | t, .pub a => hasB ns t = true ∧ ∃ x, nodeF ns t = ⟨6, ⟨#[]⟩, x, 0⟩ ∧ Means ns x a
  | t, .lock a b => hasB ns t = true ∧ ∃ x y, nodeF ns t = ⟨7, ⟨#[]⟩, x, y⟩ ∧ Means ns x a ∧ Means ns y b
  | t, .box a b => hasB ns t = true ∧ ∃ x y, nodeF ns t = ⟨8, ⟨#[]⟩, x, y⟩ ∧ Means ns x a ∧ Means ns y b
  | t, .sign a b => hasB ns t = true ∧ ∃ x y, nodeF ns t = ⟨9, ⟨#[]⟩, x, y⟩ ∧ Means ns x a ∧ Means ns y b

theorem Means.has {ns : List Nd} {t : Int} {T : Tm} (h : Means ns t T) : hasB ns t = true := by
  cases T <;> exact h.1

theorem Means.pos {ns : List Nd} {t : Int} {T : Tm} (h : Means ns t T) : 1 ≤ t ∧ t ≤ ns.length := (hasB_iff _ _).1 h.has

theorem Means.keeps {ns ns' : List Nd} (hp : ns <+: ns') : ∀ {T : Tm} {t : Int}, Means ns t T → Means ns' t T
  | .atom _, t, h => ⟨(prefix_keeps hp h.1).1, (prefix_keeps hp h.1).2.trans h.2⟩
  | .text _, t, h => ⟨(prefix_keeps hp h.1).1, (prefix_keeps hp h.1).2.trans h.2⟩
  | .pair _ _, t, ⟨h, x, y, e, h1, h2⟩ => ⟨(prefix_keeps hp h).1, x, y, (prefix_keeps hp h).2.trans e, h1.keeps hp, h2.keeps hp⟩
  | .hash _ _, t, ⟨h, x, e, h1⟩ => ⟨(prefix_keeps hp h).1, x, (prefix_keeps hp h).2.trans e, h1.keeps hp⟩
  | .kdf _ _ _, t, ⟨h, x, y, e, h1, h2⟩ => ⟨(prefix_keeps hp h).1, x, y, (prefix_keeps hp h).2.trans e, h1.keeps hp, h2.keeps hp⟩
  | .pub _, t, ⟨h, x, e, h1⟩ => ⟨(prefix_keeps hp h).1, x, (prefix_keeps hp h).2.trans e, h1.keeps hp⟩
  | .lock _ _, t, ⟨h, x, y, e, h1, h2⟩ => ⟨(prefix_keeps hp h).1, x, y, (prefix_keeps hp h).2.trans e, h1.keeps hp, h2.keeps hp⟩
  | .box _ _, t, ⟨h, x, y, e, h1, h2⟩ => ⟨(prefix_keeps hp h).1, x, y, (prefix_keeps hp h).2.trans e, h1.keeps hp, h2.keeps hp⟩
  | .sign _ _, t, ⟨h, x, y, e, h1, h2⟩ => ⟨(prefix_keeps hp h).1, x, y, (prefix_keeps hp h).2.trans e, h1.keeps hp, h2.keeps hp⟩

/-- One meaning has one number. -/
theorem Means.inj {ns : List Nd} (hw : Wf ns) : ∀ {T : Tm} {t u : Int}, Means ns t T → Means ns u T → t = u
  | .atom _, t, u, h, k => hw.number h.1 k.1 (h.2.trans k.2.symm)
  | .text _, t, u, h, k => hw.number h.1 k.1 (h.2.trans k.2.symm)
  | .pair _ _, t, u, ⟨h, x, y, e, h1, h2⟩, ⟨k, x', y', e', k1, k2⟩ => by
    obtain rfl := h1.inj hw k1; obtain rfl := h2.inj hw k2; exact hw.number h k (e.trans e'.symm)
  | .hash _ _, t, u, ⟨h, x, e, h1⟩, ⟨k, x', e', k1⟩ => by
    obtain rfl := h1.inj hw k1; exact hw.number h k (e.trans e'.symm)
  | .kdf _ _ _, t, u, ⟨h, x, y, e, h1, h2⟩, ⟨k, x', y', e', k1, k2⟩ => by
    obtain rfl := h1.inj hw k1; obtain rfl := h2.inj hw k2; exact hw.number h k (e.trans e'.symm)
  | .pub _, t, u, ⟨h, x, e, h1⟩, ⟨k, x', e', k1⟩ => by
    obtain rfl := h1.inj hw k1; exact hw.number h k (e.trans e'.symm)
  | .lock _ _, t, u, ⟨h, x, y, e, h1, h2⟩, ⟨k, x', y', e', k1, k2⟩ => by
    obtain rfl := h1.inj hw k1; obtain rfl := h2.inj hw k2; exact hw.number h k (e.trans e'.symm)
  | .box _ _, t, u, ⟨h, x, y, e, h1, h2⟩, ⟨k, x', y', e', k1, k2⟩ => by
    obtain rfl := h1.inj hw k1; obtain rfl := h2.inj hw k2; exact hw.number h k (e.trans e'.symm)
  | .sign _ _, t, u, ⟨h, x, y, e, h1, h2⟩, ⟨k, x', y', e', k1, k2⟩ => by
    obtain rfl := h1.inj hw k1; obtain rfl := h2.inj hw k2; exact hw.number h k (e.trans e'.symm)

/-- One number has one meaning. -/
theorem Means.one {ns : List Nd} : ∀ {T U : Tm} {t : Int}, Means ns t T → Means ns t U → T = U := by
  intro T
  induction T with
  | atom a =>
    intro U t h k
    have e := h.2
    cases U <;> simp only [Means] at k <;> (first | (obtain ⟨_, x, y, e', _, _⟩ := k; rw [e'] at e; simp at e) | (obtain ⟨_, x, e', _⟩ := k; rw [e'] at e; simp at e) | (obtain ⟨_, e'⟩ := k; rw [e'] at e; simp at e; try simp [e]))
  | text l =>
    intro U t h k
    have e := h.2
    cases U <;> simp only [Means] at k <;> (first | (obtain ⟨_, x, y, e', _, _⟩ := k; rw [e'] at e; simp at e) | (obtain ⟨_, x, e', _⟩ := k; rw [e'] at e; simp at e) | (obtain ⟨_, e'⟩ := k; rw [e'] at e; simp at e; try simp [e]))
  | pair a b iha ihb =>
    rintro U t ⟨_, x, y, e, h1, h2⟩ k
    cases U <;> simp only [Means] at k <;> (first | (obtain ⟨_, x', y', e', k1, k2⟩ := k; rw [e'] at e; simp at e; try (obtain ⟨rfl, rfl⟩ := e; rw [iha h1 k1, ihb h2 k2])) | (obtain ⟨_, x', e', k1⟩ := k; rw [e'] at e; simp at e) | (obtain ⟨_, e'⟩ := k; rw [e'] at e; simp at e))
  | hash l a iha =>
    rintro U t ⟨_, x, e, h1⟩ k
    cases U <;> simp only [Means] at k <;> (first | (obtain ⟨_, x', y', e', k1, k2⟩ := k; rw [e'] at e; simp at e) | (obtain ⟨_, x', e', k1⟩ := k; rw [e'] at e; simp at e; try (obtain ⟨rfl, rfl⟩ := e; rw [iha h1 k1])) | (obtain ⟨_, e'⟩ := k; rw [e'] at e; simp at e))
  | kdf l a b iha ihb =>
    rintro U t ⟨_, x, y, e, h1, h2⟩ k
    cases U <;> simp only [Means] at k <;> (first | (obtain ⟨_, x', y', e', k1, k2⟩ := k; rw [e'] at e; simp at e; try (obtain ⟨rfl, rfl, rfl⟩ := e; rw [iha h1 k1, ihb h2 k2])) | (obtain ⟨_, x', e', k1⟩ := k; rw [e'] at e; simp at e) | (obtain ⟨_, e'⟩ := k; rw [e'] at e; simp at e))
  | pub a iha =>
    rintro U t ⟨_, x, e, h1⟩ k
    cases U <;> simp only [Means] at k <;> (first | (obtain ⟨_, x', y', e', k1, k2⟩ := k; rw [e'] at e; simp at e) | (obtain ⟨_, x', e', k1⟩ := k; rw [e'] at e; simp at e; try (subst e; rw [iha h1 k1])) | (obtain ⟨_, e'⟩ := k; rw [e'] at e; simp at e))
  | lock a b iha ihb =>
    rintro U t ⟨_, x, y, e, h1, h2⟩ k
    cases U <;> simp only [Means] at k <;> (first | (obtain ⟨_, x', y', e', k1, k2⟩ := k; rw [e'] at e; simp at e; try (obtain ⟨rfl, rfl⟩ := e; rw [iha h1 k1, ihb h2 k2])) | (obtain ⟨_, x', e', k1⟩ := k; rw [e'] at e; simp at e) | (obtain ⟨_, e'⟩ := k; rw [e'] at e; simp at e))
  | box a b iha ihb =>
    rintro U t ⟨_, x, y, e, h1, h2⟩ k
    cases U <;> simp only [Means] at k <;> (first | (obtain ⟨_, x', y', e', k1, k2⟩ := k; rw [e'] at e; simp at e; try (obtain ⟨rfl, rfl⟩ := e; rw [iha h1 k1, ihb h2 k2])) | (obtain ⟨_, x', e', k1⟩ := k; rw [e'] at e; simp at e) | (obtain ⟨_, e'⟩ := k; rw [e'] at e; simp at e))
  | sign a b iha ihb =>
    rintro U t ⟨_, x, y, e, h1, h2⟩ k
    cases U <;> simp only [Means] at k <;> (first | (obtain ⟨_, x', y', e', k1, k2⟩ := k; rw [e'] at e; simp at e; try (obtain ⟨rfl, rfl⟩ := e; rw [iha h1 k1, ihb h2 k2])) | (obtain ⟨_, x', e', k1⟩ := k; rw [e'] at e; simp at e) | (obtain ⟨_, e'⟩ := k; rw [e'] at e; simp at e))

theorem Means.eq_iff {ns : List Nd} (hw : Wf ns) {t u : Int} {T U : Tm} (h : Means ns t T) (k : Means ns u U) : t = u ↔ T = U :=
  ⟨fun e => h.one (e ▸ k), fun e => h.inj hw (e ▸ k)⟩

/-- A list as a term. -/
def listT (l : List Tm) : Tm := l.foldr .pair (.text ⟨#[]⟩)

theorem listT_inj : ∀ {l m : List Tm}, listT l = listT m → l = m
  | [], [], _ => rfl
  | [], b :: m, h => by simp [listT] at h
  | a :: l, [], h => by simp [listT] at h
  | a :: l, b :: m, h => by
    simp only [listT, List.foldr_cons, Tm.pair.injEq] at h
    rw [h.1, listT_inj (l := l) (m := m) h.2]

/-- Item by item. -/
inductive Mean2 (ns : List Nd) : List Int → List Tm → Prop where
  | nil : Mean2 ns [] []
  | cons {x : Int} {X : Tm} {l : List Int} {L : List Tm} : Means ns x X → Mean2 ns l L → Mean2 ns (x :: l) (X :: L)

theorem Mean2.keeps {ns ns' : List Nd} (hp : ns <+: ns') {l : List Int} {L : List Tm} (h : Mean2 ns l L) : Mean2 ns' l L := by
  induction h with
  | nil => exact .nil
  | cons a _ ih => exact .cons (a.keeps hp) ih

theorem Mean2.len {ns : List Nd} {l : List Int} {L : List Tm} (h : Mean2 ns l L) : l.length = L.length := by
  induction h with
  | nil => rfl
  | cons a _ ih => simp [ih]

theorem Mean2.append {ns : List Nd} {l m : List Int} {L M : List Tm} (h : Mean2 ns l L) (k : Mean2 ns m M) : Mean2 ns (l ++ m) (L ++ M) := by
  induction h with
  | nil => exact k
  | cons a _ ih => exact .cons a ih

theorem Mean2.has {ns : List Nd} {l : List Int} {L : List Tm} (h : Mean2 ns l L) : ∀ x ∈ l, hasB ns x = true := by
  induction h with
  | nil => intro x hx; cases hx
  | cons a _ ih =>
    intro x hx
    rcases List.mem_cons.1 hx with rfl | hx
    · exact a.has
    · exact ih x hx

theorem Mean2.list {ns : List Nd} : ∀ {l : List Int} {L : List Tm} {t : Int}, Mean2 ns l L → IsL ns t l → Means ns t (listT L)
  | [], _, t, .nil, h => h
  | x :: l, _, t, .cons a r, ⟨h, u, e, h2⟩ => ⟨h, x, u, e, a, r.list h2⟩

theorem Mean2.get {ns : List Nd} {l : List Int} {L : List Tm} (h : Mean2 ns l L) : ∀ (i : Nat) (x : Int), l[i]? = some x → ∃ X, L[i]? = some X ∧ Means ns x X := by
  induction h with
  | nil => intro i x hx; simp at hx
  | cons a _ ih =>
    intro i x hx
    cases i with
    | zero => simp at hx; subst hx; exact ⟨_, rfl, a⟩
    | succ i => simpa using ih i x (by simpa using hx)

/-- From one list of nodes to a longer one. -/
structure Stp (ns ns' : List Nd) (c : Nat) : Prop where
  pre : ns <+: ns'
  wf : Wf ns'
  len : ns'.length ≤ ns.length + c

theorem Stp.refl {ns : List Nd} (h : Wf ns) : Stp ns ns 0 := ⟨List.prefix_refl _, h, by omega⟩

theorem Stp.trans {a b c : List Nd} {m n : Nat} (h : Stp a b m) (k : Stp b c n) : Stp a c (m + n) :=
  ⟨h.pre.trans k.pre, k.wf, by have := h.len; have := k.len; omega⟩

theorem Stp.mono {a b : List Nd} {m n : Nat} (h : Stp a b m) (hmn : m ≤ n) : Stp a b n := ⟨h.pre, h.wf, by have := h.len; omega⟩

theorem Mk1.stp {ns ns' : List Nd} {t : Int} {n : Nd} (h : Mk1 ns ns' t n) : Stp ns ns' 1 := ⟨h.pre, h.wf, h.len⟩

theorem mk_text {ns : List Nd} (hw : Wf ns) (l : ByteArray) (hl : l.size ≤ 1024) (hr : (ns.length : Int) < 262144) : ∃ t ns', makeF ns ⟨2, l, 0, 0⟩ = (t, 0, ns') ∧ Stp ns ns' 1 ∧ Means ns' t (.text l) := by
  obtain ⟨t, ns', e, hm⟩ := makeF_ok hw (fits_text ns hl) hr
  exact ⟨t, ns', e, hm.stp, hm.has, hm.node⟩

theorem mk_hash {ns : List Nd} (hw : Wf ns) (l : ByteArray) (hl : l.size ≤ 32) (hr : (ns.length : Int) < 262144) {x : Int} {X : Tm} (hx : Means ns x X) : ∃ t ns', makeF ns ⟨4, l, x, 0⟩ = (t, 0, ns') ∧ Stp ns ns' 1 ∧ Means ns' t (.hash l X) := by
  have hf : fitsB ns ⟨4, l, x, 0⟩ = true := by simp [fitsB, hl, hx.has]
  obtain ⟨t, ns', e, hm⟩ := makeF_ok hw hf hr
  exact ⟨t, ns', e, hm.stp, hm.has, x, hm.node, hx.keeps hm.pre⟩

theorem mk_list {ns : List Nd} (hw : Wf ns) {l : List Int} {L : List Tm} (h : Mean2 ns l L) (hr : (ns.length : Int) + l.length + 1 < 262144) : ∃ t ns', listF ns l = (t, ns') ∧ Stp ns ns' (l.length + 1) ∧ Means ns' t (listT L) := by
  obtain ⟨t, ns', e, hp, hw', hL, hlen⟩ := listF_ok hw h.has hr
  exact ⟨t, ns', e, ⟨hp, hw', by omega⟩, (h.keeps hp).list hL⟩

end Go.Proofs.YtcfmagmhnemhaaaDoor
