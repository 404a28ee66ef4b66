/-
  Hashes of trees as terms: what the hash of a place is made of, that it tells the tree below, and the chain of parent hashes.
-/
import Derived.Test.YtmcjincgppddeaaDoorDA
import Derived.Test.YtmcjincgppddeaaDoorTQ
import Derived.Lib.ItoaNum
namespace Go.Proofs.YtmcjincgppddeaaDoor
set_option linter.unusedSimpArgs false
set_option linter.unusedVariables false

def bt (s : List UInt8) : ByteArray := ⟨s.toArray⟩
def lLeaf : ByteArray := bt [108, 101, 97, 102]
def lNode : ByteArray := bt [110, 111, 100, 101]
def lBlank : ByteArray := bt [98, 108, 97, 110, 107]
def lParent : ByteArray := bt [112, 97, 114, 101, 110, 116]

def numT (n : Int) : Tm := .text ⟨(Lib.itoa n).toArray⟩
def noneT (g : Int → Tm) (n : Int) : Tm := if n = 0 then .text ⟨#[]⟩ else g n

def leafT (g : Int → Tm) (i : Int) (v : PV) : Tm :=
  .hash lLeaf (listT (if v.full then [numT i, numT v.client, noneT g v.key, noneT g v.sig, noneT g v.hash] else [numT i]))
def nodeT (g : Int → Tm) (v : PV) (l r : Tm) : Tm :=
  if v.full then .hash lNode (listT [noneT g v.key, noneT g v.hash, listT (v.late.map numT), l, r]) else .hash lBlank (listT [l, r])
def hashT (g : Int → Tm) (t : Tree) : Nat → Int → Tm
  | 0, x => leafT g (x / 2) (vx t x.toNat)
  | f + 1, x => if lev x = 0 then leafT g (x / 2) (vx t x.toNat) else nodeT g (vx t x.toNat) (hashT g t f (x - halfI x)) (hashT g t f (x + halfI x))

/-- The places at and below one. -/
def places : Nat → Int → List Int
  | 0, x => [x]
  | f + 1, x => if lev x = 0 then [x] else x :: (places f (x - halfI x) ++ places f (x + halfI x))

theorem ofNat_inj {a b : Nat} (ha : a < 256) (hb : b < 256) (h : UInt8.ofNat a = UInt8.ofNat b) : a = b := by
  have := congrArg UInt8.toNat h
  simp only [UInt8.toNat_ofNat'] at this
  omega

theorem decDigits_ne (n : Nat) : Lib.decDigits n ≠ [] := by
  rw [Lib.decDigits]; split <;> simp

theorem decDigits_inj : ∀ (n m : Nat), Lib.decDigits n = Lib.decDigits m → n = m := by
  intro n
  induction n using Nat.strongRecOn with
  | _ n ih =>
    intro m h
    rw [Lib.decDigits, Lib.decDigits.eq_1 m] at h
    by_cases hn : n < 10 <;> by_cases hm : m < 10
    · rw [dif_pos hn, dif_pos hm] at h
      simp only [List.cons.injEq, and_true] at h
      have := ofNat_inj (by omega) (by omega) h
      omega
    · rw [dif_pos hn, dif_neg hm] at h
      have h2 := congrArg List.length h
      have h3 := List.length_pos_iff.2 (decDigits_ne (m / 10))
      simp only [List.length_cons, List.length_append, List.length_nil] at h2
      omega
    · rw [dif_neg hn, dif_pos hm] at h
      have h2 := congrArg List.length h
      have h3 := List.length_pos_iff.2 (decDigits_ne (n / 10))
      simp only [List.length_cons, List.length_append, List.length_nil] at h2
      omega
    · rw [dif_neg hn, dif_neg hm] at h
      have h2 := (List.append_inj' h rfl)
      have h3 := ih (n / 10) (by omega) (m / 10) h2.1
      have h4 := h2.2
      simp only [List.cons.injEq, and_true] at h4
      have := ofNat_inj (by omega) (by omega) h4
      omega

theorem decDigits_low (n : Nat) : ∀ d ∈ Lib.decDigits n, 48 ≤ d.toNat := by
  induction n using Nat.strongRecOn with
  | _ n ih =>
    intro d hd
    rw [Lib.decDigits] at hd
    split at hd
    · simp only [List.mem_singleton] at hd; subst hd
      simp only [UInt8.toNat_ofNat']
      omega
    · simp only [List.mem_append, List.mem_singleton] at hd
      rcases hd with hd | rfl
      · exact ih (n / 10) (by omega) d hd
      · simp only [UInt8.toNat_ofNat']
        omega

theorem dash_not (n m : Nat) : (45 :: Lib.decDigits n) ≠ Lib.decDigits m := by
  intro h
  have := decDigits_low m 45 (by rw [← h]; simp)
  revert this
  decide

theorem itoa_inj {n m : Int} (h : Lib.itoa n = Lib.itoa m) : n = m := by
  unfold Lib.itoa at h
  by_cases hn : n < 0 <;> by_cases hm : m < 0
  · rw [if_pos hn, if_pos hm] at h
    simp only [List.cons.injEq, true_and] at h
    have := decDigits_inj _ _ h
    omega
  · rw [if_pos hn, if_neg hm] at h
    exact absurd h (dash_not _ _)
  · rw [if_neg hn, if_pos hm] at h
    exact absurd h.symm (dash_not _ _)
  · rw [if_neg hn, if_neg hm] at h
    have := decDigits_inj _ _ h
    omega

theorem numT_inj {n m : Int} (h : numT n = numT m) : n = m := by
  simp only [numT, Tm.text.injEq, ByteArray.mk.injEq] at h
  exact itoa_inj (by simpa using congrArg Array.toList h)

theorem map_numT_inj : ∀ {l m : List Int}, l.map numT = m.map numT → l = m
  | [], [], _ => rfl
  | [], b :: m, h => by simp at h
  | a :: l, [], h => by simp at h
  | a :: l, b :: m, h => by
    simp only [List.map_cons, List.cons.injEq] at h
    rw [numT_inj h.1, map_numT_inj h.2]

/-- What is asked of the meanings of numbers. -/
def Apt (g : Int → Tm) : Prop := (∀ a b, g a = g b → a = b) ∧ ∀ a, g a ≠ .text ⟨#[]⟩

theorem noneT_inj {g : Int → Tm} (hg : Apt g) {a b : Int} (h : noneT g a = noneT g b) : a = b := by
  unfold noneT at h
  by_cases ha : a = 0 <;> by_cases hb : b = 0
  · omega
  · rw [if_pos ha, if_neg hb] at h; exact absurd h.symm (hg.2 b)
  · rw [if_neg ha, if_pos hb] at h; exact absurd h (hg.2 a)
  · rw [if_neg ha, if_neg hb] at h; exact hg.1 a b h

theorem apt_atom : Apt Tm.atom := ⟨fun a b h => by simpa using h, fun a h => by simp at h⟩

theorem lab_ne : lLeaf ≠ lNode ∧ lLeaf ≠ lBlank ∧ lNode ≠ lBlank := by
  refine ⟨?_, ?_, ?_⟩ <;> (intro h; exact absurd (congrArg ByteArray.data h) (by simp [lLeaf, lNode, lBlank, bt]))

theorem leafT_inj {g : Int → Tm} (hg : Apt g) {i j : Int} {u v : PV} (h : leafT g i u = leafT g j v) :
    i = j ∧ u.full = v.full ∧ (u.full = true → u.client = v.client ∧ u.key = v.key ∧ u.sig = v.sig ∧ u.hash = v.hash) := by
  unfold leafT at h
  simp only [Tm.hash.injEq, true_and] at h
  have h := listT_inj h
  cases hu : u.full <;> cases hv : v.full <;> simp only [hu, hv, if_true, Bool.false_eq_true, if_false, List.cons.injEq, and_true, reduceCtorEq, and_false] at h
  · exact ⟨numT_inj h, rfl, fun h => by cases h⟩
  · exact ⟨numT_inj h.1, rfl, fun _ => ⟨numT_inj h.2.1, noneT_inj hg h.2.2.1, noneT_inj hg h.2.2.2.1, noneT_inj hg h.2.2.2.2⟩⟩

theorem nodeT_inj {g : Int → Tm} (hg : Apt g) {u v : PV} {l r l' r' : Tm} (h : nodeT g u l r = nodeT g v l' r') :
    l = l' ∧ r = r' ∧ u.full = v.full ∧ (u.full = true → u.key = v.key ∧ u.hash = v.hash ∧ u.late = v.late) := by
  unfold nodeT at h
  cases hu : u.full <;> cases hv : v.full <;> simp only [hu, hv, if_true, Bool.false_eq_true, if_false, Tm.hash.injEq, true_and] at h
  · have h := listT_inj h
    simp only [List.cons.injEq, and_true] at h
    exact ⟨h.1, h.2, rfl, fun h => by cases h⟩
  · exact absurd h.1.symm lab_ne.2.2
  · exact absurd h.1 lab_ne.2.2
  · have h := listT_inj h
    simp only [List.cons.injEq, and_true] at h
    exact ⟨h.2.2.2.1, h.2.2.2.2, rfl, fun _ => ⟨noneT_inj hg h.1, noneT_inj hg h.2.1, map_numT_inj (listT_inj h.2.2.1)⟩⟩

theorem leaf_node {g : Int → Tm} {i : Int} {u v : PV} {l r : Tm} (h : leafT g i u = nodeT g v l r) : False := by
  unfold leafT nodeT at h
  cases hv : v.full <;> simp only [hv, if_true, Bool.false_eq_true, if_false, Tm.hash.injEq] at h
  · exact lab_ne.2.1 h.1
  · exact lab_ne.1 h.1

/-- The vertex of a right tree is what its hash tells. -/
theorem leaf_vx {t u : Tree} {x : Int} {a b : PV} (ha : VOk t x a) (hb : VOk u x b) (hl : lev x = 0) (hf : a.full = b.full) (h : a.full = true → a.client = b.client ∧ a.key = b.key ∧ a.sig = b.sig ∧ a.hash = b.hash) : a = b := by
  cases hu : a.full with
  | false => rw [ha.blank hu, hb.blank (hf ▸ hu)]
  | true =>
    obtain ⟨h1, h2, h3, h4⟩ := h hu
    have l1 := ha.leaf hu hl
    have l2 := hb.leaf (hf ▸ hu) hl
    cases a; cases b; simp_all

theorem node_vx {t u : Tree} {x : Int} {a b : PV} (ha : VOk t x a) (hb : VOk u x b) (hl : lev x ≠ 0) (hf : a.full = b.full) (h : a.full = true → a.key = b.key ∧ a.hash = b.hash ∧ a.late = b.late) : a = b := by
  cases hu : a.full with
  | false => rw [ha.blank hu, hb.blank (hf ▸ hu)]
  | true =>
    obtain ⟨h1, h2, h3⟩ := h hu
    have l1 := ha.par hu hl
    have l2 := hb.par (hf ▸ hu) hl
    cases a; cases b; simp_all

theorem kidsI {x n : Int} (h : inB x n = true) (hl : lev x ≠ 0) : inB (x - halfI x) n = true ∧ inB (x + halfI x) n = true ∧ lev (x - halfI x) = lev x - 1 ∧ lev (x + halfI x) = lev x - 1 := kids h hl

theorem lev_nn {x n : Int} (h : inB x n = true) : 0 ≤ lev x ∧ lev x ≤ 5 := lev_small (inB_lt h).1 (inB_lt h).2

/-- One hash, one height. -/
theorem hashT_lev {g : Int → Tm} (hg : Apt g) {t u : Tree} {n m : Int} : ∀ (f f' : Nat) (x y : Int), inB x n = true → inB y m = true → lev x < f → lev y < f' → hashT g t f x = hashT g u f' y → lev x = lev y
  | 0, f', x, y, hx, hy, h1, h2, h => by have := lev_nn hx; omega
  | f + 1, 0, x, y, hx, hy, h1, h2, h => by have := lev_nn hy; omega
  | f + 1, f' + 1, x, y, hx, hy, h1, h2, h => by
    by_cases h3 : lev x = 0 <;> by_cases h4 : lev y = 0
    · omega
    · simp only [hashT, if_pos h3, if_neg h4] at h
      exact (leaf_node h).elim
    · simp only [hashT, if_neg h3, if_pos h4] at h
      exact (leaf_node h.symm).elim
    · simp only [hashT, if_neg h3, if_neg h4] at h
      obtain ⟨h5, _⟩ := nodeT_inj hg h
      obtain ⟨a1, _, a3, _⟩ := kidsI hx h3
      obtain ⟨b1, _, b3, _⟩ := kidsI hy h4
      have := hashT_lev hg f f' _ _ a1 b1 (by omega) (by omega) h5
      omega

/-- Two hashes are one just where the trees below are one. -/
theorem hashT_inj {g : Int → Tm} (hg : Apt g) {t u : Tree} {n : Int} (hv : ∀ x, inB x n = true → VOk t x (vx t x.toNat)) (hw : ∀ x, inB x n = true → VOk u x (vx u x.toNat)) :
    ∀ (f : Nat) (x : Int), inB x n = true → lev x < f → hashT g t f x = hashT g u f x → ∀ z ∈ places f x, vx t z.toNat = vx u z.toNat
  | 0, x, hx, hl, h => by have := lev_nn hx; omega
  | f + 1, x, hx, hl, h => by
    by_cases hl0 : lev x = 0
    · simp only [hashT, places, if_pos hl0] at h ⊢
      intro z hz
      simp only [List.mem_singleton] at hz
      subst hz
      obtain ⟨_, h2, h3⟩ := leafT_inj hg h
      exact leaf_vx (hv _ hx) (hw _ hx) hl0 h2 h3
    · simp only [hashT, places, if_neg hl0] at h ⊢
      obtain ⟨h1, h2, h3, h4⟩ := nodeT_inj hg h
      obtain ⟨a1, a2, a3, a4⟩ := kidsI hx hl0
      intro z hz
      simp only [List.mem_cons, List.mem_append] at hz
      rcases hz with rfl | hz | hz
      · exact node_vx (hv _ hx) (hw _ hx) hl0 h3 h4
      · exact hashT_inj hg hv hw f _ a1 (by omega) h1 z hz
      · exact hashT_inj hg hv hw f _ a2 (by omega) h2 z hz

theorem places_self (f : Nat) (x : Int) : x ∈ places f x := by
  cases f with
  | zero => simp [places]
  | succ f => unfold places; split <;> simp

theorem hashT_same {g : Int → Tm} {t u : Tree} : ∀ (f : Nat) (x : Int), (∀ z ∈ places f x, vx t z.toNat = vx u z.toNat) → hashT g t f x = hashT g u f x
  | 0, x, h => by simp only [hashT]; rw [h x (places_self 0 x)]
  | f + 1, x, h => by
    have hx := h x (places_self _ _)
    by_cases hl0 : lev x = 0
    · simp only [hashT, if_pos hl0, hx]
    · simp only [hashT, places, if_neg hl0, hx] at h ⊢
      rw [hashT_same f _ (fun z hz => h z (by simp [hz])), hashT_same f _ (fun z hz => h z (by simp [hz]))]

theorem places_root {z n : Int} (h : inB z n = true) : z ∈ places 6 (n - 1) := by
  have := forall_in (fun z n => (places 6 (n - 1)).contains z) (by decide +kernel) z n h
  simpa using this

theorem places_under {z x n : Int} (hz : inB z n = true) (hx : inB x n = true) : z ∈ places 6 x ↔ underB z x n = true := by
  have := forall_in2 (fun z x n => (places 6 x).contains z == underB z x n) (by decide +kernel) z x n hz hx
  rw [← eq_of_beq this]
  simp

theorem places_in {n : Int} : ∀ (f : Nat) (x : Int), inB x n = true → lev x < f → ∀ z ∈ places f x, inB z n = true
  | 0, x, hx, hl => by have := lev_nn hx; omega
  | f + 1, x, hx, hl => by
    intro z hz
    by_cases hl0 : lev x = 0
    · simp only [places, if_pos hl0, List.mem_singleton] at hz
      subst hz; exact hx
    · simp only [places, if_neg hl0, List.mem_cons, List.mem_append] at hz
      obtain ⟨a1, a2, a3, a4⟩ := kidsI hx hl0
      rcases hz with rfl | hz | hz
      · exact hx
      · exact places_in f _ a1 (by omega) z hz
      · exact places_in f _ a2 (by omega) z hz

/-- The tree hash. -/
def treeT (g : Int → Tm) (t : Tree) : Tm := hashT g t 6 ((lv t : Int) - 1)

theorem root_in {t : Tree} (h : Sh t) : inB ((lv t : Int) - 1) (lv t) = true := by
  have := h.bounds
  simp [inB, h.1]; omega

theorem Good.vok {t : Tree} (h : Good t) : ∀ x, inB x (lv t) = true → VOk t x (vx t x.toNat) := fun x hx => by
  obtain ⟨k, rfl, hk⟩ := in_place h.sh hx
  exact h.vert k _ (by simpa using vx_some hk)

theorem tree_ext {t u : Tree} (hl : t.length = u.length) (h : ∀ x : Nat, x < t.length → vx t x = vx u x) : t = u := by
  apply List.ext_getElem? 
  intro x
  by_cases hx : x < t.length
  · rw [vx_some hx, vx_some (by omega), h x hx]
  · rw [List.getElem?_eq_none (by omega), List.getElem?_eq_none (by omega)]

/-- Two right trees have one tree hash just if they are one tree. -/
theorem treeT_inj {g : Int → Tm} (hg : Apt g) {t u : Tree} (ht : Good t) (hu : Good u) (h : treeT g t = treeT g u) : t = u := by
  have rt := root_in ht.sh
  have ru := root_in hu.sh
  have bt := ht.sh.bounds
  have bu := hu.sh.bounds
  have hl := hashT_lev hg 6 6 _ _ rt ru (by have := lev_nn rt; omega) (by have := lev_nn ru; omega) h
  have e : lv t = lv u := by
    have h1 := forall_in (fun x n => !(x == n - 1) || lev x == (Nat.log2 n.toNat : Int) && n.toNat == 2 ^ Nat.log2 n.toNat) (by decide +kernel) _ _ rt
    have h2 := forall_in (fun x n => !(x == n - 1) || lev x == (Nat.log2 n.toNat : Int) && n.toNat == 2 ^ Nat.log2 n.toNat) (by decide +kernel) _ _ ru
    simp only [BEq.rfl, Bool.not_true, Bool.false_or, Bool.and_eq_true, beq_iff_eq, Int.toNat_natCast] at h1 h2
    have h3 : Nat.log2 (lv t) = Nat.log2 (lv u) := by omega
    rw [h1.2, h2.2, h3]
  have hvt := ht.vok
  have hvu := hu.vok
  rw [← e] at hvu
  unfold treeT at h
  rw [← e] at h
  have key := hashT_inj hg hvt hvu 6 _ rt (by have := lev_nn rt; omega) h
  refine tree_ext (by omega) (fun x hx => ?_)
  have hin := place_in ht.sh hx
  simpa using key x (places_root hin)

/-- The chain of parent hashes, from above: the hashes, from below, and the leaf's. -/
def chainT : List (Tm × Tm) → List Tm × Tm
  | [] => ([], .text ⟨#[]⟩)
  | (k, c) :: r => ((chainT r).2 :: (chainT r).1, .hash lParent (listT [k, (chainT r).2, c]))

theorem chainT_len : ∀ l : List (Tm × Tm), (chainT l).1.length = l.length
  | [] => rfl
  | (k, c) :: r => by simp [chainT, chainT_len r]

theorem chainT_get : ∀ (l : List (Tm × Tm)) (j : Nat), j < l.length → (chainT l).1[j]? = some (chainT (l.drop (j + 1))).2
  | [], j, h => by simp at h
  | (k, c) :: r, 0, h => by simp [chainT]
  | (k, c) :: r, j + 1, h => by
    simp only [chainT, List.getElem?_cons_succ, List.drop_succ_cons]
    exact chainT_get r j (by simpa using h)

theorem chainT_inj : ∀ {l m : List (Tm × Tm)}, (chainT l).2 = (chainT m).2 → l = m
  | [], [], _ => rfl
  | [], (k, c) :: r, h => by simp [chainT] at h
  | (k, c) :: r, [], h => by simp [chainT] at h
  | (k, c) :: r, (k', c') :: r', h => by
    simp only [chainT, Tm.hash.injEq, true_and] at h
    have h := listT_inj h
    simp only [List.cons.injEq, and_true] at h
    rw [h.1, h.2.2, chainT_inj (l := r) (m := r') h.2.1]

end Go.Proofs.YtmcjincgppddeaaDoor
