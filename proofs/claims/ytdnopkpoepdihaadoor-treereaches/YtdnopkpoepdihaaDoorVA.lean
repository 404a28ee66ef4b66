/-
  What is boxed for the resolutions along one's copath reaches each other member just once (pure).
-/
import Derived.Test.YtdnopkpoepdihaaDoorXC
import Derived.Test.YtdnopkpoepdihaaDoorSG
namespace Go.Proofs.YtdnopkpoepdihaaDoor
open Go.RowKit
set_option linter.unusedSimpArgs false
set_option linter.unusedVariables false

/-- A place that reaches the leaf j: above it, and it isn't late there. -/
def hit (t : Tree) (j : Int) (n : Int) (x : Int) : Bool := underB (2 * j) x n && !decide (j ∈ (vx t x.toNat).late)
def one (b : Bool) : Nat := if b then 1 else 0

theorem kids_in {x n : Int} (h : inB x n = true) (hz : lev x ≠ 0) : inB (x - halfN x) n = true ∧ inB (x + halfN x) n = true ∧ lev (x - halfN x) = lev x - 1 ∧ lev (x + halfN x) = lev x - 1 := by
  have := forall_in (fun x n => lev x == 0 || (inB (x - halfN x) n && inB (x + halfN x) n && lev (x - halfN x) == lev x - 1 && lev (x + halfN x) == lev x - 1)) (by decide +kernel) x n h
  simp only [Bool.or_eq_true, beq_iff_eq, Bool.and_eq_true] at this
  rcases this with h | h
  · exact absurd h hz
  · exact ⟨h.1.1.1, h.1.1.2, h.1.2, h.2⟩

theorem lev_five {x n : Int} (h : inB x n = true) : 0 ≤ lev x ∧ lev x ≤ 5 := by
  have := forall_in (fun x n => decide (0 ≤ lev x) && decide (lev x ≤ 5)) (by decide +kernel) x n h
  simpa using this

theorem kids_under {x y n : Int} (hx : inB x n = true) (hy : inB y n = true) (hl : lev y = 0) (hz : lev x ≠ 0) : one (underB y x n) = one (underB y (x - halfN x) n) + one (underB y (x + halfN x) n) := by
  have := forall_in2 (fun x y n => lev x == 0 || (!(lev y == 0) || one (underB y x n) == one (underB y (x - halfN x) n) + one (underB y (x + halfN x) n))) (by decide +kernel) x y n hx hy
  simp only [Bool.or_eq_true, beq_iff_eq, Bool.not_eq_true'] at this
  rcases this with h | h | h
  · exact absurd h hz
  · rw [hl] at h; simp at h
  · exact h

theorem count_late {l : List Int} (h : l.Pairwise (· < ·)) (j : Int) : (l.filter fun i => i == j).length = one (decide (j ∈ l)) := by
  induction l with
  | nil => simp [one]
  | cons a r ih =>
    obtain ⟨h1, h2⟩ := List.pairwise_cons.1 h
    have := ih h2
    by_cases ha : a = j
    · subst ha
      have hn : a ∉ r := fun hm => by have := h1 a hm; omega
      have e : (r.filter fun i => i == a) = [] := by
        rw [List.filter_eq_nil_iff]
        intro x hx hxa
        simp at hxa
        exact hn (hxa ▸ hx)
      simp [e, one]
    · simp [ha, this, one, Ne.symm ha]

theorem leaf_under {t : Tree} (hs : Sh t) {i j : Int} (hi : fullB t i = true) (hj : fullB t j = true) : underB (2 * j) (2 * i) (lv t) = decide (j = i) := by
  have hb := hs.bounds
  obtain ⟨a, rfl, ha, _⟩ := fullB_nat hi
  obtain ⟨b, rfl, hb', _⟩ := fullB_nat hj
  by_cases e : (b : Int) = a
  · have e' : b = a := by omega
    subst e'
    rw [under_refl (by simp [inB, hs.1]; omega)]
    simp
  · have := even_under (k := b) (j := a) (n := lv t) (by omega) ha hb' (by omega)
    have e2 : ((2 * a : Nat) : Int) = 2 * (a : Int) := by omega
    rw [e2] at this
    rw [this]
    simp [e]

theorem late_facts {t : Tree} (h : Good t) {x : Nat} (hx : x < t.length) (hf : (vx t x).full = true) : (vx t x).late.Pairwise (· < ·) ∧ (∀ i ∈ (vx t x).late, fullB t i = true ∧ underB (2 * i) x (lv t) = true) ∧ (lev (x : Int) = 0 → (vx t x).late = []) := by
  have hv := h.vert x _ (vx_some hx)
  by_cases hl : lev (x : Int) = 0
  · have := hv.leaf hf hl
    rw [this]
    exact ⟨List.Pairwise.nil, by simp, fun _ => rfl⟩
  · obtain ⟨_, _, h1, h2⟩ := hv.par hf hl
    exact ⟨h1, h2, fun hz => absurd hz hl⟩

theorem leaf_late {t : Tree} (h : Good t) {i : Int} (hi : fullB t i = true) : (vx t (2 * i).toNat).late = [] ∧ (vx t (2 * i).toNat).full = true ∧ 0 ≤ i ∧ (2 * i).toNat < t.length := by
  have hb := h.sh.bounds
  obtain ⟨a, rfl, ha, hf⟩ := fullB_nat hi
  have e : (2 * (a : Int)).toNat = 2 * a := by omega
  rw [e]
  have hl := lev_even (k := a) (by omega)
  exact ⟨(late_facts h (x := 2 * a) (by omega) hf).2.2 (by simpa using hl), hf, by omega, by omega⟩

theorem res_count {t : Tree} (h : Good t) {j : Int} (hj : fullB t j = true) : ∀ (f : Nat) (x : Int), inB x (lv t) = true → lev x < f → ((resF f t x).filter (hit t j (lv t))).length = one (underB (2 * j) x (lv t))
  | 0, x, hx, hl => by have := (lev_five hx).1; omega
  | f + 1, x, hx, hl => by
    obtain ⟨m, rfl, hm⟩ := in_place h.sh hx
    have hb := h.sh.bounds
    obtain ⟨r1, r2⟩ := fullB_range hj
    have hjin : inB (2 * j) (lv t) = true := by simp [inB, h.sh.1]; omega
    unfold resF
    simp only [Int.toNat_natCast]
    by_cases hf : (vx t m).full = true
    · rw [if_pos hf]
      obtain ⟨l1, l2, l3⟩ := late_facts h hm hf
      have hlate : (((vx t m).late.map fun i => 2 * i).filter (hit t j (lv t))).length = one (decide (j ∈ (vx t m).late)) := by
        rw [← count_late l1 j, List.filter_map, List.length_map]
        congr 1
        apply List.filter_congr
        intro i hi
        have hfi := (l2 i hi).1
        simp only [Function.comp, hit, leaf_under h.sh hfi hj, (leaf_late h hfi).1]
        by_cases e : j = i
        · simp [e]
        · simp [e, Ne.symm e]
      rw [List.filter_cons]
      cases hu : underB (2 * j) (m : Int) (lv t) with
      | false =>
        have hnot : j ∉ (vx t m).late := fun hmem => by have := (l2 j hmem).2; rw [hu] at this; cases this
        have hh : hit t j (lv t) (m : Int) = false := by simp [hit, hu]
        rw [hh, if_neg (by simp), hlate]
        simp [hnot, one]
      | true =>
        by_cases hmem : j ∈ (vx t m).late
        · have hh : hit t j (lv t) (m : Int) = false := by simp [hit, hu, hmem]
          rw [hh, if_neg (by simp), hlate]
          simp [hmem, one]
        · have hh : hit t j (lv t) (m : Int) = true := by simp [hit, hu, hmem]
          rw [hh, if_pos rfl, List.length_cons, hlate]
          simp [hmem, one]
    · rw [if_neg hf]
      by_cases hz : lev (m : Int) = 0
      · rw [if_pos hz]
        cases hu : underB (2 * j) (m : Int) (lv t) with
        | false => simp [one]
        | true =>
          exfalso
          have e := under_leaf hu hz
          obtain ⟨a, rfl, ha, hfa⟩ := fullB_nat hj
          have e2 : m = 2 * a := by omega
          rw [e2] at hf
          exact hf hfa
      · rw [if_neg hz, List.filter_append, List.length_append]
        obtain ⟨k1, k2, k3, k4⟩ := kids_in hx hz
        have hly : lev (2 * j) = 0 := by
          obtain ⟨a, rfl, ha, _⟩ := fullB_nat hj
          have := lev_even (k := a) (by omega)
          simpa using this
        rw [res_count h hj f _ k1 (by omega), res_count h hj f _ k2 (by omega), kids_under hx hjin hly hz]

theorem res_place {t : Tree} (h : Good t) : ∀ (f : Nat) (x : Int), inB x (lv t) = true → ∀ y ∈ resF f t x, ∃ m : Nat, y = m ∧ m < t.length ∧ (vx t m).full = true
  | 0, x, hx, y, hy => by simp [resF] at hy
  | f + 1, x, hx, y, hy => by
    obtain ⟨m, rfl, hm⟩ := in_place h.sh hx
    unfold resF at hy
    simp only [Int.toNat_natCast] at hy
    split at hy
    · rename_i hf
      rcases List.mem_cons.1 hy with rfl | hy
      · exact ⟨m, rfl, hm, hf⟩
      · obtain ⟨i, hi, rfl⟩ := List.mem_map.1 hy
        have hfi := ((late_facts h hm hf).2.1 i hi).1
        obtain ⟨_, h2, h3, h4⟩ := leaf_late h hfi
        exact ⟨(2 * i).toNat, by omega, h4, h2⟩
    · split at hy
      · simp at hy
      · rename_i hz
        obtain ⟨k1, k2, _, _⟩ := kids_in hx hz
        rcases List.mem_append.1 hy with hy | hy
        · exact res_place h f _ k1 y hy
        · exact res_place h f _ k2 y hy

theorem resI_in {t : Tree} (hs : Sh t) {x : Int} (hx : inB x (lv t) = true) : resI t x = resF 6 t x := by
  obtain ⟨m, rfl, hm⟩ := in_place hs hx
  unfold resI
  rw [if_pos (by simp; omega)]

/-- How often a leaf is reached by the first places of a list. -/
def reach (t : Tree) (j : Int) (C : List Int) (m : Nat) : Nat := ((C.take m).map fun c => ((resI t c).filter (hit t j (lv t))).length).sum

theorem reach_succ (t : Tree) (j : Int) {C : List Int} {m : Nat} {c : Int} (h : C[m]? = some c) : reach t j C (m + 1) = reach t j C m + ((resI t c).filter (hit t j (lv t))).length := by
  unfold reach
  rw [List.take_add_one, h]
  simp

def copl (t : Tree) (i : Int) : List Int := (filt t i).map (·.2)

theorem zip_snd : ∀ (a b : List Int), a.length = b.length → (a.zip b).map (·.2) = b
  | [], [], _ => rfl
  | [], y :: b, h => by simp at h
  | x :: a, [], h => by simp at h
  | x :: a, y :: b, h => by simp [zip_snd a b (by simpa using h)]

theorem pairs_facts {i n : Int} (h : leafB i n = true) : (pathI (2 * i) n).length = (copathI (2 * i) n).length ∧ ∀ c ∈ copathI (2 * i) n, inB c n = true := by
  have := forall_in (fun x n => decide (x % 2 = 1) || (decide ((pathI x n).length = (copathI x n).length) && (copathI x n).all fun c => inB c n)) (by decide +kernel) (2 * i) n (leafB_in h)
  simp only [Bool.or_eq_true, decide_eq_true_eq, Bool.and_eq_true, List.all_eq_true] at this
  rcases this with h | h
  · omega
  · exact h

theorem cover_count {i j n : Int} (hi : leafB i n = true) (hj : leafB j n = true) : ((copathI (2 * i) n).map fun c => one (underB (2 * j) c n)).sum = one (!decide (j = i)) := by
  have := forall_in2 (fun x y n => decide (x % 2 = 1) || (decide (y % 2 = 1) || ((copathI x n).map fun c => one (underB y c n)).sum == one (!decide (y = x)))) (by decide +kernel) (2 * i) (2 * j) n (leafB_in hi) (leafB_in hj)
  simp only [Bool.or_eq_true, decide_eq_true_eq, beq_iff_eq] at this
  rcases this with h | h | h
  · omega
  · omega
  · rw [h]
    by_cases e : j = i
    · simp [e]
    · have e2 : ¬ (2 * j = 2 * i) := by omega
      simp [e, e2]

theorem sum_filter {t : Tree} (g : Int → Nat) (hg : ∀ c, resI t c = [] → g c = 0) : ∀ (ps : List (Int × Int)), ((ps.filter fun p => !(resI t p.2).isEmpty).map fun p => g p.2).sum = (ps.map fun p => g p.2).sum
  | [] => rfl
  | p :: ps => by
    have ih := sum_filter g hg ps
    rw [List.filter_cons]
    by_cases h : resI t p.2 = []
    · simp [h, ih, hg _ h]
    · have : (!(resI t p.2).isEmpty) = true := by simpa using h
      rw [if_pos this]
      simp [ih]

theorem reach_all {t : Tree} (h : Good t) {i j : Int} (hi : fullB t i = true) (hj : fullB t j = true) : reach t j (copl t i) (copl t i).length = one (!decide (j = i)) := by
  obtain ⟨a1, a2⟩ := fullB_range hi
  obtain ⟨b1, b2⟩ := fullB_range hj
  have li : leafB i (lv t) = true := by simp [leafB, h.sh.1]; omega
  have lj : leafB j (lv t) = true := by simp [leafB, h.sh.1]; omega
  obtain ⟨p1, p2⟩ := pairs_facts li
  unfold reach
  rw [List.take_length]
  have hc : (decide (0 ≤ i) && decide (i < lv t)) = true := by simp; omega
  have e1 : copl t i = ((pairs i (lv t)).filter fun p => !(resI t p.2).isEmpty).map (·.2) := by unfold copl filt; rw [if_pos hc]
  rw [e1, List.map_map]
  have e2 := sum_filter (t := t) (fun c => ((resI t c).filter (hit t j (lv t))).length) (fun c hcn => by simp [hcn]) (pairs i (lv t))
  have e3 : ((pairs i (lv t)).map fun p => ((resI t p.2).filter (hit t j (lv t))).length) = ((pairs i (lv t)).map (·.2)).map fun c => ((resI t c).filter (hit t j (lv t))).length := by rw [List.map_map]; rfl
  have e4 : (pairs i (lv t)).map (·.2) = copathI (2 * i) (lv t) := zip_snd _ _ p1
  have e5 : ((copathI (2 * i) (lv t)).map fun c => ((resI t c).filter (hit t j (lv t))).length) = (copathI (2 * i) (lv t)).map fun c => one (underB (2 * j) c (lv t)) := by
    apply List.map_congr_left
    intro c hcm
    have hin := p2 c hcm
    rw [resI_in h.sh hin, res_count h hj 6 c hin (by have := lev_five hin; omega)]
  rw [← cover_count li lj, ← e5, ← e4, ← e3, ← e2]
  rfl

theorem copl_in {t : Tree} (h : Good t) {i : Int} (hi : fullB t i = true) : ∀ c ∈ copl t i, inB c (lv t) = true := by
  obtain ⟨a1, a2⟩ := fullB_range hi
  have li : leafB i (lv t) = true := by simp [leafB, h.sh.1]; omega
  obtain ⟨p1, p2⟩ := pairs_facts li
  intro c hc
  have hcc : (decide (0 ≤ i) && decide (i < lv t)) = true := by simp; omega
  unfold copl filt at hc
  rw [if_pos hcc] at hc
  obtain ⟨p, hp, rfl⟩ := List.mem_map.1 hc
  have := (List.mem_filter.1 hp).1
  exact p2 _ (List.of_mem_zip this).2

theorem reach_le {t : Tree} (h : Good t) {i j : Int} (hi : fullB t i = true) (hj : fullB t j = true) : ∀ m, m ≤ (copl t i).length → reach t j (copl t i) m ≤ m
  | 0, _ => by simp [reach]
  | m + 1, hm => by
    have ih := reach_le h hi hj m (by omega)
    obtain ⟨c, hc⟩ : ∃ c, (copl t i)[m]? = some c := ⟨(copl t i)[m]'(by omega), by simp⟩
    rw [reach_succ t j hc]
    have hin := copl_in h hi c (List.mem_of_getElem? hc)
    rw [resI_in h.sh hin, res_count h hj 6 c hin (by have := lev_five hin; omega)]
    have : one (underB (2 * j) c (lv t)) ≤ 1 := by unfold one; split <;> omega
    omega

end Go.Proofs.YtdnopkpoepdihaaDoor
