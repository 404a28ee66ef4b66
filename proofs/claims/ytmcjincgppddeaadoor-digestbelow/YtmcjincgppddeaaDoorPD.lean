/-
  Parents: the hashes as a chain; the walk.
-/
import Derived.Test.YtmcjincgppddeaaDoorPC
import Derived.BigRegionIn
namespace Go.Proofs.YtmcjincgppddeaaDoor
open Go.RowKit Go.Shelf
set_option linter.unusedSimpArgs false
set_option linter.unusedVariables false

/-- The hash behind the keys of these places, one behind the other. -/
def belT (g : Int → Tm) (t : Tree) (ks cs : List Int) (l : List Nat) : Tm :=
  l.foldl (fun b k => .hash lParent (listT [g (ks.getD k 0), b, hashT g t 6 (cs.getD k 0)])) (.text ⟨#[]⟩)

theorem belT_snoc (g : Int → Tm) (t : Tree) (ks cs : List Int) (l : List Nat) (k : Nat) : belT g t ks cs (l ++ [k]) = .hash lParent (listT [g (ks.getD k 0), belT g t ks cs l, hashT g t 6 (cs.getD k 0)]) := by simp [belT]

def pairL (g : Int → Tm) (t : Tree) (ks cs : List Int) (k : Nat) : Tm × Tm := (g (ks.getD k 0), hashT g t 6 (cs.getD k 0))
def chainL (g : Int → Tm) (t : Tree) (ks cs : List Int) : List (Tm × Tm) := (List.range ks.length).map (pairL g t ks cs)

theorem chainL_len (g : Int → Tm) (t : Tree) (ks cs : List Int) : (chainL g t ks cs).length = ks.length := by simp [chainL]

theorem chainL_drop (g : Int → Tm) (t : Tree) (ks cs : List Int) (j : Nat) (hj : j < ks.length) : (chainL g t ks cs).drop j = pairL g t ks cs j :: (chainL g t ks cs).drop (j + 1) := by
  rw [List.drop_eq_getElem_cons (by rw [chainL_len]; exact hj)]
  congr 1
  simp [chainL]

def desc (n j : Nat) : List Nat := (List.range' j (n - j)).reverse
theorem desc_step {n j : Nat} (h : j < n) : desc n j = desc n (j + 1) ++ [j] := by
  unfold desc
  obtain ⟨m, hm⟩ : ∃ m, n - j = m + 1 := ⟨n - j - 1, by omega⟩
  rw [hm, show n - (j + 1) = m by omega, List.range'_succ]
  simp
theorem desc_zero (n : Nat) : desc n 0 = (List.range n).reverse := by simp [desc, List.range_eq_range']

theorem belT_desc (g : Int → Tm) (t : Tree) (ks cs : List Int) : ∀ (m j : Nat), ks.length - j = m → j ≤ ks.length → belT g t ks cs (desc ks.length j) = (chainT ((chainL g t ks cs).drop j)).2 := by
  intro m
  induction m with
  | zero =>
    intro j hm hj
    have : j = ks.length := by omega
    subst this
    rw [List.drop_eq_nil_of_le (by rw [chainL_len]; exact Nat.le_refl _)]
    simp [desc, belT, chainT]
  | succ m ih =>
    intro j hm hj
    have hlt : j < ks.length := by omega
    rw [desc_step hlt, belT_snoc, ih (j + 1) (by omega) (by omega), chainL_drop g t ks cs j hlt]
    rfl

/-- What stands in the row of hashes. -/
def Slots (g : Int → Tm) (t : Tree) (ks cs : List Int) (ns : List Nd) (hs : List Int) (pre : List Nat) : Prop :=
  ∀ (p : List Nat) (k : Nat) (q : List Nat), pre = p ++ k :: q → k ∉ q → ∃ y, hs[k]? = some y ∧ Means ns y (belT g t ks cs p)

theorem Slots.nil {g : Int → Tm} {t : Tree} {ks cs : List Int} {ns : List Nd} {hs : List Int} : Slots g t ks cs ns hs [] := fun p k q e => by simp at e

theorem Slots.keeps {g : Int → Tm} {t : Tree} {ks cs : List Int} {ns ns' : List Nd} {hs : List Int} {pre : List Nat} (h : Slots g t ks cs ns hs pre) (hp : ns <+: ns') : Slots g t ks cs ns' hs pre := fun p k q e hq => by
  obtain ⟨y, h1, h2⟩ := h p k q e hq
  exact ⟨y, h1, h2.keeps hp⟩

theorem Slots.put {g : Int → Tm} {t : Tree} {ks cs : List Int} {ns : List Nd} {hs : List Int} {pre : List Nat} (h : Slots g t ks cs ns hs pre) {k : Nat} (hk : k < hs.length) {y : Int} (hy : Means ns y (belT g t ks cs pre)) : Slots g t ks cs ns (hs.set k y) (pre ++ [k]) := fun p j q e hq => by
  rcases List.eq_nil_or_concat q with rfl | ⟨q', z, rfl⟩
  · have e2 := List.append_inj' e rfl
    obtain ⟨rfl, e3⟩ := e2
    simp at e3
    subst e3
    exact ⟨y, by simp [hk], hy⟩
  · have e2 : pre ++ [k] = (p ++ j :: q') ++ [z] := by rw [e]; simp
    obtain ⟨rfl, e3⟩ := List.append_inj' e2 rfl
    simp at e3
    subst e3
    obtain ⟨y', h1, h2⟩ := h p j q' rfl (fun hm => hq (by simp [hm]))
    refine ⟨y', ?_, h2⟩
    rw [List.getElem?_set_ne (by rintro rfl; exact hq (by simp))]
    exact h1

theorem mean2_of {ns : List Nd} : ∀ {l : List Int} {L : List Tm}, l.length = L.length → (∀ (k : Nat) (x : Int) (X : Tm), l[k]? = some x → L[k]? = some X → Means ns x X) → Mean2 ns l L
  | [], [], _, _ => .nil
  | [], _ :: _, h, _ => by simp at h
  | _ :: _, [], h, _ => by simp at h
  | x :: l, X :: L, h, hm => .cons (hm 0 x X rfl rfl) (mean2_of (by simpa using h) (fun k y Y h1 h2 => hm (k + 1) y Y (by simpa using h1) (by simpa using h2)))

theorem Slots.all {g : Int → Tm} {t : Tree} {ks cs : List Int} {ns : List Nd} {hs : List Int} (h : Slots g t ks cs ns hs (List.range ks.length).reverse) (hl : hs.length = ks.length) : Mean2 ns hs (chainT (chainL g t ks cs)).1 := by
  refine mean2_of (by rw [chainT_len, chainL_len, hl]) (fun k x X hx hX => ?_)
  have hk : k < ks.length := by have := (List.getElem?_eq_some_iff.1 hx).1; omega
  rw [chainT_get _ _ (by rw [chainL_len]; exact hk)] at hX
  cases hX
  have e : (List.range ks.length).reverse = desc ks.length (k + 1) ++ k :: (List.range k).reverse := by
    rw [← desc_zero]
    have : ∀ j, j ≤ k + 1 → desc ks.length 0 = desc ks.length j ++ (List.range j).reverse := by
      intro j
      induction j with
      | zero => intro _; simp
      | succ j ih => intro hj; rw [ih (by omega), desc_step (by omega), range_snoc]; simp
    rw [this (k + 1) (Nat.le_refl _), range_snoc]
  obtain ⟨y, h1, h2⟩ := h _ k _ e (by simp)
  rw [hx] at h1
  cases h1
  rw [belT_desc g t ks cs _ (k + 1) rfl (by omega)] at h2
  exact h2

theorem filt_place {t : Tree} (hs : Sh t) {i : Int} (hi : (decide (0 ≤ i) && decide (i < (lv t : Int))) = true) : (∀ y ∈ (filt t i).map (·.2), inB y (lv t) = true) ∧ (filt t i).length ≤ 6 := by
  have hi2 := hi
  simp only [Bool.and_eq_true, decide_eq_true_eq] at hi2
  have hlf : leafB i (lv t) = true := by simp [leafB, hs.1]; omega
  have hin := leafB_in hlf
  have h1 := forall_in (fun x n => (copathI x n).all (fun y => inB y n) && decide ((copathI x n).length ≤ 6)) (by decide +kernel) _ _ hin
  simp only [Bool.and_eq_true, decide_eq_true_eq, List.all_eq_true] at h1
  have hsub : ∀ p ∈ filt t i, p ∈ pairs i (lv t) := fun p hp => by
    simp only [filt, hi, if_true] at hp
    exact (List.mem_filter.1 hp).1
  refine ⟨fun y hy => ?_, ?_⟩
  · obtain ⟨p, hp, rfl⟩ := List.mem_map.1 hy
    have := hsub p hp
    unfold pairs at this
    exact h1.1 _ (List.of_mem_zip this).2
  · have h2 : (filt t i).length ≤ (pairs i (lv t)).length := by
      simp only [filt, hi, if_true]
      exact List.length_filter_le _ _
    have h3 : (pairs i (lv t)).length ≤ (copathI (2 * i) (lv t)).length := by
      unfold pairs
      rw [List.length_zip]
      omega
    omega

/-- There is room for what a path costs. -/
structure RoomP (n : Nat) : Prop where
  out : (n : Int) + 20000 < 262144

attribute [local go_sem] Oper.semAt_some

set_option maxRecDepth 100000 in
set_option maxHeartbeats 4000000 in
theorem parents_yes {t : Tree} (hf : Fit t) {g : Int → Tm} {w : World} {s : Nat} {ns : List Nd} {dr : Int} {v vk : Value} (h : Seat w s ns dr) (ht : TS w s v t) {i : Int} (hi : (decide (0 ≤ i) && decide (i < (lv t : Int))) = true) {ks : List Int} (hk : IS w s vk ks) (hl : ks.length = (filt t i).length) (hl6 : ks.length ≤ 6)
    (hks : ∀ k ∈ ks, Means ns k (g k)) (hkn : ∀ z, inB z (lv t) = true → Known ns g (vx t z.toNat)) (hr : (ns.length : Int) + 20000 < 262144) :
    CallsIn Fence.wide 5 Tryd.prog 25 #[.pointer (some ⟨s, 0, none⟩), v, .int .i64 i, vk] w fun e w' => ∃ vh l ns' hs, e = .returned (.tuple #[vh, .int .i64 l]) ∧ Run s w w' ns ns' dr 20000 ∧ Own2 w.heap.size w' s vh hs.length (hs.map (Value.int .i64)) ∧ Mean2 ns' hs (chainT (chainL g t ks ((filt t i).map (·.2)))).1 ∧ Means ns' l (chainT (chainL g t ks ((filt t i).map (·.2)))).2 := by
  obtain ⟨va, vcap, rfl, -, _⟩ := id ht.tree
  obtain ⟨ka, kcap, rfl, -, _⟩ := id hk.ints
  have Hr : RoomP ns.length := ⟨hr⟩
  have Hk : Hid (IS w s (.slice ka ks.length kcap) ks) := hk
  have Hks : Hid (∀ k ∈ ks, Means ns k (g k)) := hks
  have Hkn : Hid (∀ z, inB z (lv t) = true → Known ns g (vx t z.toNat)) := hkn
  have Hl6 : Hid (ks.length ≤ 6) := hl6
  have Ht : Hid (TS w s (.slice va t.length vcap) t) := ht
  have HS : Hid (Seat w s ns dr) := h
  have Hl : Hid (ks.length = (filt t i).length) := hl
  have Hin0 : Hid (∀ y ∈ (filt t i).map (·.2), inB y (lv t) = true) := (filt_place hf.sh hi).1
  have hb0 : Below w.heap.size w (((w.alloc (.cells #[.pointer (some ⟨s, 0, none⟩)] 25)).alloc (.cells #[.slice va t.length vcap] 22)).alloc (.cells #[.slice none 0 0] 30)) := (((Below.refl _ w).alloc (Nat.le_refl _) _).alloc (by simp) _).alloc (by simp; omega) _
  have x4 : Boxed (((w.alloc (.cells #[.pointer (some ⟨s, 0, none⟩)] 25)).alloc (.cells #[.slice va t.length vcap] 22)).alloc (.cells #[.slice none 0 0] 30)) w.heap.size 25 (.pointer (some ⟨s, 0, none⟩)) := ((Boxed.new w 25 _).alloc _).alloc _
  have x5 : Boxed (((w.alloc (.cells #[.pointer (some ⟨s, 0, none⟩)] 25)).alloc (.cells #[.slice va t.length vcap] 22)).alloc (.cells #[.slice none 0 0] 30)) (w.heap.size + 1) 22 (.slice va t.length vcap) := by
    have := (Boxed.new (w.alloc (.cells #[.pointer (some ⟨s, 0, none⟩)] 25)) 22 (.slice va t.length vcap)).alloc (.cells #[.slice none 0 0] 30)
    rwa [World.size_alloc] at this
  have x8 : Boxed (((w.alloc (.cells #[.pointer (some ⟨s, 0, none⟩)] 25)).alloc (.cells #[.slice va t.length vcap] 22)).alloc (.cells #[.slice none 0 0] 30)) (w.heap.size + 2) 30 (.slice none 0 0) := by
    have := Boxed.new ((w.alloc (.cells #[.pointer (some ⟨s, 0, none⟩)] 25)).alloc (.cells #[.slice va t.length vcap] 22)) 30 (.slice none 0 0)
    rwa [World.size_alloc, World.size_alloc] at this
  have hsz0 : (((w.alloc (.cells #[.pointer (some ⟨s, 0, none⟩)] 25)).alloc (.cells #[.slice va t.length vcap] 22)).alloc (.cells #[.slice none 0 0] 30)).heap.size = w.heap.size + 3 := by simp
  obtain ⟨W0, hW0⟩ : ∃ W0, ((w.alloc (.cells #[.pointer (some ⟨s, 0, none⟩)] 25)).alloc (.cells #[.slice va t.length vcap] 22)).alloc (.cells #[.slice none 0 0] 30) = W0 := ⟨_, rfl⟩
  rw [hW0] at hb0 x4 x5 x8 hsz0
  have c5 := x5.cell
  have h0 := h.below hb0
  have ht0 := ht.below h.st.lt hb0
  have hFl := Filtered_any hf i ht0.tree h0.tab
  have q0 : ((ks.length : Int) != (ks.length : Int)) = false := by simp
  have hcl : ((filt t i).map (·.2)).length = ks.length := by simp [hl]
  obtain ⟨cs, hcs⟩ : ∃ cs, (filt t i).map (·.2) = cs := ⟨_, rfl⟩
  obtain ⟨ps, hps⟩ : ∃ ps, (filt t i).map (·.1) = ps := ⟨_, rfl⟩
  rw [hcs] at hFl hcl
  rw [hps] at hFl
  rw [hcs]
  have Hcs : Hid ((filt t i).map (·.2) = cs) := hcs
  have Hin : Hid (∀ y ∈ cs, inB y (lv t) = true) := by rw [← hcs]; exact Hin0.out
  have Hcl : Hid (cs.length = ks.length) := hcl
  clear hcs hps
  clear hr hk hks hkn hl6 ht h hl
  refine callsIn_of_wp_marks Tryd.func25 rfl trivial ?_ rfl
  simp only [Tryd.ntmps25, List.size_toArray, List.length_cons, List.length_nil, Nat.reduceAdd, Nat.reduceSub, Array.replicate_succ, Array.replicate_zero, List.push_toArray, List.append_toArray, List.nil_append, List.cons_append]
  gi_wp2_with (first
    | rw [hW0]
    | fail)
  refine ⟨trivial, ?_⟩
  gi_at_call 51
  refine (callsIn_wide.2 hFl).mono ?_
  rintro e w1 ⟨v1, v2, rfl, o1, o2, b1⟩
  obtain ⟨pa, pc, rfl⟩ : ∃ pa pc, v1 = .slice pa ps.length pc := by
    rcases o1.2 with ⟨rfl, e⟩ | ⟨g, cap, cur, rfl, _⟩
    · exact ⟨none, 0, by rw [e]⟩
    · exact ⟨_, cap, rfl⟩
  obtain ⟨ca, cc, rfl⟩ : ∃ ca cc, v2 = .slice ca ks.length cc := by
    rcases o2.2 with ⟨rfl, e⟩ | ⟨g, cap, cur, rfl, _⟩
    · exact ⟨none, 0, by rw [← hcl, e]⟩
    · exact ⟨_, cap, by rw [hcl]⟩
  clear hcl
  have hx11 := Boxed.new w1 30 (.slice ca ks.length cc)
  have hb11 : Below w1.heap.size w1 (w1.alloc (.cells #[.slice ca ks.length cc] 30)) := (Below.refl _ _).alloc (Nat.le_refl _) _
  obtain ⟨W1, hW1⟩ : ∃ W1, w1.alloc (.cells #[.slice ca ks.length cc] 30) = W1 := ⟨_, rfl⟩
  rw [hW1] at hx11 hb11
  have hb01 : Below W0.heap.size W0 W1 := b1.trans (hb11.mono b1.size)
  have h1 := h0.below hb01
  have ht1 := ht0.below h0.st.lt hb01
  have y4 : Boxed W1 w.heap.size 25 _ := (hb01.block _ x4.lt).trans x4
  have y5 : Boxed W1 (w.heap.size + 1) 22 _ := (hb01.block _ x5.lt).trans x5
  have y8 : Boxed W1 (w.heap.size + 2) 30 _ := (hb01.block _ x8.lt).trans x8
  have d4 := y4.cell
  have d5 := y5.cell
  have d11 := hx11.cell
  have hil := isLeaf_m ht1.tree hf.sh i
  rw [hi] at hil
  gi_wp2_with (first
    | rw [hW1]
    | fail)
  refine ⟨trivial, ?_⟩
  gi_at_call 52
  refine (callsIn_wide.2 hil).mono ?_
  rintro e w' ⟨rfl, hw⟩
  obtain rfl := hw.symm
  have hpt := pathHasTerms_m hf (g := g) h1 ht1 (cs := cs) (ks := ks) (vc := .slice ca ks.length cc) (vk := .slice ka ks.length kcap) (by
    have := (ownI_p (row_below o2 hb11) (by have := Hcl.out; have := Hl6.out; omega)).ints
    exact this) ((Hk.out.below HS.out.st.lt (hb0.trans (hb01.mono hb0.size))).ints) Hcl.out.symm (fun k hk => (Hks.out k hk).has) (fun x hx z hz => Hkn.out z (under_in hz).1)
  gi_wp2_with fail
  refine ⟨trivial, ?_⟩
  gi_at_call 53
  refine (callsIn_wide.2 hpt).mono ?_
  rintro e w2 ⟨rfl, b2⟩
  have hb02 : Below w.heap.size w w2 := hb0.trans ((hb01.trans (b2.mono hb01.size)).mono hb0.size)
  have h2 := HS.out.below hb02
  obtain ⟨hmk, hown⟩ := make_own h2.st ks.length (by have := Hl6.out; omega)
  have hbm : Below w2.heap.size w2 (w2.alloc (.cells ((List.replicate ks.length 0).map (Value.int .i64)).toArray 3)) := (Below.refl _ _).alloc (Nat.le_refl _) _
  have hszm : (w2.alloc (.cells ((List.replicate ks.length 0).map (Value.int .i64)).toArray 3)).heap.size = w2.heap.size + 1 := by simp
  obtain ⟨W3, hW3⟩ : ∃ W3, w2.alloc (.cells ((List.replicate ks.length 0).map (Value.int .i64)).toArray 3) = W3 := ⟨_, rfl⟩
  rw [hW3] at hmk hbm hown hszm
  have hb23 : Below W1.heap.size W1 W3 := b2.trans (hbm.mono b2.size)
  have hb03 : Below w.heap.size w W3 := hb02.trans (hbm.mono hb02.size)
  have z8 : Boxed W3 (w.heap.size + 1 + 1) 30 _ := (hb23.block _ y8.lt).trans y8
  have z4 : Boxed W3 w.heap.size 25 _ := (hb23.block _ y4.lt).trans y4
  have z5 : Boxed W3 (w.heap.size + 1) 22 _ := (hb23.block _ y5.lt).trans y5
  have z11 : Boxed W3 w1.heap.size 30 _ := (hb23.block _ hx11.lt).trans hx11
  have e1 := b1.size
  have e2 := b2.size
  have e11 : W1.heap.size = w1.heap.size + 1 := by rw [← hW1]; simp
  have hOw : ∀ k, Own W3 s k → k < w.heap.size := fun k ho => HS.out.st.own_lt ((own_below1 HS.out.st.lt hb03 k).1 ho)
  have hR3 : Run s w W3 ns ns dr 0 := Run.ofBelow HS.out hb03
  have hgr := grownBy_setCell' W3 (w.heap.size + 1 + 1) (.slice (some ⟨w2.heap.size, 0, none⟩) ks.length ks.length)
  obtain ⟨hR3', hO3⟩ := hR3.grown hgr (fun g e => by cases e; exact ⟨by omega, fun ho => by have := hOw _ ho; omega⟩) HS.out.tab.size
  have rH : Own2 w.heap.size W3 s (.slice (some ⟨w2.heap.size, 0, none⟩) ks.length ks.length) ks.length ((List.replicate ks.length 0).map (Value.int .i64)) := hown.mono hb02.size
  have rC : Own2 w.heap.size W3 s (.slice ca ks.length cc) cs.length (cs.map (Value.int .i64)) := ⟨(row_below (row_below o2 hb11) hb23).mono (by omega), fun g e ho => by have := hOw g ho; have := (o2.lt g e).1; omega⟩
  have rH' := rH.kept hgr (fun g e e2 => by
    have e3 : w2.heap.size = g := by simpa [Value.ownBlock] using e
    have e4 : g = w.heap.size + 1 + 1 := by simpa using e2
    omega) hO3
  have rC' := rC.kept hgr (fun g e e2 => by
    have e4 : g = w.heap.size + 1 + 1 := by simpa using e2
    have := (o2.lt g e).1
    omega) hO3
  have u4 := z4.other (B' := w.heap.size + 1 + 1) (by omega) (.slice (some ⟨w2.heap.size, 0, none⟩) ks.length ks.length)
  have u5 := z5.other (B' := w.heap.size + 1 + 1) (by omega) (.slice (some ⟨w2.heap.size, 0, none⟩) ks.length ks.length)
  have u11 := z11.other (B' := w.heap.size + 1 + 1) (by omega) (.slice (some ⟨w2.heap.size, 0, none⟩) ks.length ks.length)
  have u8 := z8.set (.slice (some ⟨w2.heap.size, 0, none⟩) ks.length ks.length)
  have f8 := z8.frozen
  have d8 := z8.cell
  have c4 := u4.cell
  have hOlt : ∀ b, (b = w.heap.size ∨ b = w.heap.size + 1 ∨ b = w.heap.size + 2 ∨ b = w1.heap.size) → ¬ Own (W3.setCell ⟨w.heap.size + 1 + 1, 0, none⟩ (.slice (some ⟨w2.heap.size, 0, none⟩) ks.length ks.length)) s b := fun b hb ho => by
    have := hOw b ((hO3 b).1 ho)
    rcases hb with e | e | e | e <;> omega
  have hPb := fun (Y : World) (ns' : List Nd) (c' : Nat) (k : Run s _ Y ns ns' dr c') (t0 : Int) => PM.begin (v := .slice va t.length vcap) hR3' u4 u5 u8 u11 hOlt rH' rC' (by omega) (by omega) (fun g e => ⟨by have := (o2.lt g e).1; omega, (o2.lt g e).2⟩) HS.out.tab.size (by simp) k t0
  obtain ⟨X3, hX3⟩ : ∃ X3, W3.setCell ⟨w.heap.size + 1 + 1, 0, none⟩ (.slice (some ⟨w2.heap.size, 0, none⟩) ks.length ks.length) = X3 := ⟨_, rfl⟩
  rw [hX3] at hR3' c4 hPb
  have htx := text_m hR3'.seat ⟨#[]⟩ (by decide) (by have := Hr.out; omega)
  have HPb : Hid (∀ (Y : World) (ns' : List Nd) (c' : Nat) (k : Run s X3 Y ns ns' dr c') (t0 : Int), PM w s ns dr (.slice va t.length vcap) ks.length w2.heap.size w1.heap.size Y.heap.size (.slice ca ks.length cc) cs (Y.alloc (.cells #[.int .i64 t0] 3)) ns' (0 + c') t0 (List.replicate ks.length 0)) := hPb
  have HR3 : Hid (Run s w X3 ns ns dr 0) := hR3'
  clear hPb u4 u5 u8 u11 hOlt rH' rC' rH rC z4 z5 z11 hgr hO3 hR3 hOw hown o1 o2 hpt hil hFl hb23 hb03 y4 y5 y8 x4 x5 x8 hx11 h1 ht1 h0 ht0 hR3' c5 d4 d5 d11
  gi_wp2_with (first
    | rw [hmk]
    | rw [hX3]
    | fail)
  refine ⟨trivial, ?_⟩
  gi_at_call 30
  refine (callsIn_wide.2 htx).mono ?_
  rintro e w4 ⟨t0, ns4, rfl, r4, m4⟩
  have HPM : Hid (PM w s ns dr (.slice va t.length vcap) ks.length w2.heap.size w1.heap.size w4.heap.size (.slice ca ks.length cc) cs (w4.alloc (.cells #[.int .i64 t0] 3)) ns4 (0 + 1) t0 (List.replicate ks.length 0)) := HPb.out w4 ns4 1 r4 t0
  have Hm4 : Hid (Means ns4 t0 (belT g t ks cs [])) := m4
  have hsz4 : (w4.alloc (.cells #[.int .i64 t0] 3)).heap.size = w4.heap.size + 1 := by simp
  obtain ⟨W4, hW4⟩ : ∃ W4, w4.alloc (.cells #[.int .i64 t0] 3) = W4 := ⟨_, rfl⟩
  rw [hW4] at HPM hsz4
  have hbk := backward_any ka ks.length kcap W4
  have hb5 : Below W4.heap.size W4 (W4.alloc (.cells #[.slice ka ks.length kcap] 30)) := (Below.refl _ _).alloc (Nat.le_refl _) _
  have hxk := Boxed.new W4 30 (.slice ka ks.length kcap)
  have hsz5 : (W4.alloc (.cells #[.slice ka ks.length kcap] 30)).heap.size = W4.heap.size + 1 := by simp
  obtain ⟨W5, hW5⟩ : ∃ W5, W4.alloc (.cells #[.slice ka ks.length kcap] 30) = W5 := ⟨_, rfl⟩
  rw [hW5] at hb5 hxk hsz5 hbk
  clear HPb htx r4 m4
  gi_wp2_with (first
    | rw [hW4]
    | fail)
  refine ⟨trivial, ?_⟩
  gi_at_call 54
  refine (callsIn_wide.2 hbk).mono ?_
  rintro e w' ⟨rfl, hw⟩
  obtain rfl := hw.symm
  have HPM5 : Hid (PM w s ns dr (.slice va t.length vcap) ks.length w2.heap.size w1.heap.size w4.heap.size (.slice ca ks.length cc) cs W5 ns4 (0 + 1) t0 (List.replicate ks.length 0)) := HPM.out.below hb5
  clear hbk
  gi_wp2_with fail
  have hst := HS.out.st
  obtain ⟨q, hq⟩ : ∃ q : Nat → Prop, q = fun b => b = w4.heap.size + 1 ∨ ∃ off, ka = some ⟨b, off, none⟩ ∧ ks ≠ [] := ⟨_, rfl⟩
  have hKw : ∀ b off, ka = some ⟨b, off, none⟩ → ks ≠ [] → b < w.heap.size ∧ ¬ Own w s b ∧ ∀ (i : Nat) (x : Int), ks[i]? = some x → w.cell? ⟨b, off + i, none⟩ = some (.int .i64 x) := fun b off e hne => by
    obtain ⟨a', cap', e1, _, h2⟩ := Hk.out
    simp only [Value.slice.injEq] at e1
    obtain ⟨b', off', e2, h3, h4, h5⟩ := h2 hne
    rw [← e1.1, e] at e2
    cases e2
    exact ⟨h4, h3, h5⟩
  have hKs : ks ≠ [] → ∃ b off, ka = some ⟨b, off, none⟩ := fun hne => by
    obtain ⟨a', cap', e1, _, h2⟩ := Hk.out
    simp only [Value.slice.injEq] at e1
    obtain ⟨b', off', e2, _⟩ := h2 hne
    exact ⟨b', off', by rw [e1.1, e2]⟩
  have hmv5 := HPM5.out.run.mv
  have hw5 : w.heap.size ≤ W5.heap.size := hmv5.size
  have hQ5 : QOk q W5 s := fun b hb => by
    rw [hq] at hb
    rcases hb with e | ⟨off, e, hne⟩
    · refine ⟨by omega, fun ho => ?_⟩
      have h1 := (own_below1 HPM.out.run.seat.st.lt hb5 b).1 ho
      have := HPM.out.run.seat.st.own_lt h1
      omega
    · obtain ⟨h1, h2, _⟩ := hKw b off e hne
      exact ⟨Nat.lt_of_lt_of_le h1 hmv5.size, hmv5.free h1 h2⟩
  have hqne : ∀ b, q b → b ≠ w2.heap.size ∧ b ≠ w4.heap.size := fun b hb => by
    rw [hq] at hb
    obtain ⟨_, o2, o3, _⟩ := HPM5.out.ord
    rcases hb with e | ⟨off, e, hne⟩
    · omega
    · obtain ⟨h1, _⟩ := hKw b off e hne
      omega
  have hKy : Keys W5 (w4.heap.size + 1) ks ka kcap q := by
    refine ⟨by have := hxk.cell; rwa [hsz4] at this, by rw [hq]; exact .inl rfl, fun hne => ?_⟩
    obtain ⟨b, off, e⟩ := hKs hne
    obtain ⟨h1, h2, h3⟩ := hKw b off e hne
    exact ⟨b, off, e, by rw [hq]; exact .inr ⟨off, e, hne⟩, fun i x hx => (World.cell?_of_block (w := w) (a := ⟨b, off + i, none⟩) (hmv5.block b h1 h2)).trans (h3 i x hx)⟩
  have hI : OwnFrom W5.heap.size (fun (pre : List (Ix ks)) W => ∃ ns1 c bel hs, PM w s ns dr (.slice va t.length vcap) ks.length w2.heap.size w1.heap.size w4.heap.size (.slice ca ks.length cc) cs W ns1 c bel hs ∧ c ≤ 1 + 3000 * pre.length ∧ Means ns1 bel (belT g t ks cs (pre.map (·.1))) ∧ Slots g t ks cs ns1 hs (pre.map (·.1)) ∧ QOk q W s) := by
    rintro pre A B row ⟨ns1, c, bel, hs, h1, h2, h3, h4, h5⟩ hgr hr
    have hL : w4.heap.size < W5.heap.size := by omega
    refine ⟨ns1, c, bel, hs, PM.own hst hL () A B row h1 hgr hr, h2, h3, h4, fun b hb => ?_⟩
    obtain ⟨_, hO⟩ := h1.run.seat.st.keep (w' := B) (fun k hk => hgr.block k (h1.run.seat.st.own_lt hk) (fun e => by
      obtain ⟨hge, o, ho1, ho2⟩ := hr k e.symm
      exact h1.notOwn hst ho1 ho2 (by omega) hk))
    exact ⟨Nat.lt_of_lt_of_le (h5 b hb).1 hgr.size, fun ho => (h5 b hb).2 ((hO b).1 ho)⟩
  refine wpIn_rangeFunc_ownG rfl (by omega) (gf := 83) (lb := #[.pointer (some ⟨w4.heap.size + 1, 0, none⟩)]) rfl trivial (enters_of Tryd.func83 (by kernel_rfl) rfl)
    (back_stops 4 (by omega) (w4.heap.size + 1) ks ka kcap q W5 hKy (fun b hb => (hQ5 b hb).1) (by have := Hl6.out; omega)) KpB.t (KpB.b (fun b hb => (hQ5 b hb).1)) (Below.refl _ _) (fun _ => rfl)
    (fun (pre : List (Ix ks)) W => ∃ ns1 c bel hs, PM w s ns dr (.slice va t.length vcap) ks.length w2.heap.size w1.heap.size w4.heap.size (.slice ca ks.length cc) cs W ns1 c bel hs ∧ c ≤ 1 + 3000 * pre.length ∧ Means ns1 bel (belT g t ks cs (pre.map (·.1))) ∧ Slots g t ks cs ns1 hs (pre.map (·.1)) ∧ QOk q W s)
    (fun _ _ _ => False)
    hI
    (fun _ _ _ _ _ hs _ _ => hs)
    ⟨ns4, 0 + 1, t0, _, HPM5.out, by simp, Hm4.out, Slots.nil, hQ5⟩
    (fun x : Ix ks => { tmps := #[Value.pointer (some ⟨s, 0, none⟩), Value.slice va (List.length t) vcap, Value.int IntKind.i64 i, Value.slice ka ks.length kcap, Value.pointer (some ⟨w.heap.size, 0, none⟩), Value.pointer (some ⟨w.heap.size + 1, 0, none⟩), undef, undef, Value.pointer (some ⟨w.heap.size + 1 + 1, 0, none⟩), Value.int IntKind.i64 0, Value.slice pa ps.length pc, Value.pointer (some ⟨w1.heap.size, 0, none⟩), Value.pointer (some ⟨w4.heap.size, 0, none⟩), Value.int IntKind.i64 x.1, Value.int IntKind.i64 (ks[x.1]'x.2), Value.tuple #[Value.slice pa ps.length pc, Value.slice ca ks.length cc], Value.slice va (List.length t) vcap, Value.int IntKind.i64 i, Value.tuple #[Value.slice pa ps.length pc, Value.slice ca ks.length cc], Value.slice pa ps.length pc, Value.slice ca ks.length cc, Value.slice va (List.length t) vcap, Value.int IntKind.i64 i, Value.bool true, Value.bool false, Value.bool false, Value.slice ka ks.length kcap, Value.int IntKind.i64 ↑ks.length, Value.slice ca ks.length cc, Value.int IntKind.i64 ↑ks.length, Value.bool false, Value.bool false, Value.bool false, Value.pointer (some ⟨s, 0, none⟩), Value.slice va (List.length t) vcap, Value.slice ca ks.length cc, Value.slice ka ks.length kcap, Value.bool true, Value.bool false, Value.bool false, Value.slice ka ks.length kcap, Value.int IntKind.i64 ↑ks.length, Value.slice (some ⟨w2.heap.size, 0, none⟩) ks.length ks.length, Value.pointer (some ⟨s, 0, none⟩), Value.int IntKind.i64 t0, Value.slice ka ks.length kcap, Value.func (Fn.func 83) #[] #[Value.pointer (some ⟨w4.heap.size + 1, 0, none⟩)], Value.int IntKind.i64 x.1, Value.int IntKind.i64 (ks[x.1]'x.2), undef, undef, undef, undef, undef, undef, undef, undef, undef, undef, undef, undef, undef, undef, undef, undef, undef, undef, undef, undef, undef, undef], defers := [] }) ?assign ?body ?done ?stop
  case assign =>
    intro l x W K hK
    dsimp only [Ix.enc]
    gi_wp2
    exact hK
  case body =>
    rintro l pre ⟨k, hk⟩ W ⟨ns1, c, bel, hs, hPM1, hc1, hm1, hsl, hfr⟩ hlt
    rcases hPM1.crow.own.2 with ⟨_, e⟩ | ⟨cg, cap, cur, e, _⟩
    · have := Hcl.out; omega
    · simp only [Value.slice.injEq] at e
      obtain ⟨rfl, -, rfl⟩ := e
      have c8 : W.cell? ⟨w.heap.size + 1 + 1, 0, none⟩ = some (.slice (some ⟨w2.heap.size, 0, none⟩) ks.length ks.length) := hPM1.b8.cell
      have c12 := hPM1.b12.cell
      obtain ⟨_, hgl, _, cur2, hcur⟩ := hPM1.hrow.head
      have hcl := hPM1.hrow.own.cellAt k (by simp [hPM1.len]; omega)
      have hfz : W.frozen? ⟨w2.heap.size, k, none⟩ = false := frozen_of_heap hcur _
      obtain ⟨u, hcu⟩ : ∃ u, W.cell? ⟨w2.heap.size, k, none⟩ = some u := by
        rw [hcl]
        exact ⟨_, List.getElem?_eq_getElem (by simp [hPM1.len]; omega)⟩
      have i0 : (0 : Int) ≤ (k : Int) := by omega
      have i1 : (k : Int) < (ks.length : Int) := by omega
      have hPX := hPM1.slot k bel
      have hkeep1 : KeepsFrom W5.heap.size W (W.setCell ⟨w2.heap.size, k, none⟩ (.int .i64 bel)) := (KeepsOthers.setCell _ _ _).from _
      obtain ⟨hkp1, hQ1⟩ := hfr.set hPM1.run.seat.st (hPM1.hrow.free _ rfl) (fun b hb => (hqne b hb).1) k (.int .i64 bel)
      obtain ⟨X, hX⟩ : ∃ X, W.setCell ⟨w2.heap.size, k, none⟩ (.int .i64 bel) = X := ⟨_, rfl⟩
      rw [hX] at hPX hkeep1 hkp1 hQ1
      have hsl1 := hsl.put (k := k) (by rw [hPM1.len]; omega) hm1
      have p4 := hPX.b4.cell
      have p5 := hPX.b5.cell
      have p11 := hPX.b11.cell
      have p12 := hPX.b12.cell
      have pf12 := hPX.b12.frozen
      obtain ⟨y, hy⟩ : ∃ y, cs[k]? = some y := ⟨cs[k]'(by have := Hcl.out; omega), by simp⟩
      have pc := (hPX.four Hcl.out hy).2.2.2
      have HPX : Hid (PM w s ns dr (.slice va t.length vcap) ks.length w2.heap.size w1.heap.size w4.heap.size (.slice (some ⟨cg, 0, none⟩) ks.length cc) cs X ns1 c bel (hs.set k bel)) := hPX
      have Hm1 : Hid (Means ns1 bel (belT g t ks cs (pre.map (·.1)))) := hm1
      clear hPM1 hsl hm1 hPX hfr hcl hcur
      gi_wp2_with (first
        | rw [hX]
        | fail)
      refine region_in_round (S := fun W' => W'.cell? ⟨w.heap.size, 0, none⟩ = some (.pointer (some ⟨s, 0, none⟩)) ∧ W'.cell? ⟨w.heap.size + 1, 0, none⟩ = some (.slice va t.length vcap) ∧ W'.cell? ⟨w1.heap.size, 0, none⟩ = some (.slice (some ⟨cg, 0, none⟩) ks.length cc) ∧ W'.cell? ⟨cg, k, none⟩ = some (.int .i64 y)) (by kernel_rfl) (no_defer (by kernel_rfl)) ?hq ⟨p4, p5, p11, pc⟩ (fun hS => ?_)
      case hq =>
        rintro ⟨_, _, h⟩
        exact h
      refine wpAnyH_take (i := 0) (oi := _) (v := .pointer (some ⟨s, 0, none⟩)) rfl (by kernel_rfl) (by kernel_rfl) (by kernel_rfl) (fun _ _ _ h => h) (Or.inl ⟨by rfl, fun w' hw' => by
        obtain ⟨q1, q2, q3, q4⟩ := hw'
        go_simp⟩) hS ?_
      try simp only [Act.put, List.setIfInBounds_toArray, List.set_cons_zero, List.set_cons_succ]
      refine wpAnyH_take (i := 1) (oi := _) (v := .pointer (some ⟨s, 0, none⟩)) rfl (by kernel_rfl) (by kernel_rfl) (by kernel_rfl) (fun _ _ _ h => h) (Or.inl ⟨by rfl, fun w' hw' => by
        obtain ⟨q1, q2, q3, q4⟩ := hw'
        go_simp⟩) hS ?_
      try simp only [Act.put, List.setIfInBounds_toArray, List.set_cons_zero, List.set_cons_succ]
      refine wpAnyH_take (i := 2) (oi := _) (v := .int .i64 (ks[k]'hk)) rfl (by kernel_rfl) (by kernel_rfl) (by kernel_rfl) (fun _ _ _ h => h) (Or.inl ⟨by rfl, fun w' hw' => by
        obtain ⟨q1, q2, q3, q4⟩ := hw'
        go_simp⟩) hS ?_
      try simp only [Act.put, List.setIfInBounds_toArray, List.set_cons_zero, List.set_cons_succ]
      refine wpAnyH_take (i := 4) (oi := _) (v := .pointer (some ⟨s, 0, none⟩)) rfl (by kernel_rfl) (by kernel_rfl) (by kernel_rfl) (fun _ _ _ h => h) (Or.inl ⟨by rfl, fun w' hw' => by
        obtain ⟨q1, q2, q3, q4⟩ := hw'
        go_simp⟩) hS ?_
      try simp only [Act.put, List.setIfInBounds_toArray, List.set_cons_zero, List.set_cons_succ]
      refine wpAnyH_take (i := 5) (oi := _) (v := .slice va t.length vcap) rfl (by kernel_rfl) (by kernel_rfl) (by kernel_rfl) (fun _ _ _ h => h) (Or.inl ⟨by rfl, fun w' hw' => by
        obtain ⟨q1, q2, q3, q4⟩ := hw'
        go_simp⟩) hS ?_
      try simp only [Act.put, List.setIfInBounds_toArray, List.set_cons_zero, List.set_cons_succ]
      refine wpAnyH_take (i := 6) (oi := _) (v := .slice (some ⟨cg, 0, none⟩) ks.length cc) rfl (by kernel_rfl) (by kernel_rfl) (by kernel_rfl) (fun _ _ _ h => h) (Or.inl ⟨by rfl, fun w' hw' => by
        obtain ⟨q1, q2, q3, q4⟩ := hw'
        go_simp⟩) hS ?_
      try simp only [Act.put, List.setIfInBounds_toArray, List.set_cons_zero, List.set_cons_succ]
      refine wpAnyH_take (i := 7) (oi := _) (v := .int .i64 k) rfl (by kernel_rfl) (by kernel_rfl) (by kernel_rfl) (fun _ _ _ h => h) (Or.inl ⟨by rfl, fun w' hw' => by
        obtain ⟨q1, q2, q3, q4⟩ := hw'
        go_simp⟩) hS ?_
      try simp only [Act.put, List.setIfInBounds_toArray, List.set_cons_zero, List.set_cons_succ]
      refine wpAnyH_take (i := 8) (oi := _) (v := .pointer (some ⟨cg, k, none⟩)) rfl (by kernel_rfl) (by kernel_rfl) (by kernel_rfl) (fun _ _ _ h => h) (Or.inl ⟨by rfl, fun w' hw' => by
        obtain ⟨q1, q2, q3, q4⟩ := hw'
        go_simp⟩) hS ?_
      try simp only [Act.put, List.setIfInBounds_toArray, List.set_cons_zero, List.set_cons_succ]
      refine wpAnyH_take (i := 9) (oi := _) (v := .int .i64 y) rfl (by kernel_rfl) (by kernel_rfl) (by kernel_rfl) (fun _ _ _ h => h) (Or.inl ⟨by rfl, fun w' hw' => by
        obtain ⟨q1, q2, q3, q4⟩ := hw'
        go_simp⟩) hS ?_
      try simp only [Act.put, List.setIfInBounds_toArray, List.set_cons_zero, List.set_cons_succ]
      have hPd := HPX.out.below ((Below.refl _ _).drew)
      obtain ⟨hkpd, hQd⟩ := hQ1.below HPX.out.run.seat.st ((Below.refl _ _).drew)
      have hin := Hin.out y (List.mem_of_getElem? hy)
      have hcst := cst_le hin
      have hlen1 := HPX.out.run.st.len
      have hpl : pre.length ≤ 5 := by have := Hl6.out; omega
      have hH := hashOf_m hf (g := g) 6 y X.drew ns1 hPd.run.seat (Ht.out.moved hPd.run.mv) hin (by have := lev_nn hin; omega) (fun z hz => (Hkn.out z (places_in 6 y hin (by have := lev_nn hin; omega) z hz)).keeps HPX.out.run.st.pre) (by have := Hr.out; omega)
      have HB : Hid (ns1.length + cst y ≤ ns.length + 19000) := by show _ ≤ _; omega
      have Hsl : Hid (Slots g t ks cs ns1 (hs.set k bel) (pre.map (·.1) ++ [k])) := hsl1
      clear hcst hlen1 hpl hsl1
      refine wpAnyH_ready (rs := [3, 10]) (by kernel_rfl) (by simp) ?_
      refine AllReadyH.cons (o := _) rfl (fun K hK => ?_) (AllReadyH.cons (o := _) rfl (fun K hK => ?_) AllReadyH.nil)
      · go_simp
        refine hK.out _ _ hS (fun hS => ?_)
        clear hK K
        try simp only [Act.put, List.setIfInBounds_toArray, List.set_cons_zero, List.set_cons_succ]
        refine wpAnyH_ready (rs := [10]) (by kernel_rfl) (by simp) ?_
        refine AllReadyH.cons (o := _) rfl (fun K hK => ?_) AllReadyH.nil
        go_simp
        go_at_call 41
        refine hH.mono ?_
        rintro e w6 ⟨t6, ns6, rfl, r6, m6⟩
        have hP6 := hPd.ran r6
        obtain ⟨hkp6, hQ6⟩ := hQd.run r6
        have hkeep6 := hPd.keeps hst r6 (L := W5.heap.size) (by omega)
        have hM : Mean2 ns6 [ks[k]'hk, bel, t6] [g (ks.getD k 0), belT g t ks cs (pre.map (·.1)), hashT g t 6 (cs.getD k 0)] := by
          have e1 : ks.getD k 0 = ks[k]'hk := by simp [List.getD, hk]
          have e2 : cs.getD k 0 = y := by simp [List.getD, hy]
          rw [e1, e2]
          exact .cons ((Hks.out _ (List.getElem_mem hk)).keeps (HPX.out.run.st.pre.trans r6.st.pre)) (.cons (Hm1.out.keeps r6.st.pre) (.cons m6 .nil))
        have hln := list_new r6.seat [ks[k]'hk, bel, t6] hM (by have := Hr.out; have := HB.out; have := r6.st.len; simp only [List.length_cons, List.length_nil]; omega)
        have b6 := hP6.b12.cell
        try go_simp
        refine hK.out _ _ (hP6.four Hcl.out hy) (fun hS => ?_)
        clear hK K
        try simp only [Act.put, List.setIfInBounds_toArray, List.set_cons_zero, List.set_cons_succ]
        refine wpAnyH_ready (rs := [11]) (by kernel_rfl) (by simp) ?_
        refine AllReadyH.cons (o := _) rfl (fun K hK => ?_) AllReadyH.nil
        go_simp
        have hPa := hP6.below ((Below.refl w6.heap.size w6).alloc (Nat.le_refl _) (.cells #[.int .i64 (ks[k]'hk), .int .i64 bel, .int .i64 t6] 3))
        refine hK.out _ _ (hPa.four Hcl.out hy) (fun hS => ?_)
        clear hK K
        try simp only [Act.put, List.setIfInBounds_toArray, List.set_cons_zero, List.set_cons_succ]
        refine wpAnyH_ready (rs := [12]) (by kernel_rfl) (by simp) ?_
        refine AllReadyH.cons (o := _) rfl (fun K hK => ?_) AllReadyH.nil
        go_simp
        go_at_call 32
        refine hln.mono ?_
        rintro e w7 ⟨t7, ns7, rfl, r7, m7⟩
        have hP7 := hP6.ran r7
        obtain ⟨hkp7, hQ7⟩ := hQ6.run r7
        have hkeep7 := hP6.keeps hst r7 (L := W5.heap.size) (by omega)
        have hhs := hash_m r7.seat lParent (by decide) (by have := Hr.out; have := HB.out; have := r6.st.len; have := r7.st.len; simp only [List.length_cons, List.length_nil] at this; omega) m7
        try go_simp
        refine hK.out _ _ (hP7.four Hcl.out hy) (fun hS => ?_)
        clear hK K
        try simp only [Act.put, List.setIfInBounds_toArray, List.set_cons_zero, List.set_cons_succ]
        refine wpAnyH_ready (rs := [13]) (by kernel_rfl) (by simp) ?_
        refine AllReadyH.cons (o := _) rfl (fun K hK => ?_) AllReadyH.nil
        go_simp
        go_at_call 31
        refine hhs.mono ?_
        rintro e w8 ⟨t8, ns8, rfl, r8, m8⟩
        have hP8 := hP7.ran r8
        obtain ⟨hkp8, hQ8⟩ := hQ7.run r8
        have hkeep8 := hP7.keeps hst r8 (L := W5.heap.size) (by omega)
        have b8 := hP8.b12.cell
        have bf8 := hP8.b12.frozen
        try go_simp
        refine hK.out _ _ (hP8.four Hcl.out hy) (fun hS => ?_)
        clear hK K
        try simp only [Act.put, List.setIfInBounds_toArray, List.set_cons_zero, List.set_cons_succ]
        refine wpAnyH_ready (rs := [14]) (by kernel_rfl) (by simp) ?_
        refine AllReadyH.cons (o := _) rfl (fun K hK => ?_) AllReadyH.nil
        go_simp
        have hP9 := hP8.setBel t8
        obtain ⟨hkp9, hQ9⟩ := hQ8.set hP8.run.seat.st (hP8.fr _ (by simp)) (fun b hb => (hqne b hb).2) 0 (.int .i64 t8)
        have hkeep9 : KeepsFrom W5.heap.size w8 (w8.setCell ⟨w4.heap.size, 0, none⟩ (.int .i64 t8)) := (KeepsOthers.setCell _ _ _).from _
        refine hK.out _ _ (hP9.four Hcl.out hy) (fun hS => ?_)
        clear hK K
        refine wpAnyH_done (by kernel_rfl) ?_ _
        have hpre8 : ns1 <+: ns8 := r6.st.pre.trans (r7.st.pre.trans r8.st.pre)
        refine ⟨hkeep1.trans (((KeepsOthers.drew X).from _).trans (hkeep6.trans (hkeep7.trans (hkeep8.trans hkeep9)))), KpB.t hkp1 (KpB.t hkpd (KpB.t hkp6 (KpB.t hkp7 (KpB.t hkp8 hkp9)))), ns8, _, t8, _, hP9, ?_, ?_, ?_, hQ9⟩
        · have := cst_le hin
          simp only [List.length_append, List.length_cons, List.length_nil]
          omega
        · rw [List.map_append, List.map_cons, List.map_nil, belT_snoc]
          exact m8
        · rw [List.map_append]
          exact Hsl.out.keeps hpre8
      · go_simp
        go_at_call 41
        refine hH.mono ?_
        rintro e w6 ⟨t6, ns6, rfl, r6, m6⟩
        have hP6 := hPd.ran r6
        obtain ⟨hkp6, hQ6⟩ := hQd.run r6
        have hkeep6 := hPd.keeps hst r6 (L := W5.heap.size) (by omega)
        have hM : Mean2 ns6 [ks[k]'hk, bel, t6] [g (ks.getD k 0), belT g t ks cs (pre.map (·.1)), hashT g t 6 (cs.getD k 0)] := by
          have e1 : ks.getD k 0 = ks[k]'hk := by simp [List.getD, hk]
          have e2 : cs.getD k 0 = y := by simp [List.getD, hy]
          rw [e1, e2]
          exact .cons ((Hks.out _ (List.getElem_mem hk)).keeps (HPX.out.run.st.pre.trans r6.st.pre)) (.cons (Hm1.out.keeps r6.st.pre) (.cons m6 .nil))
        have hln := list_new r6.seat [ks[k]'hk, bel, t6] hM (by have := Hr.out; have := HB.out; have := r6.st.len; simp only [List.length_cons, List.length_nil]; omega)
        have b6 := hP6.b12.cell
        try go_simp
        refine hK.out _ _ (hP6.four Hcl.out hy) (fun hS => ?_)
        clear hK K
        try simp only [Act.put, List.setIfInBounds_toArray, List.set_cons_zero, List.set_cons_succ]
        refine wpAnyH_ready (rs := [3]) (by kernel_rfl) (by simp) ?_
        refine AllReadyH.cons (o := _) rfl (fun K hK => ?_) AllReadyH.nil
        go_simp
        refine hK.out _ _ hS (fun hS => ?_)
        clear hK K
        try simp only [Act.put, List.setIfInBounds_toArray, List.set_cons_zero, List.set_cons_succ]
        refine wpAnyH_ready (rs := [11]) (by kernel_rfl) (by simp) ?_
        refine AllReadyH.cons (o := _) rfl (fun K hK => ?_) AllReadyH.nil
        go_simp
        have hPa := hP6.below ((Below.refl w6.heap.size w6).alloc (Nat.le_refl _) (.cells #[.int .i64 (ks[k]'hk), .int .i64 bel, .int .i64 t6] 3))
        refine hK.out _ _ (hPa.four Hcl.out hy) (fun hS => ?_)
        clear hK K
        try simp only [Act.put, List.setIfInBounds_toArray, List.set_cons_zero, List.set_cons_succ]
        refine wpAnyH_ready (rs := [12]) (by kernel_rfl) (by simp) ?_
        refine AllReadyH.cons (o := _) rfl (fun K hK => ?_) AllReadyH.nil
        go_simp
        go_at_call 32
        refine hln.mono ?_
        rintro e w7 ⟨t7, ns7, rfl, r7, m7⟩
        have hP7 := hP6.ran r7
        obtain ⟨hkp7, hQ7⟩ := hQ6.run r7
        have hkeep7 := hP6.keeps hst r7 (L := W5.heap.size) (by omega)
        have hhs := hash_m r7.seat lParent (by decide) (by have := Hr.out; have := HB.out; have := r6.st.len; have := r7.st.len; simp only [List.length_cons, List.length_nil] at this; omega) m7
        try go_simp
        refine hK.out _ _ (hP7.four Hcl.out hy) (fun hS => ?_)
        clear hK K
        try simp only [Act.put, List.setIfInBounds_toArray, List.set_cons_zero, List.set_cons_succ]
        refine wpAnyH_ready (rs := [13]) (by kernel_rfl) (by simp) ?_
        refine AllReadyH.cons (o := _) rfl (fun K hK => ?_) AllReadyH.nil
        go_simp
        go_at_call 31
        refine hhs.mono ?_
        rintro e w8 ⟨t8, ns8, rfl, r8, m8⟩
        have hP8 := hP7.ran r8
        obtain ⟨hkp8, hQ8⟩ := hQ7.run r8
        have hkeep8 := hP7.keeps hst r8 (L := W5.heap.size) (by omega)
        have b8 := hP8.b12.cell
        have bf8 := hP8.b12.frozen
        try go_simp
        refine hK.out _ _ (hP8.four Hcl.out hy) (fun hS => ?_)
        clear hK K
        try simp only [Act.put, List.setIfInBounds_toArray, List.set_cons_zero, List.set_cons_succ]
        refine wpAnyH_ready (rs := [14]) (by kernel_rfl) (by simp) ?_
        refine AllReadyH.cons (o := _) rfl (fun K hK => ?_) AllReadyH.nil
        go_simp
        have hP9 := hP8.setBel t8
        obtain ⟨hkp9, hQ9⟩ := hQ8.set hP8.run.seat.st (hP8.fr _ (by simp)) (fun b hb => (hqne b hb).2) 0 (.int .i64 t8)
        have hkeep9 : KeepsFrom W5.heap.size w8 (w8.setCell ⟨w4.heap.size, 0, none⟩ (.int .i64 t8)) := (KeepsOthers.setCell _ _ _).from _
        refine hK.out _ _ (hP9.four Hcl.out hy) (fun hS => ?_)
        clear hK K
        refine wpAnyH_done (by kernel_rfl) ?_ _
        have hpre8 : ns1 <+: ns8 := r6.st.pre.trans (r7.st.pre.trans r8.st.pre)
        refine ⟨hkeep1.trans (((KeepsOthers.drew X).from _).trans (hkeep6.trans (hkeep7.trans (hkeep8.trans hkeep9)))), KpB.t hkp1 (KpB.t hkpd (KpB.t hkp6 (KpB.t hkp7 (KpB.t hkp8 hkp9)))), ns8, _, t8, _, hP9, ?_, ?_, ?_, hQ9⟩
        · have := cst_le hin
          simp only [List.length_append, List.length_cons, List.length_nil]
          omega
        · rw [List.map_append, List.map_cons, List.map_nil, belT_snoc]
          exact m8
        · rw [List.map_append]
          exact Hsl.out.keeps hpre8
  case done =>
    rintro D ys W hD hys ⟨ns1, c, bel, hs, hPM1, hc1, hm1, hsl, hfr⟩ hK
    have c8 : W.cell? ⟨w.heap.size + 1 + 1, 0, none⟩ = some (.slice (some ⟨w2.heap.size, 0, none⟩) ks.length ks.length) := hPM1.b8.cell
    have f8 : W.frozen? ⟨w.heap.size + 1 + 1, 0, none⟩ = false := hPM1.b8.frozen
    have c12 := hPM1.b12.cell
    have hz : (bel == 0) = false := by have := hm1.pos; simp; omega
    have hord := hPM1.ord
    have c12' := (hPM1.b12.other (B' := w.heap.size + 1 + 1) (by omega) (.slice (some ⟨w2.heap.size, 0, none⟩) ks.length ks.length)).cell
    clear hord
    have HP : Hid (PM w s ns dr (.slice va t.length vcap) ks.length w2.heap.size w1.heap.size w4.heap.size (.slice ca ks.length cc) cs W ns1 c bel hs) := hPM1
    have Hys : Hid (ys.map (·.1) = (List.range ks.length).reverse) := hys
    have Hm : Hid (Means ns1 bel (belT g t ks cs (ys.map (·.1)))) := hm1
    have Hsl : Hid (Slots g t ks cs ns1 hs (ys.map (·.1))) := hsl
    have Hc : Hid (c ≤ 1 + 3000 * ys.length) := hc1
    clear hPM1 hys hm1 hsl hc1
    gi_wp2_with fail
    gi_region
    gi_wp2
    have hK' := (KeepsOthers.setCell W ⟨w.heap.size + 1 + 1, 0, none⟩ (.slice (some ⟨w2.heap.size, 0, none⟩) ks.length ks.length)).same D _ hK rfl
    refine ⟨by simp, .inl ⟨_, _, rfl, run_takeDeferred hK', ?_⟩⟩
    obtain ⟨hR, hO⟩ := HP.out.close hst (D := D) (by omega) (.deferred none) hK rfl (.slice (some ⟨w2.heap.size, 0, none⟩) ks.length ks.length)
    have hl2 : ys.length = ks.length := by
      have := congrArg List.length Hys.out
      simpa using this
    have hc5 := cell_kept (World.cell?_setCell_same' W ⟨w.heap.size + 1 + 1, 0, none⟩ (.slice (some ⟨w2.heap.size, 0, none⟩) ks.length ks.length) (by rw [c8]; rfl)) (grownBy_putObj' _ D (.deferred none)) (fun r e => by cases e; exact ⟨_, hK', rfl⟩)
    have hbel := Hm.out
    have hmean := Hsl.out
    rw [Hys.out] at hbel hmean
    rw [← desc_zero, belT_desc g t ks cs ks.length 0 (by omega) (by omega), List.drop_zero] at hbel
    refine ⟨.tuple #[.slice (some ⟨w2.heap.size, 0, none⟩) ks.length ks.length, .int .i64 bel], ?_, .slice (some ⟨w2.heap.size, 0, none⟩) ks.length ks.length, bel, ns1, hs, rfl, hR.mono (by have := Hc.out; have := Hl6.out; omega), by rw [HP.out.len]; exact hO, hmean.all HP.out.len, hbel⟩
    have hc6 : ((((W.setCell ⟨w.heap.size + 1 + 1, 0, none⟩ (.slice (some ⟨w2.heap.size, 0, none⟩) ks.length ks.length)).drew).putObj D (.deferred none))).cell? ⟨w.heap.size + 1 + 1, 0, none⟩ = some (.slice (some ⟨w2.heap.size, 0, none⟩) ks.length ks.length) := hc5
    simp [results, Tryd.f25, go_sem, hc6]
  case stop =>
    rintro D c pre W _ _ h _
    exact h.elim

end Go.Proofs.YtmcjincgppddeaaDoor
