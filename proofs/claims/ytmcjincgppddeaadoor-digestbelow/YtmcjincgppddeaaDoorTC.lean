/-
  Resolutions and filtered paths, as package tree answers them.
-/
import Derived.Test.YtmcjincgppddeaaDoorTB
namespace Go.Proofs.YtmcjincgppddeaaDoor
open Go.RowKit 
set_option linter.unusedSimpArgs false
set_option linter.unusedVariables false

theorem on {w w1 w2 : World} (a : Below w.heap.size w w1) (b : Below w1.heap.size w1 w2) : Below w.heap.size w w2 := a.trans (b.mono a.size)

theorem path_len (x n : Int) : (pathI x n).length ≤ 7 := by
  have h1 := up_len 6 x n
  have h2 : (pathI x n).length ≤ (up x n).length := List.length_filter_le _ _
  unfold up at h2
  omega

theorem resF_len {t : Tree} (hf : Fit t) : ∀ (f : Nat) (x : Int), (resF f t x).length ≤ 33 * 2 ^ f
  | 0, x => by simp [resF]
  | f + 1, x => by
    have h1 := resF_len hf f (x - halfN x)
    have h2 := resF_len hf f (x + halfN x)
    have hp : 2 ^ (f + 1) = 2 * 2 ^ f := by rw [Nat.pow_succ]; omega
    have hp0 : 0 < 2 ^ f := Nat.pow_pos (by decide)
    unfold resF
    split
    · have : (vx t x.toNat).late.length ≤ 32 := by
        cases hx : t[x.toNat]? with
        | some u => rw [vx_get hx]; exact (hf.small _ _ hx).1
        | none => simp [vx, hx, PV.blank]
      simp
      omega
    · split
      · simp
      · simp
        omega

theorem resI_len {t : Tree} (hf : Fit t) (x : Int) : (resI t x).length ≤ 2112 := by
  unfold resI
  split
  · exact resF_len hf 6 x
  · simp

theorem place_in {t : Tree} (hs : Sh t) {x : Nat} (hx : x < t.length) : inB (x : Int) (lv t) = true := by
  have := hs.bounds
  simp [inB, hs.1]; omega

theorem in_place {t : Tree} (hs : Sh t) {x : Int} (hx : inB x (lv t) = true) : ∃ k : Nat, x = k ∧ k < t.length := by
  have h1 := inB_bounds hx
  have h2 := hs.bounds
  exact ⟨x.toNat, by omega, by omega⟩

theorem kids {x n : Int} (h : inB x n = true) (hl : lev x ≠ 0) : inB (x - halfI x) n = true ∧ inB (x + halfI x) n = true ∧ lev (x - halfI x) = lev x - 1 ∧ lev (x + halfI x) = lev x - 1 := by
  have := forall_in (fun x n => lev x == 0 || decide (inB (x - halfI x) n = true ∧ inB (x + halfI x) n = true ∧ lev (x - halfI x) = lev x - 1 ∧ lev (x + halfI x) = lev x - 1)) (by decide +kernel) x n h
  simpa [hl] using this

set_option maxHeartbeats 4000000 in
set_option maxRecDepth 100000 in
theorem resolution_in {t : Tree} (hf : Fit t) {v : Value} : ∀ (f : Nat) (x : Int) (w : World), f ≤ 6 → TreeAt w v t → Tab w → inB x (lv t) = true → lev x < f →
    Calls Tryd.prog 81 #[v, .int .i64 x] w fun e w' => ∃ v', e = .returned v' ∧ OwnI w.heap.size w' v' (resF f t x) ∧ Below w.heap.size w w'
  | 0, x, w, hf6, ht, hT, hx, hl => by
    have := lev_small (inB_lt hx).1 (inB_lt hx).2
    omega
  | f + 1, x, w, hf6, ht, hT, hx, hl => by
    have hs := hf.sh
    have hbd := hs.bounds
    have hlv := lev_small (inB_lt hx).1 (inB_lt hx).2
    obtain ⟨k, rfl, hk⟩ := in_place hs hx
    have hget := vx_some (t := t) hk
    have hsm := hf.small k _ hget
    obtain ⟨b, off, cap, hd, rfl, hbl, hv⟩ := ht.get hget
    obtain ⟨c0, _, _, _, _, c5, hlt⟩ := hv
    have i1 : (k : Int) < (t.length : Int) := by omega
    cases hfu : (vx t k).full with
    | true =>
      have er : resF (f + 1) t (k : Int) = (k : Int) :: (vx t k).late.map (fun i => 2 * i) := by simp [resF, hfu]
      rw [er]
      rw [hfu] at c0
      go_enter Tryd.func81, Tryd.ntmps81
      go_wp2_with fail
      refine (withLate_any _ hlt (by omega) (fun i hi => by have := hsm.2.2 i hi; omega)).mono ?_
      rintro e w1 ⟨v1, rfl, m1, b1⟩
      go_wp2_with fail
      go_ret
      exact ⟨_, rfl, m1.1, b1⟩
    | false =>
      rw [hfu] at c0
      cases hz : (lev (k : Int) == 0) with
      | true =>
        have hz' : lev (k : Int) = 0 := by simpa using hz
        have er : resF (f + 1) t (k : Int) = [] := by simp [resF, hfu, hz']
        have hin : innerB (k : Int) (lv t) = false := by simp [innerB, hz']
        rw [er]
        go_enter Tryd.func81, Tryd.ntmps81
        go_wp2_with first
          | (go_at_call 43; refine (Leaves_sh ht hs).mono ?_; rintro e w' ⟨rfl, hw⟩; obtain rfl := hw.symm)
          | (go_at_call 70; refine (Children_any _ _ hT).mono ?_; rintro e w' ⟨rfl, hw⟩; obtain rfl := hw.symm; rw [hin]; try simp only [errIf])
        go_ret
        exact ⟨_, rfl, World.ownsRow_nil _ _ _ _, Below.refl _ _⟩
      | false =>
        have hz' : lev (k : Int) ≠ 0 := by simpa using hz
        have er : resF (f + 1) t (k : Int) = resF f t ((k : Int) - halfI k) ++ resF f t ((k : Int) + halfI k) := by simp [resF, hfu, hz', halfN, halfI]
        have hin : innerB (k : Int) (lv t) = true := by simp [innerB, hx]; exact hz'
        obtain ⟨k1, k2, k3, k4⟩ := kids hx hz'
        have hA := resolution_in hf (v := .slice (some ⟨b, off, none⟩) t.length cap) f ((k : Int) - halfI k)
        have hB := resolution_in hf (v := .slice (some ⟨b, off, none⟩) t.length cap) f ((k : Int) + halfI k)
        rw [er]
        obtain ⟨X1, hX1⟩ : ∃ X1, (k : Int) - halfI k = X1 := ⟨_, rfl⟩
        obtain ⟨X2, hX2⟩ : ∃ X2, (k : Int) + halfI k = X2 := ⟨_, rfl⟩
        rw [hX1] at hA k1 k3
        rw [hX2] at hB k2 k4
        rw [hX1, hX2]
        go_enter Tryd.func81, Tryd.ntmps81
        go_wp2_with first
          | (go_at_call 43; refine (Leaves_sh ht hs).mono ?_; rintro e w' ⟨rfl, hw⟩; obtain rfl := hw.symm)
          | (go_at_call 70; refine (Children_any _ _ hT).mono ?_; rintro e w' ⟨rfl, hw⟩; obtain rfl := hw.symm; rw [hin]; simp only [errIf, if_true, hX1, hX2])
        refine (hA w (by omega) ht hT k1 (by omega)).mono ?_
        rintro e w1 ⟨v1, rfl, m1, b1⟩
        have ht1 := ht.below b1
        have hT1 := hT.below b1 hT.size
        go_wp2_with fail
        refine (hB w1 (by omega) ht1 hT1 k2 (by omega)).mono ?_
        rintro e w2 ⟨v2, rfl, m2, b2⟩
        have hlen1 : (resF f t X1).length ≤ 2112 := Nat.le_trans (resF_len hf f X1) (Nat.mul_le_mul_left 33 (Nat.pow_le_pow_right (by decide) (by omega : f ≤ 6)))
        have hlen2 : (resF f t X2).length ≤ 2112 := Nat.le_trans (resF_len hf f X2) (Nat.mul_le_mul_left 33 (Nat.pow_le_pow_right (by decide) (by omega : f ≤ 6)))
        have j1 := (ownsRow_ints m1 (by omega)).below b2
        have j2 := ownsRow_ints m2 (by omega)
        obtain ⟨q1, p1, hv1, _⟩ := id j1
        obtain ⟨q2, p2, hv2, _⟩ := id j2
        have b3 : Below w2.heap.size w2 (w2.alloc (.cells #[v1, v2] 30)) := (Below.refl _ _).alloc (Nat.le_refl _) _
        have hc := concat_any (w := w2.alloc (.cells #[v1, v2] 30)) (p := w2.heap.size) (va := v1) (vb := v2) (by go_simp) (by go_simp) (j1.below b3) (j2.below b3) (by omega) (by omega)
        have b12 := on b1 b2
        subst hv1
        subst hv2
        go_wp2_with fail
        refine hc.mono ?_
        rintro e w3 ⟨v3, rfl, m3, b4⟩
        go_wp2_with fail
        go_ret
        have b5 := b12.trans ((b3.trans (b4.mono (by simp))).mono b12.size)
        exact ⟨_, rfl, m3.mono (Nat.le_trans b12.size (by simp)), b5⟩

set_option maxHeartbeats 1000000 in
theorem resolution_out {t : Tree} {v : Value} (x : Int) {w : World} (ht : TreeAt w v t) (hx : (decide (0 ≤ x) && decide (x < t.length)) = false) :
    Calls Tryd.prog 81 #[v, .int .i64 x] w fun e w' => e = .returned (.slice none 0 0) ∧ w' = w := by
  obtain ⟨a, cap, rfl, hl, _⟩ := ht
  by_cases h0 : x < 0
  · go_enter Tryd.func81, Tryd.ntmps81
    go_wp2_with fail
    go_ret
    exact ⟨rfl, rfl⟩
  · have h1 : (t.length : Int) ≤ x := by simp at hx; omega
    go_enter Tryd.func81, Tryd.ntmps81
    go_wp2_with fail
    go_ret
    exact ⟨rfl, rfl⟩

theorem Resolution_any {t : Tree} (hf : Fit t) {v : Value} (x : Int) {w : World} (ht : TreeAt w v t) (hT : Tab w) :
    Calls Tryd.prog 81 #[v, .int .i64 x] w fun e w' => ∃ v', e = .returned v' ∧ OwnI w.heap.size w' v' (resI t x) ∧ Below w.heap.size w w' := by
  cases hx : (decide (0 ≤ x) && decide (x < t.length)) with
  | true =>
    have hx2 := hx
    simp only [Bool.and_eq_true, decide_eq_true_eq] at hx2
    have hb := hf.sh.bounds
    have hin : inB x (lv t) = true := by simp [inB, hf.sh.1]; omega
    have := resolution_in hf (v := v) 6 x w (Nat.le_refl _) ht hT hin (by have := lev_small (inB_lt hin).1 (inB_lt hin).2; omega)
    simpa [resI, hx] using this
  | false =>
    refine (resolution_out x ht hx).mono ?_
    rintro e w' ⟨rfl, rfl⟩
    exact ⟨_, rfl, by simp [resI, hx]; exact World.ownsRow_nil _ _ _ _, Below.refl _ _⟩

set_option maxHeartbeats 1000000 in
theorem pathOf_any (i n : Int) (hx : leafB i n = true) {w : World} (hT : Tab w) :
    Calls Tryd.prog 79 #[.int .i64 i, .int .i64 n] w fun e w' => ∃ v', e = .returned v' ∧ OwnI w.heap.size w' v' (pathI (2 * i) n) ∧ Below w.heap.size w w' := by
  have hin := leafB_in hx
  have hb := inB_lt hin
  have hp := (callsIn_wide (n := 3)).1 (path_yes (2 * i) n hin hT)
  go_enter Tryd.func79, Tryd.ntmps79
  go_wp2_with fail
  refine hp.mono ?_
  rintro e w1 ⟨v1, rfl, m1, b1⟩
  go_wp2_with fail
  go_ret
  exact ⟨_, rfl, m1.1, b1⟩

theorem path_copath {x n : Int} (h : inB x n = true) : (pathI x n).length = (copathI x n).length :=
  eq_of_beq (forall_in (fun x n => (pathI x n).length == (copathI x n).length) (by decide +kernel) x n h)

def fp (t : Tree) (i n : Int) (j : Nat) : List (Int × Int) := ((pairs i n).take j).filter fun p => !(resI t p.2).isEmpty

theorem fp_zero (t : Tree) (i n : Int) : fp t i n 0 = [] := by simp [fp]

theorem fp_len (t : Tree) (i n : Int) (j : Nat) : (fp t i n j).length ≤ 7 := by
  unfold fp
  refine Nat.le_trans (List.length_filter_le _ _) ?_
  have := path_len (2 * i) n
  simp [pairs]
  omega

theorem fp_step {t : Tree} {i n : Int} {j : Nat} {p c : Int} (hp : (pathI (2 * i) n)[j]? = some p) (hc : (copathI (2 * i) n)[j]? = some c) :
    fp t i n (j + 1) = if (resI t c).isEmpty then fp t i n j else fp t i n j ++ [(p, c)] := by
  have hz : (pairs i n)[j]? = some (p, c) := by simp [pairs, List.getElem?_zip_eq_some, hp, hc]
  unfold fp
  rw [List.take_add_one, hz, List.filter_append]
  cases hr : (resI t c).isEmpty <;> simp [hr]

theorem fp_end {t : Tree} {i : Int} {j : Nat} (h0 : 0 ≤ i) (h1 : i < lv t) (hj : (copathI (2 * i) (lv t)).length ≤ j) : fp t i (lv t) j = filt t i := by
  unfold fp filt
  rw [List.take_of_length_le (by simp [pairs]; omega)]
  simp [h0, h1]

theorem apart_new {a b a' : Value} {N : Nat} (hap : ∀ k, a.ownBlock = some k → b.ownBlock ≠ some k) (hl : a'.ownBlock = a.ownBlock ∨ a'.ownBlock = some N) (hb : ∀ k, b.ownBlock = some k → k < N) : ∀ k, a'.ownBlock = some k → b.ownBlock ≠ some k := by
  intro k hk hbk
  rcases hl with h | h
  · exact hap k (h ▸ hk) hbk
  · have := hb k hbk
    rw [h] at hk
    cases hk
    omega

theorem apart_symm {a b : Value} (hap : ∀ k, a.ownBlock = some k → b.ownBlock ≠ some k) : ∀ k, b.ownBlock = some k → a.ownBlock ≠ some k := fun k h1 h2 => hap k h2 h1

theorem apart_ne {a b : Value} (hap : ∀ k, a.ownBlock = some k → b.ownBlock ≠ some k) : b.ownBlock = none ∨ b.ownBlock ≠ a.ownBlock := by
  cases h : b.ownBlock with
  | none => exact .inl rfl
  | some k => exact .inr (fun e => hap k e.symm h)

theorem Below.grownNone {w w' : World} (b3 : Below w.heap.size w w') : w.grownBy w' none := ⟨b3.os, b3.tape, b3.output, b3.size, fun k hk _ => b3.block k hk⟩

theorem row_below {w w' : World} {B e size n : Nat} {v : Value} {xs : List Value} (h : w.ownsRow B e size v n xs) (b3 : Below w.heap.size w w') : w'.ownsRow B e size v n xs :=
  h.kept (Below.grownNone b3) (by cases v.ownBlock <;> simp)

theorem one_int (p : Int) : ∀ u ∈ [Value.int .i64 p], u.oneCell' = true := by intro u hu; simp at hu; subst hu; rfl

set_option maxHeartbeats 4000000 in
set_option maxRecDepth 100000 in
theorem filtered_in {t : Tree} (hf : Fit t) {v : Value} (i : Int) {w : World} (ht : TreeAt w v t) (hT : Tab w) (h0 : 0 ≤ i) (h1 : i < lv t) :
    Calls Tryd.prog 51 #[v, .int .i64 i] w fun e w' => ∃ v1 v2, e = .returned (.tuple #[v1, v2]) ∧ OwnI w.heap.size w' v1 ((filt t i).map (·.1)) ∧ OwnI w.heap.size w' v2 ((filt t i).map (·.2)) ∧ Below w.heap.size w w' := by
  have hs := hf.sh
  have hbd := hs.bounds
  obtain ⟨i0, hi, hz0, hz1, hz2⟩ := info_parts Tryd.infoI
  have hlf : leafB i (lv t) = true := by simp [leafB, hs.1]; omega
  have hin := leafB_in hlf
  have hbi := inB_lt hin
  have hik : (decide (0 ≤ i) && decide (i < lv t)) = true := by simp; omega
  have hlen := path_copath hin
  have hl7 := path_len (2 * i) (lv t)
  have Hend : ∀ j, (copathI (2 * i) (lv t)).length ≤ j → Hid (fp t i (lv t) j = filt t i) := fun j hj => fp_end h0 h1 hj
  go_enter Tryd.func51, Tryd.ntmps51
  go_wp2_with first
    | (go_at_call 43; refine (Leaves_sh ht hs).mono ?_; rintro e w' ⟨rfl, hw⟩; obtain rfl := hw.symm)
    | (go_at_call 78; refine (tIsLeaf_any _ _ _).mono ?_; rintro e w' ⟨rfl, hw⟩; obtain rfl := hw.symm; rw [hik])
  refine (pathOf_any i (lv t) hlf hT).mono ?_
  rintro e w1 ⟨v1, rfl, m1, b1⟩
  have hT1 := hT.below b1 hT.size
  have hcp := (callsIn_wide (n := 3)).1 (copath_yes (2 * i) (lv t) hin hT1)
  go_wp2_with fail
  refine hcp.mono ?_
  rintro e w2 ⟨v2, rfl, m2, b2⟩
  have hT2 := hT1.below b2 hT1.size
  have j1 := (ownsRow_ints m1 (by omega)).below b2
  have j2 := m2.ints (by omega)
  have b12 := on b1 b2
  have ht2 := ht.below b12
  obtain ⟨P, hP⟩ : ∃ P, pathI (2 * i) (lv t) = P := ⟨_, rfl⟩
  obtain ⟨C, hC⟩ : ∃ C, copathI (2 * i) (lv t) = C := ⟨_, rfl⟩
  have Hst : ∀ (j : Nat) (p c : Int), P[j]? = some p → C[j]? = some c → fp t i (lv t) (j + 1) = if (resI t c).isEmpty then fp t i (lv t) j else fp t i (lv t) j ++ [(p, c)] := fun j p c hp hc => fp_step (hP ▸ hp) (hC ▸ hc)
  rw [hC] at Hend
  rw [hP, hC] at hlen
  rw [hP] at hl7 j1
  rw [hC] at j2
  clear hP hC m1 m2 hcp
  obtain ⟨a1, cap1, rfl, _, hc1⟩ := j1
  obtain ⟨a2, cap2, rfl, _, hc2⟩ := j2
  go_wp2_with fail
  go_loopw [4, 5, 30] (fun x y k wr => ∃ j : Nat, j ≤ C.length ∧ k = .int .i64 j ∧ OwnI w2.heap.size wr x ((fp t i (lv t) j).map (·.1)) ∧ OwnI w2.heap.size wr y ((fp t i (lv t) j).map (·.2)) ∧ (∀ k, x.ownBlock = some k → y.ownBlock ≠ some k) ∧ Below w2.heap.size w2 wr) (fun _ _ k _ => C.length - (intOf k).toNat)
  case atStart => exact ⟨0, Nat.zero_le _, rfl, by rw [fp_zero]; exact World.ownsRow_nil _ _ _ _, by rw [fp_zero]; exact World.ownsRow_nil _ _ _ _, fun k hk => by simp [Value.ownBlock] at hk, Below.refl _ _⟩
  case round =>
    obtain ⟨j, hj, rfl, o4, o5, hap, hB⟩ := hrel
    have hsz := hB.size
    by_cases hlt : j < C.length
    · obtain ⟨p, hp⟩ : ∃ p, P[j]? = some p := ⟨P[j]'(by omega), by simp⟩
      obtain ⟨c, hc⟩ : ∃ c, C[j]? = some c := ⟨C[j]'(by omega), by simp⟩
      obtain ⟨bp, op, rfl, hbp, cp⟩ := hc1 (by rintro rfl; simp at hp)
      obtain ⟨bc, oc, rfl, hbc, cc⟩ := hc2 (by rintro rfl; simp at hc)
      have d1 := (hB.cell (p := ⟨bp, op + j, none⟩) hbp).trans (cp j p hp)
      have d2 := (hB.cell (p := ⟨bc, oc + j, none⟩) hbc).trans (cc j c hc)
      have Hs := Hst j p c hp hc
      have hfl := fp_len t i (lv t) j
      have i1 : (j : Int) < (C.length : Int) := by omega
      have i2 : (j : Int) < (P.length : Int) := by omega
      have htr := ht2.below hB
      have hTr := hT2.below hB hT2.size
      clear cp cc hc1 hc2 Hst hp hc Hend
      go_wp2_with fail
      refine (Resolution_any hf c htr hTr).mono ?_
      rintro e w3 ⟨v3, rfl, m3, b3⟩
      have hrl := resI_len hf c
      have o4' := row_below o4 b3
      have o5' := row_below o5 b3
      have j3 := ownsRow_ints m3 (by omega)
      obtain ⟨q3, p3, hv3, _⟩ := j3
      subst hv3
      have hB3 := hB.trans (b3.mono hsz)
      have hsz3 := hB3.size
      cases hre : (resI t c).isEmpty with
      | true =>
        have hr0 : resI t c = [] := by simpa using hre
        rw [hre] at Hs
        simp only [if_true] at Hs
        have H4 : Hid (OwnI w2.heap.size w3 u4 ((fp t i (lv t) (j + 1)).map (·.1))) := by rw [Hs]; exact o4'
        have H5 : Hid (OwnI w2.heap.size w3 u5 ((fp t i (lv t) (j + 1)).map (·.2))) := by rw [Hs]; exact o5'
        clear Hs o4 o5 o4' o5' m3
        rw [hr0]
        go_wp2_with fail
        go_roundw
        case rel => exact ⟨j + 1, by omega, by go_num, H4.out, H5.out, hap, hB3⟩
        case measure => simp [intOf]; omega
      | false =>
        have hr0 : 0 < (resI t c).length := by
          cases hq : resI t c with
          | nil => simp [hq] at hre
          | cons a l => simp
        have hr1 : (0 : Int) < ((resI t c).length : Int) := by omega
        rw [hre] at Hs
        have Hs' : Hid (fp t i (lv t) (j + 1) = fp t i (lv t) j ++ [(p, c)]) := by simpa [Hid] using Hs
        clear Hs o4 o5 m3
        obtain ⟨F, hF⟩ : ∃ F, fp t i (lv t) j = F := ⟨_, rfl⟩
        rw [hF] at Hs' o4' o5' hfl
        clear hF
        have e1 : (F.map (·.1)).length = F.length := by simp
        have e2 : (F.map (·.2)).length = F.length := by simp
        have Hm1 : Hid ((F.map (·.1)).length + 1 ≤ maxLen) := by show _ ≤ maxLen; unfold maxLen; omega
        have Hm2 : Hid (((F.map (·.1)).length + 1) * 8 ≤ 140737488355328) := by show _ ≤ _; omega
        have Hn1 : Hid ((F.map (·.2)).length + 1 ≤ maxLen) := by show _ ≤ maxLen; unfold maxLen; omega
        have Hn2 : Hid (((F.map (·.2)).length + 1) * 8 ≤ 140737488355328) := by show _ ≤ _; omega
        have hp0 : w2.heap.size ≤ (w3.alloc (.cells #[.int .i64 p] 3)).heap.size := by simp; omega
        have dd1 := (b3.cell (p := ⟨bp, op + j, none⟩) (by show bp < _; omega)).trans d1
        have lt5 := fun k hk => (o5'.lt k hk)
        clear d1 d2 e1 e2
        go_wp2_with first
          | (refine wpList_append_own_at _ rfl (.tmp 40) (.tmp 45) 30 rfl w2.heap.size 3 i0 (.int .i64 0) 1 8 Tryd.underlying30 hi hz0 hz1 hz2 rfl Nat.one_pos _ _ _ rfl (o4'.alloc _) ⟨w3.heap.size, 0, none⟩ 1 1 [.int .i64 p] rfl rfl (cell_one_new _ _ _) (one_int p) Hm1.out Hm2.out hp0 ?_; intro v7 w7 ho7 hg7 hnil7 hl7; have g7 : (w3.alloc (.cells #[.int .i64 p] 3)).grownBy w7 u4.ownBlock := hg7; have o5'' := (o5'.alloc (.cells #[.int .i64 p] 3)).kept g7 (apart_ne hap); have hp1 : w2.heap.size ≤ (w7.alloc (.cells #[.int .i64 c] 3)).heap.size := Nat.le_trans hp0 (Nat.le_trans g7.size (by simp)); have l7 : v7.ownBlock = u4.ownBlock ∨ v7.ownBlock = some (w3.alloc (.cells #[.int .i64 p] 3)).heap.size := hl7)
          | (refine wpList_append_own_at _ rfl (.tmp 47) (.tmp 49) 30 rfl w2.heap.size 3 i0 (.int .i64 0) 1 8 Tryd.underlying30 hi hz0 hz1 hz2 rfl Nat.one_pos _ _ _ rfl (o5''.alloc _) ⟨w7.heap.size, 0, none⟩ 1 1 [.int .i64 c] rfl rfl (cell_one_new _ _ _) (one_int c) Hn1.out Hn2.out hp1 ?_; intro v8 w8 ho8 hg8 hnil8 hl8; have g8 : (w7.alloc (.cells #[.int .i64 c] 3)).grownBy w8 u5.ownBlock := hg8; have l8 : v8.ownBlock = u5.ownBlock ∨ v8.ownBlock = some (w7.alloc (.cells #[.int .i64 c] 3)).heap.size := hl8)
        have ap1 : ∀ k, v7.ownBlock = some k → u5.ownBlock ≠ some k := apart_new hap l7 (fun k hk => by have := (lt5 k hk).2; simp; omega)
        have ho8' := (ho7.alloc (.cells #[.int .i64 c] 3)).kept g8 (apart_ne (apart_symm ap1))
        have ap2 : ∀ k, v8.ownBlock = some k → v7.ownBlock ≠ some k := apart_new (apart_symm ap1) l8 (fun k hk => by have := (ho7.lt k hk).2; simp; omega)
        have B7 := (hB3.alloc hsz3 (.cells #[.int .i64 p] 3)).grown g7 hp0 (fun k hk => (o4'.lt k hk).1)
        have B8 := (B7.alloc B7.size (.cells #[.int .i64 c] 3)).grown g8 hp1 (fun k hk => (lt5 k hk).1)
        go_roundw
        case rel => exact ⟨j + 1, by omega, by go_num, by rw [Hs'.out]; simpa [OwnI] using ho8', by rw [Hs'.out]; simpa [OwnI] using ho8, apart_symm ap2, B8⟩
        case measure => simp [intOf]; omega
    · have e : Hid (fp t i (lv t) j = filt t i) := Hend j (by omega)
      rw [e.out] at o4 o5
      have hje : (j : Int) = (C.length : Int) := by omega
      clear Hend Hst hc1 hc2
      go_wp2_with fail
      go_ret2
      exact ⟨_, _, rfl, o4.mono b12.size, o5.mono b12.size, b12.trans (hB.mono b12.size)⟩

set_option maxHeartbeats 1000000 in
theorem filtered_out {t : Tree} (hs : Sh t) {v : Value} (i : Int) {w : World} (ht : TreeAt w v t) (hx : (decide (0 ≤ i) && decide (i < lv t)) = false) :
    Calls Tryd.prog 51 #[v, .int .i64 i] w fun e w' => e = .returned (.tuple #[.slice none 0 0, .slice none 0 0]) ∧ w' = w := by
  go_enter Tryd.func51, Tryd.ntmps51
  go_wp2_with first
    | (go_at_call 43; refine (Leaves_sh ht hs).mono ?_; rintro e w' ⟨rfl, hw⟩; obtain rfl := hw.symm)
    | (go_at_call 78; refine (tIsLeaf_any _ _ _).mono ?_; rintro e w' ⟨rfl, hw⟩; obtain rfl := hw.symm; rw [hx])
  go_ret2
  exact ⟨rfl, rfl⟩

theorem Filtered_any {t : Tree} (hf : Fit t) {v : Value} (i : Int) {w : World} (ht : TreeAt w v t) (hT : Tab w) :
    Calls Tryd.prog 51 #[v, .int .i64 i] w fun e w' => ∃ v1 v2, e = .returned (.tuple #[v1, v2]) ∧ OwnI w.heap.size w' v1 ((filt t i).map (·.1)) ∧ OwnI w.heap.size w' v2 ((filt t i).map (·.2)) ∧ Below w.heap.size w w' := by
  cases hx : (decide (0 ≤ i) && decide (i < lv t)) with
  | true =>
    have hx2 := hx
    simp only [Bool.and_eq_true, decide_eq_true_eq] at hx2
    exact filtered_in hf i ht hT hx2.1 hx2.2
  | false =>
    refine (filtered_out hf.sh i ht hx).mono ?_
    rintro e w' ⟨rfl, rfl⟩
    have : filt t i = [] := by simp only [filt, hx]; rfl
    rw [this]
    exact ⟨_, _, rfl, World.ownsRow_nil _ _ _ _, World.ownsRow_nil _ _ _ _, Below.refl _ _⟩

end Go.Proofs.YtmcjincgppddeaaDoor
