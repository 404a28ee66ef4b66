/-
  The document's Update and Remove.
-/
import Derived.Test.YtdnopkpoepdihaaDoorRB
namespace Go.Proofs.YtdnopkpoepdihaaDoor
open Go.RowKit
set_option linter.unusedSimpArgs false
set_option linter.unusedVariables false

def abV (k : Nat) (n : Int) (j x : Nat) (u : PV) : PV := if decide (x < j) && (decide (x ≠ 2 * k) && underB (2 * (k : Int)) x n) then PV.blank else u
def abJ (t : Tree) (k j : Nat) : Tree := t.mapIdx (abV k (lv t) j)
theorem abJ_len (t : Tree) (k j : Nat) : (abJ t k j).length = t.length := by simp [abJ]
theorem abJ_get (t : Tree) (k j x : Nat) : (abJ t k j)[x]? = t[x]?.map (abV k (lv t) j x) := by simp [abJ]
theorem abJ_zero (t : Tree) (k : Nat) : abJ t k 0 = t := by
  apply List.ext_getElem?
  intro x
  rw [abJ_get]
  cases t[x]? with
  | none => rfl
  | some u => simp [abV]
theorem abJ_step {t : Tree} {k j : Nat} (hj : j < t.length) : abJ t k (j + 1) = if decide (j ≠ 2 * k) && underB (2 * (k : Int)) j (lv t) then (abJ t k j).set j PV.blank else abJ t k j := by
  apply List.ext_getElem?
  intro x
  by_cases hx : x = j
  · subst hx
    rw [abJ_get, vx_some hj]
    by_cases hc : (decide (x ≠ 2 * k) && underB (2 * (k : Int)) x (lv t)) = true
    · rw [if_pos hc, List.getElem?_set_self (by rw [abJ_len]; exact hj)]
      simp only [Option.map_some, abV, hc]
      simp
    · rw [if_neg hc, abJ_get, vx_some hj]
      simp only [Bool.not_eq_true] at hc
      simp only [Option.map_some, abV, hc]
      simp
  · have e : ∀ u : PV, abV k (lv t) (j + 1) x u = abV k (lv t) j x u := fun u => by
      unfold abV
      have : (decide (x < j + 1)) = decide (x < j) := by
        have : (x < j + 1) ↔ (x < j) := by omega
        simp [this]
      rw [this]
    rw [abJ_get]
    split
    · rw [List.getElem?_set_ne (by omega), abJ_get]
      cases t[x]? with
      | none => rfl
      | some u => simp [e]
    · rw [abJ_get]
      cases t[x]? with
      | none => rfl
      | some u => simp [e]

theorem abJ_put {t : Tree} {k : Nat} (hk : 2 * k < t.length) (v : PV) : (abJ t k t.length).set (2 * k) v = putF t k v := by
  apply List.ext_getElem?
  intro x
  rw [putF_get]
  by_cases hx : x = 2 * k
  · subst hx
    rw [List.getElem?_set_self (by rw [abJ_len]; exact hk), vx_some hk]
    simp [putV]
  · rw [List.getElem?_set_ne (by omega), abJ_get]
    cases h : t[x]? with
    | none => rfl
    | some u =>
      have hxl := (List.getElem?_eq_some_iff.1 h).1
      have h1 : ¬ ((x : Int) = 2 * (k : Int)) := by omega
      simp [abV, putV, h1, hxl, hx]

set_option maxRecDepth 100000 in
set_option maxHeartbeats 4000000 in
theorem above_any {t : Tree} (hf : Fit t) {v : Value} {w : World} (ht : TreeAt w v t) (k : Nat) (hk : k < lv t) :
    Calls Tryd.prog 72 #[v, .int .i64 k] w fun e w' => ∃ g cap hs, e = .returned (.slice (some ⟨g, 0, none⟩) t.length cap) ∧ w.heap.size ≤ g ∧ OwnT w.heap.size w' (.slice (some ⟨g, 0, none⟩) t.length cap) (abJ t k t.length) hs t.length ∧ Below w.heap.size w w' := by
  have hs := hf.sh
  have hbd := hs.bounds
  go_enter Tryd.func72, Tryd.ntmps72
  go_wp2_with fail
  refine (refCopy_any ht (by omega) (fun x u hx => by have := (hf.small x u hx).1; omega)).mono ?_
  rintro e w1 ⟨v1, hs1, rfl, o1, b1⟩
  obtain ⟨g, cap, rfl, hgB, hgl⟩ := o1.form (by omega)
  have htl : (t.length : Int) ≤ 63 := by omega
  have ht1 := ht.below b1
  have i2 : (k : Int) ≤ 32 := by omega
  rw [← abJ_zero t k] at o1
  rw [abJ_len] at o1
  go_wp2_with (go_at_call 23; refine (refLeaves_any ht1).mono ?_; rintro e w' ⟨rfl, hw⟩; obtain rfl := hw.symm)
  go_loopw [7] (fun q wr => ∃ (j : Nat) (hsj : List Value), j ≤ t.length ∧ q = .int .i64 j ∧ OwnT w.heap.size wr (.slice (some ⟨g, 0, none⟩) t.length cap) (abJ t k j) hsj t.length ∧ Below w.heap.size w wr) (fun q _ => t.length - (intOf q).toNat)
  case atStart => exact ⟨0, hs1, Nat.zero_le _, rfl, o1, b1⟩
  case round =>
    obtain ⟨j, hsj, hj, rfl, oj, hB⟩ := hrel
    have hsz := hB.size
    by_cases hlt : j < t.length
    · have i1 : (j : Int) < (t.length : Int) := by omega
      have hstep := abJ_step (k := k) hlt
      have hYl : j < (abJ t k j).length := by rw [abJ_len]; exact hlt
      have oj' : OwnT w.heap.size wr (.slice (some ⟨g, 0, none⟩) (abJ t k j).length cap) (abJ t k j) hsj (abJ t k j).length := by rw [abJ_len]; exact oj
      by_cases hj2 : j = 2 * k
      · have hne : ((j : Int) != 2 * (k : Int)) = false := by simp; omega
        have HO : Hid (OwnT w.heap.size wr (.slice (some ⟨g, 0, none⟩) t.length cap) (abJ t k (j + 1)) hsj t.length) := by
          rw [hstep, if_neg (by simp [hj2])]; exact oj
        clear oj oj' hstep hj2
        go_wp2_with fail
        go_roundw
        case rel => exact ⟨j + 1, hsj, by omega, by go_num, HO.out, hB⟩
        case measure => simp [intOf]; omega
      · have hne : ((j : Int) != 2 * (k : Int)) = true := by simp; omega
        have hu := refUnder_any (2 * (k : Int)) j (lv t) (w := wr)
        cases hun : underB (2 * (k : Int)) j (lv t) with
        | false =>
          have HO : Hid (OwnT w.heap.size wr (.slice (some ⟨g, 0, none⟩) t.length cap) (abJ t k (j + 1)) hsj t.length) := by
            rw [hstep, if_neg (by simp [hun])]; exact oj
          rw [hun] at hu
          clear oj oj' hstep hj2
          go_wp2_with (go_at_call 32; refine hu.mono ?_; rintro e w' ⟨rfl, hw⟩; obtain rfl := hw.symm)
          go_roundw
          case rel => exact ⟨j + 1, hsj, by omega, by go_num, HO.out, hB⟩
          case measure => simp [intOf]; omega
        | true =>
          obtain ⟨a, ha⟩ := oj'.head hYl
          obtain ⟨d0, d1, d2, d3, d4, d5⟩ := oj'.vat (vx_some hYl) ha
          have fz : ∀ i, wr.frozen? ⟨g, i, none⟩ = false := fun i => oj'.row.frozenAt i
          obtain ⟨r1, r2⟩ := oj'.setV hYl PV.blank rfl
          obtain ⟨w8, hw8⟩ : ∃ w8, wr.setCells g (j * 6) (vcells PV.blank (.slice none 0 0)) = w8 := ⟨_, rfl⟩
          rw [hw8] at r1 r2
          have HO : Hid (OwnT w.heap.size w8 (.slice (some ⟨g, 0, none⟩) t.length cap) (abJ t k (j + 1)) (hsj.set j (.slice none 0 0)) t.length) := by
            rw [hstep, if_pos (by simp [hun, hj2])]
            rw [abJ_len] at r1
            exact r1
          have B8 := hB.grown r2 hsz (fun k hk => by cases hk; exact hgB)
          simp only [World.setCells, vcells, PV.blank] at hw8
          rw [hun] at hu
          clear oj oj' hstep hj2 r1 r2
          go_wp2_with first
            | (go_at_call 32; refine hu.mono ?_; rintro e w' ⟨rfl, hw⟩; obtain rfl := hw.symm)
            | rw [hw8]
          go_roundw
          case rel => exact ⟨j + 1, _, by omega, by go_num, HO.out, B8⟩
          case measure => simp [intOf]; omega
    · have e : j = t.length := by omega
      subst e
      have i1 : ¬ ((t.length : Int) < (t.length : Int)) := by omega
      go_wp2_with fail
      go_ret
      first | exact ⟨g, cap, hsj, rfl, hgB, oj, hB⟩ | exact ⟨g, cap, rfl, hgB, ⟨hsj, oj⟩, hB⟩

set_option maxRecDepth 100000 in
set_option maxHeartbeats 4000000 in
theorem refUpdate_new {t : Tree} (hf : Fit t) {v : Value} {w : World} (ht : TreeAt w v t) (i : Int) (hi : fullB t i = true) (u : PV) (h : Value) :
    Calls Tryd.prog 44 #[v, .int .i64 i, u.val h] w fun e w' => ∃ v', e = .returned (.tuple #[v', .int .i64 0]) ∧ TreeP (fun b => w.heap.size ≤ b) w' v' (putF t i (leafV u)) ∧ Below w.heap.size w w' := by
  obtain ⟨k, rfl, hk, _⟩ := fullB_nat hi
  have hs := hf.sh
  have hbd := hs.bounds
  have hfl : ∀ W, Calls Tryd.prog 15 #[u.val h] W fun e w' => e = .returned ((leafV u).val (.slice none 0 0)) ∧ Below W.heap.size W w' := fun W => refLeaf_any u h W
  unfold PV.val at *
  obtain ⟨w0, hw0⟩ : ∃ w0, w.alloc (.cells (leafCells u h) 24) = w0 := ⟨_, rfl⟩
  have b0 : Below w.heap.size w w0 := by rw [← hw0]; exact (Below.refl _ _).alloc (Nat.le_refl _) _
  have ht0 := ht.below b0
  have q0 : w0.heap[w.heap.size]? = some (.cells (leafCells u h) 24) := by rw [← hw0]; exact heap_alloc_new w _
  have hsz0 : w.heap.size < w0.heap.size := by rw [← hw0]; simp
  unfold leafCells at hw0
  go_enter Tryd.func44, Tryd.ntmps44
  go_wp2_with (rw [hw0])
  refine (refFull_any ht0 hs k).mono ?_
  rintro e w' ⟨rfl, hw⟩
  obtain rfl := hw.symm
  rw [hi]
  go_wp2_with fail
  refine (above_any hf ht0 k hk).mono ?_
  rintro e w1 ⟨g, cap, hs1, rfl, hgB, o1, b1⟩
  have q1 : w1.heap[w.heap.size]? = some (.cells (leafCells u h) 24) := (b1.block _ hsz0).trans q0
  have bc : ∀ j, w1.cell? ⟨w.heap.size, j, none⟩ = (leafCells u h)[j]? := fun j => by simp [World.cell?, q1]
  have c0 := bc 0
  have c1 := bc 1
  have c2 := bc 2
  have c3 := bc 3
  have c4 := bc 4
  have c5 := bc 5
  simp [leafCells] at c0 c1 c2 c3 c4 c5
  clear bc q0 q1
  have i1 : 2 * (k : Int) < (t.length : Int) := by omega
  have i2 : (k : Int) ≤ 32 := by omega
  go_wp2_with fail
  refine (hfl w1).mono ?_
  rintro e w2 ⟨rfl, b2⟩
  have o2 := o1.below (by rw [abJ_len]; exact Nat.le_refl _) b2
  have hYl : 2 * k < (abJ t k t.length).length := by rw [abJ_len]; omega
  have o2' : OwnT w0.heap.size w2 (.slice (some ⟨g, 0, none⟩) (abJ t k t.length).length cap) (abJ t k t.length) hs1 (abJ t k t.length).length := by rw [abJ_len]; exact o2
  obtain ⟨a, ha⟩ := o2'.head hYl
  obtain ⟨d0, d1, d2, d3, d4, d5⟩ := o2'.vat (vx_some hYl) ha
  have fz : ∀ i, w2.frozen? ⟨g, i, none⟩ = false := fun i => o2'.row.frozenAt i
  obtain ⟨r1, r2⟩ := o2'.setV hYl (leafV u) rfl
  obtain ⟨w8, hw8⟩ : ∃ w8, w2.setCells g (2 * k * 6) (vcells (leafV u) (.slice none 0 0)) = w8 := ⟨_, rfl⟩
  rw [hw8] at r1 r2
  rw [abJ_put (by omega)] at r1
  have hfp := hf.put k (leafV u) rfl
  have r1' : OwnT w0.heap.size w8 (.slice (some ⟨g, 0, none⟩) (abJ t k t.length).length cap) (putF t k (leafV u)) (hs1.set (2 * k) (.slice none 0 0)) (putF t k (leafV u)).length := by
    rw [putF_len]; rw [abJ_len] at r1 ⊢; exact r1
  have ht8 := (r1'.p hfp).imp (r := fun b => w.heap.size ≤ b) (fun b _ hb => Nat.le_trans b0.size hb)
  rw [abJ_len] at ht8
  have b12 := on b1 b2
  have B8 := b12.grown r2 b12.size (fun k hk => by cases hk; exact hgB)
  simp only [World.setCells, vcells] at hw8
  clear o1 o2 o2' r1 r1' c0 c1 c2 c3 c4 c5
  go_wp2_with (rw [hw8])
  go_ret2
  exact ⟨_, rfl, ht8, on b0 B8⟩

theorem refUpdate_yes {t : Tree} (hf : Fit t) {v : Value} {w : World} (ht : TreeAt w v t) (i : Int) (hi : fullB t i = true) (u : PV) (h : Value) :
    Calls Tryd.prog 44 #[v, .int .i64 i, u.val h] w fun e w' => ∃ v', e = .returned (.tuple #[v', .int .i64 0]) ∧ TreeAt w' v' (putF t i (leafV u)) ∧ Below w.heap.size w w' :=
  (refUpdate_new hf ht i hi u h).mono fun e w' ⟨v', h1, h2, h3⟩ => ⟨v', h1, h2.tree, h3⟩

set_option maxRecDepth 100000 in
set_option maxHeartbeats 1000000 in
theorem refUpdate_no {t : Tree} (hf : Fit t) {v : Value} {w : World} (ht : TreeAt w v t) (i : Int) (hi : fullB t i = false) (u : PV) (h : Value) :
    Calls Tryd.prog 44 #[v, .int .i64 i, u.val h] w fun e w' => e = .returned (.tuple #[.slice none 0 0, .int .i64 40]) ∧ Below w.heap.size w w' := by
  unfold PV.val at *
  obtain ⟨w0, hw0⟩ : ∃ w0, w.alloc (.cells (leafCells u h) 24) = w0 := ⟨_, rfl⟩
  have b0 : Below w.heap.size w w0 := by rw [← hw0]; exact (Below.refl _ _).alloc (Nat.le_refl _) _
  have ht0 := ht.below b0
  unfold leafCells at hw0
  go_enter Tryd.func44, Tryd.ntmps44
  go_wp2_with (rw [hw0])
  refine (refFull_any ht0 hf.sh i).mono ?_
  rintro e w' ⟨rfl, hw⟩
  obtain rfl := hw.symm
  rw [hi]
  go_wp2_with fail
  go_ret2
  exact ⟨rfl, b0⟩

set_option maxRecDepth 100000 in
set_option maxHeartbeats 4000000 in
theorem refRemove_new {t : Tree} (hf : Fit t) {v : Value} {w : World} (ht : TreeAt w v t) (i : Int) (hi : fullB t i = true) (hm : ¬ (members t).length < 2) :
    Calls Tryd.prog 45 #[v, .int .i64 i] w fun e w' => ∃ v', e = .returned (.tuple #[v', .int .i64 0]) ∧ TreeP (fun b => w.heap.size ≤ b) w' v' (remF t i) ∧ Below w.heap.size w w' := by
  obtain ⟨k, rfl, hk, _⟩ := fullB_nat hi
  have hs := hf.sh
  have hbd := hs.bounds
  have hml := membersN_len t (lv t)
  have hm2 : ¬ (((members t).length : Int) < 2) := by omega
  go_enter Tryd.func45, Tryd.ntmps45
  go_wp2_with fail
  refine (refFull_any ht hs k).mono ?_
  rintro e w' ⟨rfl, hw⟩
  obtain rfl := hw.symm
  rw [hi]
  go_wp2_with fail
  refine (refMembers_any ht hs).mono ?_
  rintro e w0 ⟨v0, rfl, m0, b0⟩
  obtain ⟨a0, cap0, hv0, _⟩ := ownsRow_ints m0 (by unfold members; omega)
  subst hv0
  have ht0 := ht.below b0
  go_wp2_with fail
  refine (above_any hf ht0 k hk).mono ?_
  rintro e w2 ⟨g, cap, hs1, rfl, hgB, o2, b1⟩
  have i1 : 2 * (k : Int) < (t.length : Int) := by omega
  have i2 : (k : Int) ≤ 32 := by omega
  have hYl : 2 * k < (abJ t k t.length).length := by rw [abJ_len]; omega
  have o2' : OwnT w0.heap.size w2 (.slice (some ⟨g, 0, none⟩) (abJ t k t.length).length cap) (abJ t k t.length) hs1 (abJ t k t.length).length := by rw [abJ_len]; exact o2
  obtain ⟨a, ha⟩ := o2'.head hYl
  obtain ⟨d0, d1, d2, d3, d4, d5⟩ := o2'.vat (vx_some hYl) ha
  have fz : ∀ i, w2.frozen? ⟨g, i, none⟩ = false := fun i => o2'.row.frozenAt i
  obtain ⟨r1, r2⟩ := o2'.setV hYl PV.blank rfl
  obtain ⟨w8, hw8⟩ : ∃ w8, w2.setCells g (2 * k * 6) (vcells PV.blank (.slice none 0 0)) = w8 := ⟨_, rfl⟩
  rw [hw8] at r1 r2
  rw [abJ_put (by omega)] at r1
  have hfp := hf.put k PV.blank rfl
  have r1' : OwnT w0.heap.size w8 (.slice (some ⟨g, 0, none⟩) (putF t k PV.blank).length cap) (putF t k PV.blank) (hs1.set (2 * k) (.slice none 0 0)) (putF t k PV.blank).length := by
    rw [putF_len]; rw [abJ_len] at r1; exact r1
  have ht8 := (r1'.p hfp).imp (r := fun b => w.heap.size ≤ b) (fun b _ hb => Nat.le_trans b0.size hb)
  obtain ⟨ca, cc, hce, hcl⟩ := r1'.cap
  cases hce
  have B8 : Below w.heap.size w w8 := on b0 (b1.grown r2 b1.size (fun k hk => by cases hk; exact hgB))
  have hsP := hfp.sh
  obtain ⟨Q, hQ⟩ : ∃ Q, putF t k PV.blank = Q := ⟨_, rfl⟩
  have hQl : Q.length = t.length := by rw [← hQ, putF_len]
  have HR : Hid (remF t k = shr 6 Q) := by rw [← hQ]; rfl
  rw [hQ] at ht8 hcl hsP
  rw [hQl] at ht8 hcl
  simp only [World.setCells, vcells, PV.blank] at hw8
  clear o2 o2' r1 r1' hQ hfp
  go_wp2_with (rw [hw8])
  go_loopw [6] (fun a wr => ∃ (f : Nat) (T : Tree), Hid (shr 6 Q = shr f T) ∧ lv T ≤ 2 ^ f ∧ Sh T ∧ TreeP (fun b => w.heap.size ≤ b) wr a T ∧ (∃ c, a = .slice (some ⟨g, 0, none⟩) T.length c ∧ T.length ≤ c) ∧ Below w.heap.size w wr) (fun a _ => match a with | .slice _ n _ => n | _ => 0)
  case atStart => exact ⟨6, Q, rfl, by have := hsP.bounds; omega, hsP, ht8, ⟨cap, by rw [hQl], by omega⟩, B8⟩
  case round =>
    obtain ⟨f, T, HS, hpf, hsT, hT, ⟨c, hae, hcap⟩, hB⟩ := hrel
    subst hae
    have hb := hsT.bounds
    have i3 : (lv T : Int) ≤ 32 := by omega
    have i4 : (T.length : Int) ≤ (c : Int) := by omega
    by_cases h1 : 1 < lv T
    · have i5 : (1 : Int) < (T.length : Int) := by omega
      have i6 : (1 : Int) < (lv T : Int) := by omega
      have htg := refTight_any hT.tree hsT
      have hlv := refLeaves_any hT.tree
      cases h2 : tightB T with
      | true =>
        have HE : Hid (shr 6 Q = T) := by
          show _ = _
          rw [HS.out]
          exact shr_stop (by simp [h2]) f
        rw [h2] at htg
        go_wp2_with (go_at_call 58; refine htg.mono ?_; rintro e w' ⟨rfl, hw⟩; obtain rfl := hw.symm)
        go_ret2
        exact ⟨_, rfl, by rw [HR.out, HE.out]; exact hT, hB⟩
      | false =>
        obtain ⟨s1, s2, s3⟩ := half_sh hsT h1
        obtain ⟨g2, rfl⟩ : ∃ g2, f = g2 + 1 := by
          cases f with
          | zero => simp at hpf; omega
          | succ g => exact ⟨g, rfl⟩
        have HN : Hid (shr 6 Q = shr g2 (T.take (lv T - 1))) := by
          show _ = _
          rw [HS.out]
          exact shr_go h1 h2
        have hpg : lv (T.take (lv T - 1)) ≤ 2 ^ g2 := by
          rw [s2]
          rw [Nat.pow_succ] at hpf
          omega
        have ht2 := hT.take (lv T - 1) c (by omega)
        have i7 : (lv T : Int) - 1 ≤ (c : Int) := by omega
        rw [h2] at htg
        go_wp2_with first
          | (go_at_call 58; refine htg.mono ?_; rintro e w' ⟨rfl, hw⟩; obtain rfl := hw.symm)
          | (go_at_call 23; refine hlv.mono ?_; rintro e w' ⟨rfl, hw⟩; obtain rfl := hw.symm)
        go_roundw
        case rel => exact ⟨g2, _, HN, hpg, s1, ht2, ⟨c, by rw [s3], by omega⟩, hB⟩
        case measure => simp; omega
    · have h0 : lv T = 1 := by omega
      have hl1 : T.length = 1 := by omega
      have i5 : ¬ ((1 : Int) < (T.length : Int)) := by omega
      have HE : Hid (shr 6 Q = T) := by
        show _ = _
        rw [HS.out]
        exact shr_stop (by simp [h1]) f
      clear hl1 h0
      go_wp2_with fail
      go_ret2
      exact ⟨_, rfl, by rw [HR.out, HE.out]; exact hT, hB⟩

theorem refRemove_yes {t : Tree} (hf : Fit t) {v : Value} {w : World} (ht : TreeAt w v t) (i : Int) (hi : fullB t i = true) (hm : ¬ (members t).length < 2) :
    Calls Tryd.prog 45 #[v, .int .i64 i] w fun e w' => ∃ v', e = .returned (.tuple #[v', .int .i64 0]) ∧ TreeAt w' v' (remF t i) ∧ Below w.heap.size w w' :=
  (refRemove_new hf ht i hi hm).mono fun e w' ⟨v', h1, h2, h3⟩ => ⟨v', h1, h2.tree, h3⟩

set_option maxRecDepth 100000 in
set_option maxHeartbeats 1000000 in
theorem refRemove_no {t : Tree} (hf : Fit t) {v : Value} {w : World} (ht : TreeAt w v t) (i : Int) (hi : fullB t i = false ∨ (members t).length < 2) :
    Calls Tryd.prog 45 #[v, .int .i64 i] w fun e w' => e = .returned (.tuple #[.slice none 0 0, .int .i64 40]) ∧ Below w.heap.size w w' := by
  cases hf2 : fullB t i with
  | false =>
    go_enter Tryd.func45, Tryd.ntmps45
    go_wp2_with fail
    refine (refFull_any ht hf.sh i).mono ?_
    rintro e w' ⟨rfl, hw⟩
    obtain rfl := hw.symm
    rw [hf2]
    go_wp2_with fail
    go_ret2
    exact ⟨rfl, Below.refl _ _⟩
  | true =>
    have hm : (members t).length < 2 := by
      rcases hi with h | h
      · rw [hf2] at h; cases h
      · exact h
    have hm2 : ((members t).length : Int) < 2 := by omega
    go_enter Tryd.func45, Tryd.ntmps45
    go_wp2_with fail
    refine (refFull_any ht hf.sh i).mono ?_
    rintro e w' ⟨rfl, hw⟩
    obtain rfl := hw.symm
    rw [hf2]
    go_wp2_with fail
    refine (refMembers_any ht hf.sh).mono ?_
    rintro e w0 ⟨v0, rfl, m0, b0⟩
    obtain ⟨a0, cap0, hv0, _⟩ := ownsRow_ints m0 (by omega)
    subst hv0
    go_wp2_with fail
    go_ret2
    exact ⟨rfl, b0⟩

end Go.Proofs.YtdnopkpoepdihaaDoor
