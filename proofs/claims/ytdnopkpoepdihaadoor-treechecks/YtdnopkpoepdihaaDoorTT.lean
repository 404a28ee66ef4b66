/-
  Leaves replaced and taken out: package tree's Update, shrunk, Remove.
-/
import Derived.Test.YtdnopkpoepdihaaDoorTR
namespace Go.Proofs.YtdnopkpoepdihaaDoor
open Go.RowKit
set_option linter.unusedSimpArgs false
set_option linter.unusedVariables false

theorem fullB_nat {t : Tree} {i : Int} (h : fullB t i = true) : ∃ k : Nat, i = k ∧ k < lv t ∧ (vx t (2 * k)).full = true := by
  have hr := fullB_range h
  obtain ⟨k, rfl⟩ : ∃ k : Nat, i = k := ⟨i.toNat, by omega⟩
  exact ⟨k, rfl, by omega, by simp [fullB] at h; exact h.2⟩

theorem putF_len (t : Tree) (i : Int) (v : PV) : (putF t i v).length = t.length := by simp [putF]
theorem putF_lv (t : Tree) (i : Int) (v : PV) : lv (putF t i v) = lv t := by simp [lv, putF_len]
theorem putF_get (t : Tree) (i : Int) (v : PV) (x : Nat) : (putF t i v)[x]? = t[x]?.map (putV i (lv t) v x) := by simp [putF]

theorem Fit.put {t : Tree} (h : Fit t) (i : Int) (v : PV) (hv : v.late = []) : Fit (putF t i v) := by
  refine ⟨⟨by rw [putF_lv]; exact h.sh.1, by rw [putF_lv, putF_len]; exact h.sh.2⟩, fun x u hu => ?_⟩
  rw [putF_get] at hu
  cases hx : t[x]? with
  | none => rw [hx] at hu; cases hu
  | some a =>
    rw [hx] at hu
    simp only [Option.map_some, Option.some.injEq] at hu
    subst hu
    unfold putV
    rw [putF_lv]
    split
    · rw [hv]; simp
    · split
      · simp [PV.blank]
      · exact h.small x a hx

set_option maxRecDepth 100000 in
set_option maxHeartbeats 4000000 in
theorem update_yes {t : Tree} (hf : Fit t) {v : Value} {w : World} (ht : TreeAt w v t) (hT : Tab w) (i : Int) (hi : fullB t i = true) (u : PV) (h : Value) :
    Calls Tryd.prog 34 #[v, .int .i64 i, u.val h] w fun e w' => ∃ v', e = .returned (.tuple #[v', .int .i64 0]) ∧ TreeAt w' v' (putF t i (leafV u)) ∧ Below w.heap.size w w' := by
  obtain ⟨k, rfl, hk, _⟩ := fullB_nat hi
  have hs := hf.sh
  have hfl : ∀ W, Calls Tryd.prog 41 #[u.val h] W fun e w' => e = .returned ((leafV u).val (.slice none 0 0)) ∧ Below W.heap.size W w' := fun W => fullLeaf_any u h W
  have hRe : ∀ W, TreeAt W v t → Tab W → Calls Tryd.prog 65 #[v, .int .i64 k, (leafV u).val (.slice none 0 0)] W fun e w' => ∃ v' hs, e = .returned v' ∧ OwnT W.heap.size w' v' (putF t k (leafV u)) hs (putF t k (leafV u)).length ∧ Below W.heap.size W w' := fun W h1 h2 => replaced_any hf h1 h2 k hk (leafV u) rfl
  unfold PV.val at *
  obtain ⟨w0, hw0⟩ : ∃ w0, w.alloc (.cells (leafCells u h) 24) = w0 := ⟨_, rfl⟩
  have b0 : Below w.heap.size w w0 := by rw [← hw0]; exact (Below.refl _ _).alloc (Nat.le_refl _) _
  have ht0 := ht.below b0
  have hT0 := hT.below b0 hT.size
  have q0 : w0.heap[w.heap.size]? = some (.cells (leafCells u h) 24) := by rw [← hw0]; exact heap_alloc_new w _
  have bc : ∀ j, w0.cell? ⟨w.heap.size, j, none⟩ = (leafCells u h)[j]? := fun j => by simp [World.cell?, q0]
  have c0 := bc 0
  have c1 := bc 1
  have c2 := bc 2
  have c3 := bc 3
  have c4 := bc 4
  have c5 := bc 5
  simp [leafCells] at c0 c1 c2 c3 c4 c5
  clear bc q0
  unfold leafCells at hw0
  go_enter Tryd.func34, Tryd.ntmps34
  go_wp2_with (rw [hw0])
  refine (isMember_any ht0 hs k).mono ?_
  rintro e w' ⟨rfl, hw⟩
  obtain rfl := hw.symm
  rw [hi]
  go_wp2_with fail
  refine (hfl w0).mono ?_
  rintro e w1 ⟨rfl, b1⟩
  have ht1 := ht0.below b1
  have hT1 := hT0.below b1 hT0.size
  go_wp2_with fail
  refine (hRe w1 ht1 hT1).mono ?_
  rintro e w2 ⟨v2, hs2, rfl, o2, b2⟩
  have ht2 := o2.treeF (hf.put k (leafV u) rfl)
  go_wp2_with fail
  go_ret2
  exact ⟨_, rfl, ht2, on b0 (on b1 b2)⟩

set_option maxRecDepth 100000 in
set_option maxHeartbeats 1000000 in
theorem update_no {t : Tree} (hf : Fit t) {v : Value} {w : World} (ht : TreeAt w v t) (i : Int) (hi : fullB t i = false) (u : PV) (h : Value) :
    Calls Tryd.prog 34 #[v, .int .i64 i, u.val h] w fun e w' => e = .returned (.tuple #[.slice none 0 0, .int .i64 40]) ∧ Below w.heap.size w w' := by
  have hs := hf.sh
  unfold PV.val at *
  obtain ⟨w0, hw0⟩ : ∃ w0, w.alloc (.cells (leafCells u h) 24) = w0 := ⟨_, rfl⟩
  have b0 : Below w.heap.size w w0 := by rw [← hw0]; exact (Below.refl _ _).alloc (Nat.le_refl _) _
  have ht0 := ht.below b0
  unfold leafCells at hw0
  go_enter Tryd.func34, Tryd.ntmps34
  go_wp2_with (rw [hw0])
  refine (isMember_any ht0 hs i).mono ?_
  rintro e w' ⟨rfl, hw⟩
  obtain rfl := hw.symm
  rw [hi]
  go_wp2_with fail
  go_ret2
  exact ⟨rfl, b0⟩

theorem TreeAt.take {w : World} {a : Option Addr} {cap : Nat} {t : Tree} (h : TreeAt w (.slice a t.length cap) t) (k c : Nat) (hk : k ≤ t.length) : TreeAt w (.slice a k c) (t.take k) := by
  obtain ⟨a', cap', e, hl, hc⟩ := h
  cases e
  refine ⟨a, c, by simp [Nat.min_eq_left hk], by simp; omega, fun hne => ?_⟩
  obtain ⟨b, off, rfl, hr⟩ := hc (by rintro rfl; simp at hne)
  refine ⟨b, off, rfl, hr.lt, fun x u hu => hr.at_ x u ?_⟩
  rw [List.getElem?_take] at hu
  split at hu
  · exact hu
  · cases hu

theorem half_sh {t : Tree} (hs : Sh t) (h1 : 1 < lv t) : Sh (t.take (lv t - 1)) ∧ lv (t.take (lv t - 1)) = lv t / 2 ∧ (t.take (lv t - 1)).length = lv t - 1 := by
  have hb := hs.bounds
  have e1 : (t.take (lv t - 1)).length = lv t - 1 := by rw [List.length_take]; omega
  have hr := hs.1
  have e2 : lv (t.take (lv t - 1)) = lv t / 2 := by
    have : lv (t.take (lv t - 1)) = ((t.take (lv t - 1)).length + 1) / 2 := rfl
    rw [this, e1]; omega
  refine ⟨⟨?_, ?_⟩, e2, e1⟩
  · rw [e2]
    simp [rightB] at hr ⊢
    omega
  · rw [e1, e2]
    simp [rightB] at hr
    omega

theorem Fit.half {t : Tree} (h : Fit t) (h1 : 1 < lv t) (hq : ∀ (x : Nat) (u : PV), x < lv t - 1 → t[x]? = some u → ∀ i ∈ u.late, i < lv t / 2) : Fit (t.take (lv t - 1)) := by
  obtain ⟨s1, s2, s3⟩ := half_sh h.sh h1
  refine ⟨s1, fun x u hu => ?_⟩
  have hx := (List.getElem?_eq_some_iff.1 hu).1
  rw [s3] at hx
  rw [List.getElem?_take, if_pos hx] at hu
  obtain ⟨a, b, c⟩ := h.small x u hu
  refine ⟨a, b, fun i hi => ⟨(c i hi).1, ?_⟩⟩
  rw [s2]
  have := hq x u hx hu i hi
  omega

theorem shr_stop {t : Tree} (h : (decide (1 < lv t) && !tightB t) = false) : ∀ f, shr f t = t
  | 0 => rfl
  | f + 1 => by
    unfold shr
    rw [if_neg (by rw [h]; simp)]
theorem shr_go {t : Tree} {f : Nat} (h1 : 1 < lv t) (h2 : tightB t = false) : shr (f + 1) t = shr f (t.take (lv t - 1)) := by
  have : (decide (1 < lv t) && !tightB t) = true := by simp [h1, h2]
  rw [shr, if_pos this]

set_option maxRecDepth 100000 in
set_option maxHeartbeats 4000000 in
theorem shrunk_any {t : Tree} (hs : Sh t) {v : Value} {w : World} (ht : TreeAt w v t) (hcap : ∃ a cap, v = .slice a t.length cap ∧ t.length ≤ cap) :
    Calls Tryd.prog 66 #[v] w fun e w' => ∃ v', e = .returned v' ∧ TreeAt w' v' (shr 6 t) ∧ Below w.heap.size w w' := by
  go_enter Tryd.func66, Tryd.ntmps66
  go_wp2_with fail
  refine (Leaves_sh ht hs).mono ?_
  rintro e w' ⟨rfl, hw⟩
  obtain rfl := hw.symm
  go_wp2_with fail
  go_loopw [0, 3] (fun a q wr => ∃ (f : Nat) (T : Tree), Hid (shr 6 t = shr f T) ∧ lv T ≤ 2 ^ f ∧ q = .int .i64 (lv T) ∧ Sh T ∧ TreeAt wr a T ∧ (∃ b cap, a = .slice b T.length cap ∧ T.length ≤ cap) ∧ Below w.heap.size w wr) (fun _ q _ => (intOf q).toNat)
  case atStart => exact ⟨6, t, rfl, by have := hs.bounds; omega, rfl, hs, ht, hcap, Below.refl _ _⟩
  case round =>
    obtain ⟨f, T, HS, hpf, rfl, hsT, hT, hcp, hB⟩ := hrel
    have hb := hsT.bounds
    have i1 : (lv T : Int) ≤ 32 := by omega
    by_cases h1 : 1 < lv T
    · have i2 : (1 : Int) < (lv T : Int) := by omega
      have hff := fullFrom_any hT hsT (lv T / 2)
      rw [show ((lv T / 2 : Nat) : Int) = (lv T : Int) / 2 by omega] at hff
      obtain ⟨va, vcap, hva, hle⟩ := hcp
      subst hva
      have i3 : (T.length : Int) ≤ (vcap : Int) := by omega
      cases h2 : tightB T with
      | true =>
        have HE : Hid (shr 6 t = T) := by
          show _ = _
          rw [HS.out]
          exact shr_stop (by simp [h2]) f
        go_wp2_with (go_at_call 43; refine hff.mono ?_; rintro e w1 ⟨rfl, b1⟩; rw [show fromB T (lv T / 2) = true from h2])
        all_goals go_ret
        all_goals exact ⟨_, rfl, by rw [HE.out]; exact hT.below b1, hB.trans (b1.mono hB.size)⟩
      | false =>
        obtain ⟨s1, s2, s3⟩ := half_sh hsT h1
        obtain ⟨g, rfl⟩ : ∃ g, f = g + 1 := by
          cases f with
          | zero => simp at hpf; omega
          | succ g => exact ⟨g, rfl⟩
        have HN : Hid (shr 6 t = shr g (T.take (lv T - 1))) := by
          show _ = _
          rw [HS.out]
          exact shr_go h1 h2
        have hpg : lv (T.take (lv T - 1)) ≤ 2 ^ g := by
          rw [s2]
          rw [Nat.pow_succ] at hpf
          omega
        have ht2 := hT.take (lv T - 1) (lv T - 1) (by omega)
        have hlenT : (T.length : Int) = 2 * (lv T : Int) - 1 := hsT.2
        go_wp2_with (go_at_call 43; refine hff.mono ?_; rintro e w1 ⟨rfl, b1⟩; rw [show fromB T (lv T / 2) = false from h2])
        go_roundw
        case rel => exact ⟨g, _, HN, hpg, by rw [s2]; go_num, s1, ht2.below b1, ⟨va, lv T - 1, by rw [s3], by omega⟩, hB.trans (b1.mono hB.size)⟩
        case measure => simp [intOf]; omega
    · have h0 : lv T = 1 := by omega
      have i2 : ¬ ((1 : Int) < (lv T : Int)) := by omega
      have HE : Hid (shr 6 t = T) := by
        show _ = _
        rw [HS.out]
        exact shr_stop (by simp [h1]) f
      go_wp2_with fail
      all_goals go_ret
      all_goals exact ⟨_, rfl, by rw [HE.out]; exact hT, hB⟩

end Go.Proofs.YtdnopkpoepdihaaDoor
