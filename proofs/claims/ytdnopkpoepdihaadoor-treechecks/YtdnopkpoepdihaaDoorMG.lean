/-
  A path laid into a tree: package tree's Merge.
-/
import Derived.Test.YtdnopkpoepdihaaDoorRH
import Derived.BigRegion
namespace Go.Proofs.YtdnopkpoepdihaaDoor
open Go.RowKit
set_option linter.unusedSimpArgs false
set_option linter.unusedVariables false

def pathV (k h : Int) : PV := ⟨true, k, 0, 0, h, []⟩

theorem laid_snoc : ∀ (T : Tree) (ps ks hs : List Int) (p k h : Int), ps.length = ks.length → ps.length = hs.length → laid T (ps ++ [p]) (ks ++ [k]) (hs ++ [h]) = (laid T ps ks hs).set p.toNat (pathV k h)
  | T, [], [], [], p, k, h, _, _ => by simp [laid, pathV]
  | T, p' :: ps, k' :: ks, h' :: hs, p, k, h, h1, h2 => by
    simp only [List.cons_append, laid]
    exact laid_snoc _ ps ks hs p k h (by simpa using h1) (by simpa using h2)
  | T, [], k' :: ks, hs, p, k, h, h1, h2 => by simp at h1
  | T, [], [], h' :: hs, p, k, h, h1, h2 => by simp at h2
  | T, p' :: ps, [], hs, p, k, h, h1, h2 => by simp at h1
  | T, p' :: ps, k' :: ks, [], p, k, h, h1, h2 => by simp at h2

theorem laid_len : ∀ (T : Tree) (ps ks hs : List Int), (laid T ps ks hs).length = T.length
  | T, p :: ps, k :: ks, h :: hs => by rw [laid, laid_len]; simp
  | T, [], ks, hs => by cases ks <;> cases hs <;> simp [laid]
  | T, p :: ps, [], hs => by cases hs <;> simp [laid]
  | T, p :: ps, k :: ks, [] => by simp [laid]

theorem Fit.set {T : Tree} (h : Fit T) (x : Nat) (v : PV) (hv : v.late = []) : Fit (T.set x v) := by
  have hl : lv (T.set x v) = lv T := by simp [lv]
  refine ⟨⟨by rw [hl]; exact h.sh.1, by rw [hl]; simpa using h.sh.2⟩, fun y u hu => ?_⟩
  rw [hl]
  by_cases hy : y = x
  · subst hy
    have hyl := (List.getElem?_eq_some_iff.1 hu).1
    rw [List.getElem?_set_self (by simpa using hyl)] at hu
    cases hu
    rw [hv]; simp
  · rw [List.getElem?_set_ne (by omega)] at hu
    exact h.small y u hu

theorem Fit.laid : ∀ {T : Tree} (ps ks hs : List Int), Fit T → Fit (laid T ps ks hs)
  | T, p :: ps, k :: ks, h :: hs, hT => by
    rw [Go.Proofs.YtdnopkpoepdihaaDoor.laid]
    exact Fit.laid ps ks hs (hT.set _ _ rfl)
  | T, [], ks, hs, hT => by cases ks <;> cases hs <;> simpa [Go.Proofs.YtdnopkpoepdihaaDoor.laid] using hT
  | T, p :: ps, [], hs, hT => by cases hs <;> simpa [Go.Proofs.YtdnopkpoepdihaaDoor.laid] using hT
  | T, p :: ps, k :: ks, [], hT => by simpa [Go.Proofs.YtdnopkpoepdihaaDoor.laid] using hT

theorem filt_place {t : Tree} (hs : Sh t) {i : Int} {p : Int} (hp : p ∈ (filt t i).map (·.1)) : inB p (lv t) = true := by
  simp only [List.mem_map] at hp
  obtain ⟨⟨a, b⟩, hm, rfl⟩ := hp
  unfold filt at hm
  split at hm
  · rename_i hc
    simp only [Bool.and_eq_true, decide_eq_true_eq] at hc
    have hm2 := (List.mem_filter.1 hm).1
    have := (List.of_mem_zip hm2).1
    have hb := hs.bounds
    have hin : inB (2 * i) (lv t) = true := by simp [inB, hs.1]; omega
    simp only [pathI, List.mem_filter] at this
    exact up_in hin this.1
  · simp at hm

theorem filt_len (t : Tree) (i : Int) : (filt t i).length ≤ 7 := by
  unfold filt
  split
  · refine Nat.le_trans (List.length_filter_le _ _) ?_
    have := path_len (2 * i) (lv t)
    simp [pairs]; omega
  · simp

set_option maxRecDepth 100000 in
set_option maxHeartbeats 8000000 in
theorem merge_yes {t : Tree} (hf : Fit t) {v : Value} {w : World} (ht : TreeAt w v t) (hT : Tab w) (i : Int) (hi : fullB t i = true) (u : PV) (h : Value) {vk vh : Value} {ks hs : List Int} (hks : IntsAt w vk ks) (hhs : IntsAt w vh hs) (hkl : ks.length = (filt t i).length) (hhl : hs.length = (filt t i).length) :
    Calls Tryd.prog 37 #[v, .int .i64 i, u.val h, vk, vh] w fun e w' => ∃ v', e = .returned (.tuple #[v', .int .i64 0]) ∧ TreeAt w' v' (mergeF t i u ks hs) ∧ Below w.heap.size w w' := by
  obtain ⟨k, rfl, hk, _⟩ := fullB_nat hi
  have hsh := hf.sh
  have hbd := hsh.bounds
  have hfl : ∀ W, Calls Tryd.prog 41 #[u.val h] W fun e w' => e = .returned ((leafV u).val (.slice none 0 0)) ∧ Below W.heap.size W w' := fun W => fullLeaf_any u h W
  have hRe : ∀ W, TreeAt W v t → Tab W → Calls Tryd.prog 65 #[v, .int .i64 k, (leafV u).val (.slice none 0 0)] W fun e w' => ∃ v' hs, e = .returned v' ∧ OwnT W.heap.size w' v' (putF t k (leafV u)) hs (putF t k (leafV u)).length ∧ Below W.heap.size W w' := fun W h1 h2 => replaced_any hf h1 h2 k hk (leafV u) rfl
  unfold PV.val at *
  obtain ⟨w0, hw0⟩ : ∃ w0, w.alloc (.cells (leafCells u h) 24) = w0 := ⟨_, rfl⟩
  have b0 : Below w.heap.size w w0 := by rw [← hw0]; exact (Below.refl _ _).alloc (Nat.le_refl _) _
  have ht0 := ht.below b0
  have hT0 := hT.below b0 hT.size
  have q0 : w0.heap[w.heap.size]? = some (.cells (leafCells u h) 24) := by rw [← hw0]; exact heap_alloc_new w _
  have hsz0 : w.heap.size < w0.heap.size := by rw [← hw0]; simp
  obtain ⟨ka, kcap, rfl, _, hkc⟩ := hks.below b0
  obtain ⟨ha, hcap, rfl, _, hhc⟩ := hhs.below b0
  have hfl7 := filt_len t k
  unfold leafCells at hw0
  go_enter Tryd.func37, Tryd.ntmps37
  go_wp2_with (rw [hw0])
  refine (isMember_any ht0 hsh k).mono ?_
  rintro e w' ⟨rfl, hw⟩
  obtain rfl := hw.symm
  rw [hi]
  go_wp2_with fail
  refine (Filtered_any hf k ht0 hT0).mono ?_
  rintro e w1 ⟨v1, v2, rfl, m1, m2, b1⟩
  obtain ⟨P, hP⟩ : ∃ P, (filt t k).map (·.1) = P := ⟨_, rfl⟩
  have hPl : P.length = (filt t k).length := by rw [← hP]; simp
  have HPp : Hid (∀ p ∈ P, inB p (lv t) = true) := by intro p hp; rw [← hP] at hp; exact filt_place hsh hp
  rw [hP] at m1
  obtain ⟨pa, pcap, hv1, _, hpc⟩ := ownsRow_ints m1 (by omega)
  subst hv1
  have e1 : ((ks.length : Int) != (P.length : Int)) = false := by simp; omega
  have e2 : ((hs.length : Int) != (P.length : Int)) = false := by simp; omega
  have q1 : w1.heap[w.heap.size]? = some (.cells (leafCells u h) 24) := (b1.block _ hsz0).trans q0
  have bc : ∀ j, w1.cell? ⟨w.heap.size, j, none⟩ = (leafCells u h)[j]? := fun j => by simp [World.cell?, q1]
  have c0 := bc 0
  have c1 := bc 1
  have c2 := bc 2
  have c3 := bc 3
  have c4 := bc 4
  have c5 := bc 5
  simp [leafCells] at c0 c1 c2 c3 c4 c5
  have ht1 := ht0.below b1
  have hT1 := hT0.below b1 hT0.size
  have HK : Hid (ks.length = P.length ∧ hs.length = P.length) := ⟨by omega, by omega⟩
  have HM : Hid (mergeF t k u ks hs = laid (putF t k (leafV u)) P ks hs) := by rw [← hP]; rfl
  clear bc q0 q1 hP hkl hhl m1 m2
  go_wp2_with fail
  refine (hfl w1).mono ?_
  rintro e w2 ⟨rfl, b2⟩
  have ht2 := ht1.below b2
  have hT2 := hT1.below b2 hT1.size
  clear c0 c1 c2 c3 c4 c5
  go_wp2_with fail
  refine (hRe w2 ht2 hT2).mono ?_
  rintro e w3 ⟨v3, hs3, rfl, o3, b3⟩
  have hfp := hf.put k (leafV u) rfl
  obtain ⟨Q, hQ⟩ : ∃ Q, putF t k (leafV u) = Q := ⟨_, rfl⟩
  have hQl : Q.length = t.length := by rw [← hQ, putF_len]
  rw [hQ] at o3 hfp HM
  obtain ⟨g, cap, rfl, hgB, hgl⟩ := o3.form (by omega)
  rw [hQl] at o3
  have hP7 : (P.length : Int) ≤ 7 := by omega
  clear hQ
  rw [hQl]
  go_wp2_with fail
  go_loopw [46] (fun q wr => ∃ (j : Nat) (hsj : List Value), j ≤ P.length ∧ q = .int .i64 j ∧ OwnT w2.heap.size wr (.slice (some ⟨g, 0, none⟩) t.length cap) (laid Q (P.take j) (ks.take j) (hs.take j)) hsj t.length ∧ Below w2.heap.size w2 wr) (fun q _ => P.length - (intOf q).toNat)
  case atStart => exact ⟨0, hs3, Nat.zero_le _, rfl, by simpa [laid] using o3, b3⟩
  case round =>
    obtain ⟨j, hsj, hj, rfl, oj, hB⟩ := hrel
    have hsz := hB.size
    obtain ⟨hKl, hHl⟩ := HK.out
    by_cases hlt : j < P.length
    · obtain ⟨p, hp⟩ : ∃ p, P[j]? = some p := ⟨P[j], by simp [hlt]⟩
      obtain ⟨kk, hkk⟩ : ∃ kk, ks[j]? = some kk := ⟨ks[j]'(by omega), by simp⟩
      obtain ⟨hh, hhh⟩ : ∃ hh, hs[j]? = some hh := ⟨hs[j]'(by omega), by simp⟩
      obtain ⟨pb, poff, rfl, hpb, hpcell⟩ := hpc (by rintro rfl; simp at hp)
      obtain ⟨kb, koff, rfl, hkb, hkcell⟩ := hkc (by rintro rfl; simp at hkk)
      obtain ⟨hb, hoff, rfl, hhb, hhcell⟩ := hhc (by rintro rfl; simp at hhh)
      have s1 := b1.size
      have s2 := b2.size
      have dp := (hB.cell (p := ⟨pb, poff + j, none⟩) (by show pb < _; omega)).trans ((b2.cell (p := ⟨pb, poff + j, none⟩) hpb).trans (hpcell j p hp))
      have dk := (hB.cell (p := ⟨kb, koff + j, none⟩) (by show kb < _; omega)).trans ((b2.cell (p := ⟨kb, koff + j, none⟩) (by show kb < _; omega)).trans ((b1.cell (p := ⟨kb, koff + j, none⟩) hkb).trans (hkcell j kk hkk)))
      have dh := (hB.cell (p := ⟨hb, hoff + j, none⟩) (by show hb < _; omega)).trans ((b2.cell (p := ⟨hb, hoff + j, none⟩) (by show hb < _; omega)).trans ((b1.cell (p := ⟨hb, hoff + j, none⟩) hhb).trans (hhcell j hh hhh)))
      obtain ⟨Y, rfl, hY⟩ := in_place hsh (HPp.out p (List.mem_of_getElem? hp))
      have ll : (laid Q (P.take j) (ks.take j) (hs.take j)).length = t.length := by rw [laid_len, hQl]
      have hstep : laid Q (P.take (j + 1)) (ks.take (j + 1)) (hs.take (j + 1)) = (laid Q (P.take j) (ks.take j) (hs.take j)).set Y (pathV kk hh) := by
        rw [List.take_add_one, List.take_add_one, List.take_add_one, hp, hkk, hhh]
        have := laid_snoc Q (P.take j) (ks.take j) (hs.take j) Y kk hh (by simp; omega) (by simp; omega)
        simpa using this
      have hYl : Y < (laid Q (P.take j) (ks.take j) (hs.take j)).length := by rw [ll]; exact hY
      have oj' : OwnT w2.heap.size wr (.slice (some ⟨g, 0, none⟩) (laid Q (P.take j) (ks.take j) (hs.take j)).length cap) (laid Q (P.take j) (ks.take j) (hs.take j)) hsj (laid Q (P.take j) (ks.take j) (hs.take j)).length := by rw [ll]; exact oj
      obtain ⟨a, haa⟩ := oj'.head hYl
      obtain ⟨d0, d1, d2, d3, d4, d5⟩ := oj'.vat (vx_some hYl) haa
      have fz : ∀ q, wr.frozen? ⟨g, q, none⟩ = false := fun q => oj'.row.frozenAt q
      obtain ⟨r1, r2⟩ := oj'.setV hYl (pathV kk hh) rfl
      obtain ⟨w8, hw8⟩ : ∃ w8, wr.setCells g (Y * 6) (vcells (pathV kk hh) (.slice none 0 0)) = w8 := ⟨_, rfl⟩
      rw [hw8] at r1 r2
      rw [← hstep, ll] at r1
      have B8 := hB.grown r2 hsz (fun k hk => by cases hk; exact hgB)
      have i1 : (j : Int) < (P.length : Int) := by omega
      have i2 : (j : Int) < (ks.length : Int) := by omega
      have i3 : (j : Int) < (hs.length : Int) := by omega
      have i4 : (Y : Int) < (t.length : Int) := by omega
      have HO : Hid (OwnT w2.heap.size w8 (.slice (some ⟨g, 0, none⟩) t.length cap) (laid Q (P.take (j + 1)) (ks.take (j + 1)) (hs.take (j + 1))) (hsj.set Y (.slice none 0 0)) t.length ∧ Below w2.heap.size w2 w8) := ⟨r1, B8⟩
      simp only [World.setCells, vcells, pathV] at hw8
      clear r1 r2 oj oj' hstep hp hkk hhh hpcell hkcell hhcell hpc hkc hhc B8
      have HO2 : Hid (OwnT w2.heap.size w8.drew (.slice (some ⟨g, 0, none⟩) t.length cap) (laid Q (P.take (j + 1)) (ks.take (j + 1)) (hs.take (j + 1))) (hsj.set Y (.slice none 0 0)) t.length ∧ Below w2.heap.size w2 w8.drew) := ⟨⟨HO.out.1.len, HO.out.1.row, HO.out.1.late, HO.out.1.apart⟩, HO.out.2.drew⟩
      go_wp2_with fail
      go_region
      go_wp2_with (rw [hw8])
      exact ⟨⟨j + 1, _, by omega, by go_num, HO2.out⟩, by simp [intOf]; omega⟩
    · have e1 : P.take j = P := List.take_of_length_le (by omega)
      have e2 : ks.take j = ks := List.take_of_length_le (by omega)
      have e3 : hs.take j = hs := List.take_of_length_le (by omega)
      rw [e1, e2, e3] at oj
      have ht9 : TreeAt wr (.slice (some ⟨g, 0, none⟩) t.length cap) (mergeF t k u ks hs) := by
        rw [HM.out]
        refine OwnT.treeF (B := w2.heap.size) (hs := hsj) ?_ (hfp.laid _ _ _)
        rw [laid_len, hQl]; exact oj
      have i1 : ¬ ((j : Int) < (P.length : Int)) := by omega
      clear hpc hkc hhc e1 e2 e3 oj hKl hHl
      go_wp2_with fail
      go_ret2
      exact ⟨_, rfl, ht9, on b0 (on b1 (on b2 hB))⟩

set_option maxRecDepth 100000 in
set_option maxHeartbeats 1000000 in
theorem merge_no {t : Tree} (hf : Fit t) {v : Value} {w : World} (ht : TreeAt w v t) (i : Int) (hi : fullB t i = false) (u : PV) (h vk vh : Value) :
    Calls Tryd.prog 37 #[v, .int .i64 i, u.val h, vk, vh] w fun e w' => e = .returned (.tuple #[.slice none 0 0, .int .i64 40]) ∧ Below w.heap.size w w' := by
  unfold PV.val at *
  obtain ⟨w0, hw0⟩ : ∃ w0, w.alloc (.cells (leafCells u h) 24) = w0 := ⟨_, rfl⟩
  have b0 : Below w.heap.size w w0 := by rw [← hw0]; exact (Below.refl _ _).alloc (Nat.le_refl _) _
  have ht0 := ht.below b0
  unfold leafCells at hw0
  go_enter Tryd.func37, Tryd.ntmps37
  go_wp2_with (rw [hw0])
  refine (isMember_any ht0 hf.sh i).mono ?_
  rintro e w' ⟨rfl, hw⟩
  obtain rfl := hw.symm
  rw [hi]
  go_wp2_with fail
  go_ret2
  exact ⟨rfl, b0⟩

set_option maxRecDepth 100000 in
set_option maxHeartbeats 2000000 in
theorem merge_bad {t : Tree} (hf : Fit t) {v : Value} {w : World} (ht : TreeAt w v t) (hT : Tab w) (i : Int) (hi : fullB t i = true) (u : PV) (h : Value) {vk vh : Value} {ks hs : List Int} (hks : IntsAt w vk ks) (hhs : IntsAt w vh hs) (hbad : ¬ (ks.length = (filt t i).length ∧ hs.length = (filt t i).length)) :
    Calls Tryd.prog 37 #[v, .int .i64 i, u.val h, vk, vh] w fun e w' => e = .returned (.tuple #[.slice none 0 0, .int .i64 30]) ∧ Below w.heap.size w w' := by
  have hfl7 := filt_len t i
  unfold PV.val at *
  obtain ⟨w0, hw0⟩ : ∃ w0, w.alloc (.cells (leafCells u h) 24) = w0 := ⟨_, rfl⟩
  have b0 : Below w.heap.size w w0 := by rw [← hw0]; exact (Below.refl _ _).alloc (Nat.le_refl _) _
  have ht0 := ht.below b0
  have hT0 := hT.below b0 hT.size
  obtain ⟨ka, kcap, rfl, hk1, _⟩ := hks
  obtain ⟨ha, hcap, rfl, hh1, _⟩ := hhs
  unfold leafCells at hw0
  go_enter Tryd.func37, Tryd.ntmps37
  go_wp2_with (rw [hw0])
  refine (isMember_any ht0 hf.sh i).mono ?_
  rintro e w' ⟨rfl, hw⟩
  obtain rfl := hw.symm
  rw [hi]
  go_wp2_with fail
  refine (Filtered_any hf i ht0 hT0).mono ?_
  rintro e w1 ⟨v1, v2, rfl, m1, m2, b1⟩
  have hPl : ((filt t i).map (·.1)).length = (filt t i).length := by simp
  obtain ⟨pa, pcap, hv1, _⟩ := ownsRow_ints m1 (by rw [hPl]; omega)
  rw [hPl] at hv1
  subst hv1
  by_cases hk : ks.length = (filt t i).length
  · have e1 : ((ks.length : Int) != ((filt t i).length : Int)) = false := by simp; omega
    have e2 : ((hs.length : Int) != ((filt t i).length : Int)) = true := by simp; omega
    clear hbad hk hPl
    go_wp2_with fail
    go_ret2
    exact ⟨rfl, on b0 b1⟩
  · have e1 : ((ks.length : Int) != ((filt t i).length : Int)) = true := by simp; omega
    clear hbad hk hPl
    go_wp2_with fail
    go_ret2
    exact ⟨rfl, on b0 b1⟩

end Go.Proofs.YtdnopkpoepdihaaDoor
