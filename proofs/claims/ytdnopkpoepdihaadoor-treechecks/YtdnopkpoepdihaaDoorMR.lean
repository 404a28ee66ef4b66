/-
  A path laid into a tree, by the document.
-/
import Derived.Test.YtdnopkpoepdihaaDoorMG
namespace Go.Proofs.YtdnopkpoepdihaaDoor
open Go.RowKit
set_option linter.unusedSimpArgs false
set_option linter.unusedVariables false

set_option maxRecDepth 100000 in
set_option maxHeartbeats 8000000 in
theorem refMerge_new {t : Tree} (hf : Fit t) {v : Value} {w : World} (ht : TreeAt w v t) (i : Int) (hi : fullB t i = true) (u : PV) (h : Value) {vk vh : Value} {ks hs : List Int} (hks : IntsAt w vk ks) (hhs : IntsAt w vh hs) (hkl : ks.length = (filt t i).length) (hhl : hs.length = (filt t i).length) :
    Calls Tryd.prog 46 #[v, .int .i64 i, u.val h, vk, vh] w fun e w' => ∃ v', e = .returned (.tuple #[v', .int .i64 0]) ∧ TreeP (fun b => w.heap.size ≤ b) w' v' (mergeF t i u ks hs) ∧ Below w.heap.size w w' := by
  obtain ⟨k, rfl, hk, _⟩ := fullB_nat hi
  have hsh := hf.sh
  have hbd := hsh.bounds
  have hfl : ∀ W, Calls Tryd.prog 15 #[u.val h] W fun e w' => e = .returned ((leafV u).val (.slice none 0 0)) ∧ Below W.heap.size W w' := fun W => refLeaf_any u h W
  unfold PV.val at *
  obtain ⟨w0, hw0⟩ : ∃ w0, w.alloc (.cells (leafCells u h) 24) = w0 := ⟨_, rfl⟩
  have b0 : Below w.heap.size w w0 := by rw [← hw0]; exact (Below.refl _ _).alloc (Nat.le_refl _) _
  have ht0 := ht.below b0
  have q0 : w0.heap[w.heap.size]? = some (.cells (leafCells u h) 24) := by rw [← hw0]; exact heap_alloc_new w _
  have hsz0 : w.heap.size < w0.heap.size := by rw [← hw0]; simp
  obtain ⟨ka, kcap, rfl, _, hkc⟩ := hks.below b0
  obtain ⟨ha, hcap, rfl, _, hhc⟩ := hhs.below b0
  have hfl7 := filt_len t k
  unfold leafCells at hw0
  go_enter Tryd.func46, Tryd.ntmps46
  go_wp2_with (rw [hw0])
  refine (refFull_any ht0 hsh k).mono ?_
  rintro e w' ⟨rfl, hw⟩
  obtain rfl := hw.symm
  rw [hi]
  go_wp2_with fail
  refine (refFiltered_any hf k ht0).mono ?_
  rintro e w1 ⟨v1, v2, rfl, m1, m2, b1⟩
  obtain ⟨P, hP⟩ : ∃ P, (filt t k).map (·.1) = P := ⟨_, rfl⟩
  have hPl : P.length = (filt t k).length := by rw [← hP]; simp
  have HPp : Hid (∀ p ∈ P, inB p (lv t) = true) := by intro p hp; rw [← hP] at hp; exact filt_place hsh hp
  rw [hP] at m1
  obtain ⟨pa, pcap, hv1, _, hpc⟩ := ownsRow_ints m1 (by omega)
  subst hv1
  have e1 : ((ks.length : Int) != (P.length : Int)) = false := by simp; omega
  have e2 : ((hs.length : Int) != (P.length : Int)) = false := by simp; omega
  have q1 : w1.heap[w.heap.size]? = some (.cells (leafCells u h) 24) := (b1.block _ hsz0).trans q0
  have bc : ∀ j, w1.cell? ⟨w.heap.size, j, none⟩ = (leafCells u h)[j]? := fun j => by simp [World.cell?, q1]
  have c0 := bc 0
  have c1 := bc 1
  have c2 := bc 2
  have c3 := bc 3
  have c4 := bc 4
  have c5 := bc 5
  simp [leafCells] at c0 c1 c2 c3 c4 c5
  have ht1 := ht0.below b1
  have HK : Hid (ks.length = P.length ∧ hs.length = P.length) := ⟨by omega, by omega⟩
  have HM : Hid (mergeF t k u ks hs = laid (putF t k (leafV u)) P ks hs) := by rw [← hP]; rfl
  have Q1 : Hid (w1.heap[w.heap.size]? = some (.cells (leafCells u h) 24)) := q1
  clear bc q0 q1 hP hkl hhl m1 m2
  clear c0 c1 c2 c3 c4 c5
  go_wp2_with fail
  refine (above_any hf ht1 k hk).mono ?_
  rintro e w2 ⟨g, cap, hs3, rfl, hgB, o2, b2⟩
  have q2 : w2.heap[w.heap.size]? = some (.cells (leafCells u h) 24) := (b2.block _ (by have := b1.size; omega)).trans Q1.out
  have bc : ∀ j, w2.cell? ⟨w.heap.size, j, none⟩ = (leafCells u h)[j]? := fun j => by simp [World.cell?, q2]
  have c0 := bc 0
  have c1 := bc 1
  have c2 := bc 2
  have c3 := bc 3
  have c4 := bc 4
  have c5 := bc 5
  simp [leafCells] at c0 c1 c2 c3 c4 c5
  have i1 : 2 * (k : Int) < (t.length : Int) := by omega
  have i2 : (k : Int) ≤ 32 := by omega
  clear bc q2
  go_wp2_with fail
  refine (hfl w2).mono ?_
  rintro e w3 ⟨rfl, b3⟩
  have o3 := o2.below (by rw [abJ_len]; exact Nat.le_refl _) b3
  have hYl : 2 * k < (abJ t k t.length).length := by rw [abJ_len]; omega
  have o3' : OwnT w1.heap.size w3 (.slice (some ⟨g, 0, none⟩) (abJ t k t.length).length cap) (abJ t k t.length) hs3 (abJ t k t.length).length := by rw [abJ_len]; exact o3
  obtain ⟨a, ha2⟩ := o3'.head hYl
  obtain ⟨d0, d1, d2, d3, d4, d5⟩ := o3'.vat (vx_some hYl) ha2
  have fz : ∀ i, w3.frozen? ⟨g, i, none⟩ = false := fun i => o3'.row.frozenAt i
  obtain ⟨r1, r2⟩ := o3'.setV hYl (leafV u) rfl
  obtain ⟨w4, hw4⟩ : ∃ w4, w3.setCells g (2 * k * 6) (vcells (leafV u) (.slice none 0 0)) = w4 := ⟨_, rfl⟩
  rw [hw4] at r1 r2
  rw [abJ_put (by omega), abJ_len] at r1
  have hfp := hf.put k (leafV u) rfl
  obtain ⟨Q, hQ⟩ : ∃ Q, putF t k (leafV u) = Q := ⟨_, rfl⟩
  have hQl : Q.length = t.length := by rw [← hQ, putF_len]
  rw [hQ] at r1 hfp HM
  have b23 := on b2 b3
  have B4 : Below w1.heap.size w1 w4 := b23.grown r2 b23.size (fun k hk => by cases hk; exact hgB)
  simp only [World.setCells, vcells] at hw4
  clear o2 o3 o3' c0 c1 c2 c3 c4 c5 hQ
  have hP7 : (P.length : Int) ≤ 7 := by omega
  go_wp2_with (rw [hw4])
  clear hw4 d0 d1 d2 d3 d4 d5 fz
  go_loopw [15] (fun q wr => ∃ (j : Nat) (hsj : List Value), j ≤ P.length ∧ q = .int .i64 j ∧ OwnT w1.heap.size wr (.slice (some ⟨g, 0, none⟩) t.length cap) (laid Q (P.take j) (ks.take j) (hs.take j)) hsj t.length ∧ Below w1.heap.size w1 wr) (fun q _ => P.length - (intOf q).toNat)
  case atStart => exact ⟨0, _, Nat.zero_le _, rfl, by simpa [laid] using r1, B4⟩
  case round =>
    obtain ⟨j, hsj, hj, rfl, oj, hB⟩ := hrel
    have hsz := hB.size
    obtain ⟨hKl, hHl⟩ := HK.out
    by_cases hlt : j < P.length
    · obtain ⟨p, hp⟩ : ∃ p, P[j]? = some p := ⟨P[j], by simp [hlt]⟩
      obtain ⟨kk, hkk⟩ : ∃ kk, ks[j]? = some kk := ⟨ks[j]'(by omega), by simp⟩
      obtain ⟨hh, hhh⟩ : ∃ hh, hs[j]? = some hh := ⟨hs[j]'(by omega), by simp⟩
      obtain ⟨pb, poff, rfl, hpb, hpcell⟩ := hpc (by rintro rfl; simp at hp)
      obtain ⟨kb, koff, rfl, hkb, hkcell⟩ := hkc (by rintro rfl; simp at hkk)
      obtain ⟨hb, hoff, rfl, hhb, hhcell⟩ := hhc (by rintro rfl; simp at hhh)
      have s1 := b1.size
      have dp := (hB.cell (p := ⟨pb, poff + j, none⟩) hpb).trans (hpcell j p hp)
      have dk := (hB.cell (p := ⟨kb, koff + j, none⟩) (by show kb < _; omega)).trans ((b1.cell (p := ⟨kb, koff + j, none⟩) hkb).trans (hkcell j kk hkk))
      have dh := (hB.cell (p := ⟨hb, hoff + j, none⟩) (by show hb < _; omega)).trans ((b1.cell (p := ⟨hb, hoff + j, none⟩) hhb).trans (hhcell j hh hhh))
      obtain ⟨Y, rfl, hY⟩ := in_place hsh (HPp.out p (List.mem_of_getElem? hp))
      have ll : (laid Q (P.take j) (ks.take j) (hs.take j)).length = t.length := by rw [laid_len, hQl]
      have hstep : laid Q (P.take (j + 1)) (ks.take (j + 1)) (hs.take (j + 1)) = (laid Q (P.take j) (ks.take j) (hs.take j)).set Y (pathV kk hh) := by
        rw [List.take_add_one, List.take_add_one, List.take_add_one, hp, hkk, hhh]
        have := laid_snoc Q (P.take j) (ks.take j) (hs.take j) Y kk hh (by simp; omega) (by simp; omega)
        simpa using this
      have hYl : Y < (laid Q (P.take j) (ks.take j) (hs.take j)).length := by rw [ll]; exact hY
      have oj' : OwnT w1.heap.size wr (.slice (some ⟨g, 0, none⟩) (laid Q (P.take j) (ks.take j) (hs.take j)).length cap) (laid Q (P.take j) (ks.take j) (hs.take j)) hsj (laid Q (P.take j) (ks.take j) (hs.take j)).length := by rw [ll]; exact oj
      obtain ⟨a, haa⟩ := oj'.head hYl
      obtain ⟨d0, d1, d2, d3, d4, d5⟩ := oj'.vat (vx_some hYl) haa
      have fz : ∀ q, wr.frozen? ⟨g, q, none⟩ = false := fun q => oj'.row.frozenAt q
      obtain ⟨r1, r2⟩ := oj'.setV hYl (pathV kk hh) rfl
      obtain ⟨w8, hw8⟩ : ∃ w8, wr.setCells g (Y * 6) (vcells (pathV kk hh) (.slice none 0 0)) = w8 := ⟨_, rfl⟩
      rw [hw8] at r1 r2
      rw [← hstep, ll] at r1
      have B8 := hB.grown r2 hsz (fun k hk => by cases hk; exact hgB)
      have i1 : (j : Int) < (P.length : Int) := by omega
      have i2 : (j : Int) < (ks.length : Int) := by omega
      have i3 : (j : Int) < (hs.length : Int) := by omega
      have i4 : (Y : Int) < (t.length : Int) := by omega
      have HO : Hid (OwnT w1.heap.size w8 (.slice (some ⟨g, 0, none⟩) t.length cap) (laid Q (P.take (j + 1)) (ks.take (j + 1)) (hs.take (j + 1))) (hsj.set Y (.slice none 0 0)) t.length ∧ Below w1.heap.size w1 w8) := ⟨r1, B8⟩
      simp only [World.setCells, vcells, pathV] at hw8
      clear r1 r2 oj oj' hstep hp hkk hhh hpcell hkcell hhcell hpc hkc hhc B8
      have HO2 : Hid (OwnT w1.heap.size w8.drew (.slice (some ⟨g, 0, none⟩) t.length cap) (laid Q (P.take (j + 1)) (ks.take (j + 1)) (hs.take (j + 1))) (hsj.set Y (.slice none 0 0)) t.length ∧ Below w1.heap.size w1 w8.drew) := ⟨⟨HO.out.1.len, HO.out.1.row, HO.out.1.late, HO.out.1.apart⟩, HO.out.2.drew⟩
      go_wp2_with fail
      go_region
      go_wp2_with (rw [hw8])
      exact ⟨⟨j + 1, _, by omega, by go_num, HO2.out⟩, by simp [intOf]; omega⟩
    · have e1 : P.take j = P := List.take_of_length_le (by omega)
      have e2 : ks.take j = ks := List.take_of_length_le (by omega)
      have e3 : hs.take j = hs := List.take_of_length_le (by omega)
      rw [e1, e2, e3] at oj
      have ht9 : TreeP (fun b => w.heap.size ≤ b) wr (.slice (some ⟨g, 0, none⟩) t.length cap) (mergeF t k u ks hs) := by
        rw [HM.out]
        refine (OwnT.p (B := w1.heap.size) (hs := hsj) ?_ (hfp.laid _ _ _)).imp (fun b _ hb => Nat.le_trans (on b0 b1).size hb)
        rw [laid_len, hQl]; exact oj
      have i1 : ¬ ((j : Int) < (P.length : Int)) := by omega
      clear hpc hkc hhc e1 e2 e3 oj hKl hHl
      go_wp2_with fail
      go_ret2
      exact ⟨_, rfl, ht9, on b0 (on b1 hB)⟩

theorem refMerge_yes {t : Tree} (hf : Fit t) {v : Value} {w : World} (ht : TreeAt w v t) (i : Int) (hi : fullB t i = true) (u : PV) (h : Value) {vk vh : Value} {ks hs : List Int} (hks : IntsAt w vk ks) (hhs : IntsAt w vh hs) (hkl : ks.length = (filt t i).length) (hhl : hs.length = (filt t i).length) :
    Calls Tryd.prog 46 #[v, .int .i64 i, u.val h, vk, vh] w fun e w' => ∃ v', e = .returned (.tuple #[v', .int .i64 0]) ∧ TreeAt w' v' (mergeF t i u ks hs) ∧ Below w.heap.size w w' :=
  (refMerge_new hf ht i hi u h hks hhs hkl hhl).mono fun e w' ⟨v', h1, h2, h3⟩ => ⟨v', h1, h2.tree, h3⟩

set_option maxRecDepth 100000 in
set_option maxHeartbeats 1000000 in
theorem refMerge_no {t : Tree} (hf : Fit t) {v : Value} {w : World} (ht : TreeAt w v t) (i : Int) (hi : fullB t i = false) (u : PV) (h vk vh : Value) :
    Calls Tryd.prog 46 #[v, .int .i64 i, u.val h, vk, vh] w fun e w' => e = .returned (.tuple #[.slice none 0 0, .int .i64 40]) ∧ Below w.heap.size w w' := by
  unfold PV.val at *
  obtain ⟨w0, hw0⟩ : ∃ w0, w.alloc (.cells (leafCells u h) 24) = w0 := ⟨_, rfl⟩
  have b0 : Below w.heap.size w w0 := by rw [← hw0]; exact (Below.refl _ _).alloc (Nat.le_refl _) _
  have ht0 := ht.below b0
  unfold leafCells at hw0
  go_enter Tryd.func46, Tryd.ntmps46
  go_wp2_with (rw [hw0])
  refine (refFull_any ht0 hf.sh i).mono ?_
  rintro e w' ⟨rfl, hw⟩
  obtain rfl := hw.symm
  rw [hi]
  go_wp2_with fail
  go_ret2
  exact ⟨rfl, b0⟩

set_option maxRecDepth 100000 in
set_option maxHeartbeats 2000000 in
theorem refMerge_bad {t : Tree} (hf : Fit t) {v : Value} {w : World} (ht : TreeAt w v t) (i : Int) (hi : fullB t i = true) (u : PV) (h : Value) {vk vh : Value} {ks hs : List Int} (hks : IntsAt w vk ks) (hhs : IntsAt w vh hs) (hbad : ¬ (ks.length = (filt t i).length ∧ hs.length = (filt t i).length)) :
    Calls Tryd.prog 46 #[v, .int .i64 i, u.val h, vk, vh] w fun e w' => e = .returned (.tuple #[.slice none 0 0, .int .i64 30]) ∧ Below w.heap.size w w' := by
  have hfl7 := filt_len t i
  unfold PV.val at *
  obtain ⟨w0, hw0⟩ : ∃ w0, w.alloc (.cells (leafCells u h) 24) = w0 := ⟨_, rfl⟩
  have b0 : Below w.heap.size w w0 := by rw [← hw0]; exact (Below.refl _ _).alloc (Nat.le_refl _) _
  have ht0 := ht.below b0
  obtain ⟨ka, kcap, rfl, hk1, _⟩ := hks
  obtain ⟨ha, hcap, rfl, hh1, _⟩ := hhs
  unfold leafCells at hw0
  go_enter Tryd.func46, Tryd.ntmps46
  go_wp2_with (rw [hw0])
  refine (refFull_any ht0 hf.sh i).mono ?_
  rintro e w' ⟨rfl, hw⟩
  obtain rfl := hw.symm
  rw [hi]
  go_wp2_with fail
  refine (refFiltered_any hf i ht0).mono ?_
  rintro e w1 ⟨v1, v2, rfl, m1, m2, b1⟩
  have hPl : ((filt t i).map (·.1)).length = (filt t i).length := by simp
  obtain ⟨pa, pcap, hv1, _⟩ := ownsRow_ints m1 (by rw [hPl]; omega)
  rw [hPl] at hv1
  subst hv1
  by_cases hk : ks.length = (filt t i).length
  · have e1 : ((ks.length : Int) != ((filt t i).length : Int)) = false := by simp; omega
    have e2 : ((hs.length : Int) != ((filt t i).length : Int)) = true := by simp; omega
    clear hbad hk hPl
    go_wp2_with fail
    go_ret2
    exact ⟨rfl, on b0 b1⟩
  · have e1 : ((ks.length : Int) != ((filt t i).length : Int)) = true := by simp; omega
    clear hbad hk hPl
    go_wp2_with fail
    go_ret2
    exact ⟨rfl, on b0 b1⟩

end Go.Proofs.YtdnopkpoepdihaaDoor
