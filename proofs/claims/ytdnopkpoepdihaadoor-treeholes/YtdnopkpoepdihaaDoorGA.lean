/-
  The law TreeGrows: the k-th who is added comes to the leaf k.
-/
import Derived.Test.YtdnopkpoepdihaaDoorTR
namespace Go.Proofs.YtdnopkpoepdihaaDoor
open Go.RowKit
set_option linter.unusedSimpArgs false
set_option linter.unusedVariables false

/-- The least power of two that is enough, up to 32. -/
def p2 (k : Nat) : Nat := if k ≤ 1 then 1 else if k ≤ 2 then 2 else if k ≤ 4 then 4 else if k ≤ 8 then 8 else if k ≤ 16 then 16 else 32

structure Upto (t : Tree) (k : Nat) : Prop where
  good : Good t
  full : ∀ j, j < lv t → (vx t (2 * j)).full = decide (j < k)
  size : lv t = p2 k
  one : 1 ≤ k
  most : k ≤ 32

theorem p2_ge {k : Nat} (h : k ≤ 32) : k ≤ p2 k := by
  unfold p2; repeat' split
  all_goals omega

theorem p2_next {k : Nat} (h : k < 32) (h1 : 1 ≤ k) : (k = p2 k → p2 (k + 1) = 2 * p2 k) ∧ (k ≠ p2 k → p2 (k + 1) = p2 k) := by
  have : ∀ k : Fin 32, 1 ≤ k.1 → (k.1 = p2 k.1 → p2 (k.1 + 1) = 2 * p2 k.1) ∧ (k.1 ≠ p2 k.1 → p2 (k.1 + 1) = p2 k.1) := by decide +kernel
  exact this ⟨k, h⟩ h1

theorem Upto.least {t : Tree} {k : Nat} (h : Upto t k) : least t = k := by
  obtain ⟨a, b, c⟩ := least_spec t
  have hk := p2_ge h.most
  have hs := h.size
  rcases Nat.lt_trichotomy (Go.Proofs.YtdnopkpoepdihaaDoor.least t) k with hlt | heq | hgt
  · have h1 := c (by omega)
    rw [h.full _ (by omega)] at h1
    simp at h1; omega
  · exact heq
  · have h1 := b k hgt
    rw [h.full k (by omega)] at h1
    simp at h1

theorem Upto.add {t : Tree} {k : Nat} (h : Upto t k) (hk : k < 32) (u : PV) : Upto (addF t u) (k + 1) ∧ ¬ (Go.Proofs.YtdnopkpoepdihaaDoor.least t = lv t ∧ lv t = 32) := by
  have hl := h.least
  have hr : ¬ (Go.Proofs.YtdnopkpoepdihaaDoor.least t = lv t ∧ lv t = 32) := by omega
  obtain ⟨s1, s2, s3, s4⟩ := room_sh h.good.sh hr
  obtain ⟨n1, n2⟩ := p2_next hk h.one
  have hs := h.size
  refine ⟨⟨h.good.add hr u, fun j hj => ?_, ?_, by omega, by omega⟩, hr⟩
  · rw [addF_lv] at hj
    rw [addF_full h.good.sh hr u j hj, hl]
    by_cases hjl : j < lv t
    · rw [h.full j hjl]
      by_cases h1 : j = k
      · simp [h1]
      · by_cases h2 : j < k
        · simp [h2, hjl]; omega
        · simp [h1, h2]; omega
    · have hge := p2_ge h.most
      by_cases h1 : j = k
      · simp [h1]
      · simp [h1, hjl]; omega
  · rw [addF_lv]
    by_cases he : Go.Proofs.YtdnopkpoepdihaaDoor.least t = lv t
    · rw [s3 he, n1 (by omega), hs]
    · rw [s4 he, n2 (by omega), hs]

theorem Upto.members {t : Tree} {k : Nat} (h : Upto t k) : (members t).length = k := by
  have hk := p2_ge h.most
  have key : ∀ m, m ≤ lv t → (membersN t m).length = min m k := by
    intro m
    induction m with
    | zero => intro _; simp [membersN]
    | succ m ih =>
      intro hm
      rw [membersN_succ, h.full m (by omega)]
      have := ih (by omega)
      by_cases h1 : m < k
      · simp [h1, this]; omega
      · simp [h1, this]; omega
  have := key (lv t) (Nat.le_refl _)
  have hs := h.size
  unfold Go.Proofs.YtdnopkpoepdihaaDoor.members
  omega

theorem Upto.start (u : PV) : Upto [leafV u] 1 := by
  have e : lv [leafV u] = 1 := by simp [lv]
  refine ⟨Good.one u, fun j hj => ?_, e, by omega, by omega⟩
  rw [e] at hj
  obtain rfl : j = 0 := by omega
  rfl

theorem pw_end {j n : Nat} (hj : j ≤ 6) (hn : n ≤ 32) (h1 : (n : Int) ≤ pw j) (h2 : ∀ i, i < j → pw i < (n : Int)) : pw j = (p2 n : Int) := by
  have : ∀ (j : Fin 7) (n : Fin 33), (n.1 : Int) ≤ pw j.1 → (j.1 = 0 ∨ pw (j.1 - 1) < (n.1 : Int)) → pw j.1 = (p2 n.1 : Int) := by decide +kernel
  refine this ⟨j, by omega⟩ ⟨n, by omega⟩ h1 ?_
  by_cases h : j = 0
  · exact .inl h
  · exact .inr (h2 (j - 1) (by omega))

theorem pw_le {j : Nat} (hj : j ≤ 6) : 1 ≤ pw j ∧ pw j ≤ 64 := by
  have : ∀ j : Fin 7, 1 ≤ pw j.1 ∧ pw j.1 ≤ 64 := by decide +kernel
  exact this ⟨j, by omega⟩

set_option maxRecDepth 100000 in
set_option maxHeartbeats 4000000 in
theorem grows_walk (u : PV) (h : Value) (n : Int) {w : World} (hT : Tab w) :
    Calls Tryd.prog 9 #[u.val h, .int .i64 n] w fun e w' => e = .returned (.bool true) ∧ Below w.heap.size w w' := by
  have hN : ∀ W, Calls Tryd.prog 14 #[u.val h] W fun e w' => ∃ v, e = .returned v ∧ TreeAt w' v [leafV u] ∧ Below W.heap.size W w' := fun W => New_any u h W
  have hAd : ∀ {t : Tree} (hf : Fit t) {v : Value} {W : World} (ht : TreeAt W v t) (hT : Tab W), ¬ (least t = lv t ∧ lv t = 32) → Calls Tryd.prog 33 #[v, u.val h] W fun e w' => ∃ v' hs, e = .returned (.tuple #[v', .int .i64 (least t), .int .i64 0]) ∧ OwnT W.heap.size w' v' (addF t u) hs (addF t u).length ∧ Below W.heap.size W w' := by intro t hf v W ht hT hr; exact add_yes hf ht hT u h hr
  have hNo : ∀ {t : Tree} (hf : Fit t) {v : Value} {W : World} (ht : TreeAt W v t), least t = lv t → lv t = 32 → Calls Tryd.prog 33 #[v, u.val h] W fun e w' => e = .returned (.tuple #[.slice none 0 0, .int .i64 0, .int .i64 41]) ∧ Below W.heap.size W w' := by intro t hf v W ht h1 h2; exact add_no hf ht u h h1 h2
  unfold PV.val at *
  obtain ⟨w0, hw0⟩ : ∃ w0, w.alloc (.cells (leafCells u h) 24) = w0 := ⟨_, rfl⟩
  have b0 : Below w.heap.size w w0 := by rw [← hw0]; exact (Below.refl _ _).alloc (Nat.le_refl _) _
  have hT0 := hT.below b0 hT.size
  have q0 : w0.heap[w.heap.size]? = some (.cells (leafCells u h) 24) := by rw [← hw0]; exact heap_alloc_new w _
  have hsz0 : w.heap.size < w0.heap.size := by rw [← hw0]; simp
  have bc : ∀ W, Below w0.heap.size w0 W → ∀ j, W.cell? ⟨w.heap.size, j, none⟩ = (leafCells u h)[j]? := fun W hW j => by simp [World.cell?, (hW.block _ hsz0).trans q0]
  unfold leafCells at hw0
  go_enter Tryd.func9, Tryd.ntmps9
  go_wp2_with (rw [hw0])
  refine (anchor_any hT0).mono ?_
  rintro e w1 ⟨rfl, b1⟩
  by_cases hn1 : n < 1
  · go_wp2_with fail
    go_ret
    exact ⟨rfl, on b0 b1⟩
  by_cases hn2 : 40 < n
  · go_wp2_with fail
    go_ret
    exact ⟨rfl, on b0 b1⟩
  have c0 := bc w1 b1 0
  have c1 := bc w1 b1 1
  have c2 := bc w1 b1 2
  have c3 := bc w1 b1 3
  have c4 := bc w1 b1 4
  have c5 := bc w1 b1 5
  simp [leafCells] at c0 c1 c2 c3 c4 c5
  obtain ⟨N, rfl⟩ : ∃ N : Nat, n = N := ⟨n.toNat, by omega⟩
  have Hbc : Hid (∀ W, Below w0.heap.size w0 W → ∀ j, W.cell? ⟨w.heap.size, j, none⟩ = (leafCells u h)[j]?) := bc
  clear bc
  go_wp2_with fail
  refine (hN w1).mono ?_
  rintro e w2 ⟨v2, rfl, ht2, b2⟩
  have b02 := on b1 b2
  clear c0 c1 c2 c3 c4 c5 hN
  go_wp2_with fail
  go_loopw [5, 6] (fun a q wr => ∃ (k : Nat) (t : Tree), (k : Int) ≤ N ∧ k ≤ 32 ∧ q = .int .i64 k ∧ Upto t k ∧ TreeAt wr a t ∧ Below w0.heap.size w0 wr) (fun _ q _ => N - (intOf q).toNat)
  case atStart => exact ⟨1, _, by omega, by omega, rfl, Upto.start u, ht2, b02⟩
  case round =>
    obtain ⟨k, t, hkN, hk32, rfl, hU, ht, hB⟩ := hrel
    have hTr := hT0.below hB hT0.size
    have hl := hU.least
    have hsz := hU.size
    have hge := p2_ge hU.most
    have hone := hU.one
    by_cases hlt : k < N
    · have i1 : (k : Int) < (N : Int) := by omega
      have c0 := Hbc.out wr hB 0
      have c1 := Hbc.out wr hB 1
      have c2 := Hbc.out wr hB 2
      have c3 := Hbc.out wr hB 3
      have c4 := Hbc.out wr hB 4
      have c5 := Hbc.out wr hB 5
      simp [leafCells] at c0 c1 c2 c3 c4 c5
      by_cases hk : k < 32
      · obtain ⟨hU2, hr⟩ := hU.add hk u
        have hA := hAd hU.good.fit ht hTr hr
        rw [hl] at hA
        have i2 : ¬ (32 ≤ (k : Int)) := by omega
        go_wp2_with fail
        refine hA.mono ?_
        rintro e w3 ⟨v3, hs3, rfl, o3, b3⟩
        have ht3 := o3.treeF hU2.good.fit
        go_wp2_with fail
        go_roundw
        case rel => exact ⟨k + 1, _, by omega, by omega, by go_num, hU2, ht3, hB.trans (b3.mono hB.size)⟩
        case measure => simp [intOf]; omega
      · have hk2 : k = 32 := by omega
        have hs32 : lv t = 32 := by
          have := hU.size
          rw [hk2] at this
          exact this
        have hA := hNo hU.good.fit ht (by omega) hs32
        subst hk2
        go_wp2_with fail
        refine hA.mono ?_
        rintro e w3 ⟨rfl, b3⟩
        go_wp2_with fail
        go_ret
        exact ⟨rfl, on b0 (hB.trans (b3.mono hB.size))⟩
    · have hkN' : k = N := by omega
      subst hkN'
      have HT : Hid (TreeAt wr u5 t) := ht
      go_wp2_with fail
      go_loop [10] (fun c => ∃ j : Nat, j ≤ 6 ∧ c = .int .i64 (pw j) ∧ Hid (∀ i, i < j → pw i < (k : Int))) (fun c => 64 - (intOf c).toNat)
      case atStart => exact ⟨0, by omega, rfl, fun i hi => by omega⟩
      case round =>
        obtain ⟨j, hj, rfl, HP⟩ := hrel
        have hpl := pw_le hj
        by_cases hlt2 : pw j < (k : Int)
        · have hj6 : j < 6 := by
            rcases Nat.lt_or_ge j 6 with h | h
            · exact h
            · have : j = 6 := by omega
              subst this
              have : pw 6 = 64 := rfl
              omega
          obtain ⟨e1, e2, e3⟩ := pw_next j hj6
          have HP2 : Hid (∀ i, i < j + 1 → pw i < (k : Int)) := by
            intro i hi
            rcases Nat.lt_or_ge i j with h | h
            · exact HP.out i h
            · have : i = j := by omega
              subst this; exact hlt2
          go_wp2_with fail
          exact ⟨⟨j + 1, by omega, by rw [← e1]; congr 1; omega, HP2⟩, by simp [intOf]; omega⟩
        · have hend := pw_end hj (by omega) (by omega) HP.out
          have HL : (lv t : Int) = pw j := by rw [hend, hsz]
          have hlv := Leaves_sh HT.out hU.good.sh
          rw [HL] at hlv
          have hme := Members_any HT.out hU.good.sh
          have hml := hU.members
          have hlen := hU.good.sh.bounds
          have hle2 : (t.length : Int) = 2 * pw j - 1 := by omega
          have hpk : (k : Int) ≤ pw j := by omega
          have HX : Hid ((t.length : Int) = 2 * pw j - 1) := hle2
          obtain ⟨a5, cap5, hv5, _⟩ := id HT.out
          subst hv5
          have HM : Hid ((members t).length = k) := hml
          clear hml
          clear hend HL hlen hle2
          go_wp2_with fail
          refine hlv.mono ?_
          rintro e w' ⟨rfl, hw⟩
          obtain rfl := hw.symm
          go_wp2_with fail
          refine hme.mono ?_
          rintro e w4 ⟨v4, rfl, m4, b4⟩
          obtain ⟨a4, cap4, hv4, _⟩ := m4.ints (by rw [HM.out]; omega)
          subst hv4
          have HX' := HX.out
          rw [HM.out]
          go_wp2_with fail
          go_ret
          exact ⟨by simp [HX'], on b0 (hB.trans (b4.mono hB.size))⟩

end Go.Proofs.YtdnopkpoepdihaaDoor
