/-
  The document's answers that read a tree: which leaves are full, the members, whether the right half is.
-/
import Derived.Test.YtdnopkpoepdihaaDoorTW
namespace Go.Proofs.YtdnopkpoepdihaaDoor
open Go.RowKit
set_option linter.unusedSimpArgs false
set_option linter.unusedVariables false

set_option maxHeartbeats 1000000 in
theorem refFull_any {w : World} {v : Value} {t : Tree} (ht : TreeAt w v t) (hs : Sh t) (i : Int) :
    Calls Tryd.prog 31 #[v, .int .i64 i] w fun e w' => e = .returned (.bool (fullB t i)) ∧ w' = w := by
  have hb := hs.bounds
  by_cases h0 : 0 ≤ i
  · by_cases h1 : i < lv t
    · obtain ⟨k, rfl⟩ : ∃ k : Nat, i = k := ⟨i.toNat, by omega⟩
      obtain ⟨b, off, cap, hd, rfl, hbl, hv⟩ := ht.get (vx_some (t := t) (x := 2 * k) (by omega))
      have c0 := hv.c0
      have e1 : fullB t k = (vx t (2 * k)).full := by simp [fullB]; intro _; omega
      rw [e1]
      have hlt : (2 * (k : Int)) < t.length := by omega
      have i1 : (lv t : Int) ≤ 32 := by omega
      go_enter Tryd.func31, Tryd.ntmps31
      go_wp2_with (go_at_call 23; refine (refLeaves_any ht).mono ?_; rintro e w' ⟨rfl, hw⟩; obtain rfl := hw.symm)
      go_ret
      exact ⟨rfl, rfl⟩
    · have e1 : fullB t i = false := by simp [fullB]; omega
      rw [e1]
      go_enter Tryd.func31, Tryd.ntmps31
      go_wp2_with (go_at_call 23; refine (refLeaves_any ht).mono ?_; rintro e w' ⟨rfl, hw⟩; obtain rfl := hw.symm)
      go_ret
      exact ⟨rfl, rfl⟩
  · have e1 : fullB t i = false := by simp [fullB]; omega
    rw [e1]
    go_enter Tryd.func31, Tryd.ntmps31
    go_wp2_with fail
    go_ret
    exact ⟨rfl, rfl⟩

set_option maxRecDepth 100000 in
set_option maxHeartbeats 2000000 in
theorem refTight_any {w : World} {v : Value} {t : Tree} (ht : TreeAt w v t) (hs : Sh t) :
    Calls Tryd.prog 58 #[v] w fun e w' => e = .returned (.bool (tightB t)) ∧ w' = w := by
  have hb := hs.bounds
  have i1 : (lv t : Int) ≤ 32 := by omega
  go_enter Tryd.func58, Tryd.ntmps58
  go_wp2_with (go_at_call 23; refine (refLeaves_any ht).mono ?_; rintro e w' ⟨rfl, hw⟩; obtain rfl := hw.symm)
  go_loop [4] (fun q => ∃ j : Nat, lv t / 2 ≤ j ∧ j ≤ lv t ∧ q = .int .i64 j ∧ Hid (∀ i, lv t / 2 ≤ i → i < j → isF t i = false)) (fun q => lv t - (intOf q).toNat)
  case atStart => exact ⟨lv t / 2, Nat.le_refl _, by omega, by go_num, fun i h1 h2 => by omega⟩
  case round =>
    obtain ⟨j, hj0, hj, rfl, HN⟩ := hrel
    by_cases hlt : j < lv t
    · have i2 : (j : Int) < (lv t : Int) := by omega
      have hff := refFull_any ht hs j
      cases hf : fullB t j with
      | true =>
        have HT : Hid (tightB t = true) := from_iff.2 ⟨j, hj0, hlt, by simp [fullB] at hf; exact hf.2⟩
        rw [hf] at hff
        go_wp2_with (go_at_call 31; refine hff.mono ?_; rintro e w' ⟨rfl, hw⟩; obtain rfl := hw.symm)
        go_ret
        exact ⟨by rw [HT.out]; rfl, rfl⟩
      | false =>
        have HN2 : Hid (∀ i, lv t / 2 ≤ i → i < j + 1 → isF t i = false) := fun i h1 h2 => by
          rcases Nat.lt_or_ge i j with h | h
          · exact HN.out i h1 h
          · have : i = j := by omega
            subst this
            rw [isF_fullB]; exact hf
        rw [hf] at hff
        go_wp2_with (go_at_call 31; refine hff.mono ?_; rintro e w' ⟨rfl, hw⟩; obtain rfl := hw.symm)
        exact ⟨⟨j + 1, by omega, by omega, by go_num, HN2⟩, by simp [intOf]; omega⟩
    · have HT : Hid (tightB t = false) := by
        show _ = _
        cases hq : tightB t with
        | false => rfl
        | true =>
          obtain ⟨i, h1, h2, h3⟩ := from_iff.1 hq
          have := HN.out i h1 (by omega)
          simp [isF, h2, h3] at this
      go_wp2_with fail
      all_goals go_ret
      all_goals exact ⟨by rw [HT.out]; rfl, rfl⟩

set_option maxRecDepth 100000 in
set_option maxHeartbeats 2000000 in
theorem refMembers_any {w : World} {v : Value} {t : Tree} (ht : TreeAt w v t) (hs : Sh t) :
    Calls Tryd.prog 21 #[v] w fun e w' => ∃ v', e = .returned v' ∧ OwnI w.heap.size w' v' (members t) ∧ Below w.heap.size w w' := by
  have hb := hs.bounds
  obtain ⟨i0, hi, hz0, hz1, hz2⟩ := info_parts Tryd.infoI
  go_enter Tryd.func21, Tryd.ntmps21
  go_wp2_with fail
  go_loopw [3, 4] (fun c k wr => ∃ j : Nat, j ≤ lv t ∧ k = .int .i64 j ∧ OwnI w.heap.size wr c (membersN t j) ∧ Below w.heap.size w wr) (fun _ k _ => lv t - (intOf k).toNat)
  case atStart => exact ⟨0, Nat.zero_le _, rfl, World.ownsRow_nil _ _ _ _, Below.refl _ _⟩
  case round =>
    obtain ⟨j, hj, rfl, hown, hB⟩ := hrel
    have hsz := hB.size
    have htr := ht.below hB
    have i0' : (lv t : Int) ≤ 32 := by omega
    by_cases hlt : j < lv t
    · have i1 : (j : Int) < (lv t : Int) := by omega
      have Hstep := membersN_succ t j
      have hml := membersN_len t j
      have hff := refFull_any htr hs j
      have e1 : fullB t j = (vx t (2 * j)).full := by simp [fullB, hlt]
      cases hf : (vx t (2 * j)).full with
      | false =>
        rw [e1, hf] at hff
        rw [hf] at Hstep
        have HM : Hid (OwnI w.heap.size wr u3 (membersN t (j + 1))) := by rw [Hstep]; exact hown
        clear Hstep hml hown e1
        go_wp2_with first
          | (go_at_call 23; refine (refLeaves_any htr).mono ?_; rintro e w' ⟨rfl, hw⟩; obtain rfl := hw.symm)
          | (go_at_call 31; refine hff.mono ?_; rintro e w' ⟨rfl, hw⟩; obtain rfl := hw.symm)
        go_roundw
        case rel => exact ⟨j + 1, by omega, by go_num, HM.out, hB⟩
        case measure => simp [intOf]; omega
      | true =>
        rw [e1, hf] at hff
        rw [hf] at Hstep
        have Hs : Hid (membersN t (j + 1) = membersN t j ++ [(j : Int)]) := Hstep
        clear Hstep e1
        obtain ⟨M, hM⟩ : ∃ M, membersN t j = M := ⟨_, rfl⟩
        rw [hM] at hml hown Hs
        have Hm1 : Hid (M.length + 1 ≤ maxLen) := by show _ ≤ maxLen; unfold maxLen; omega
        have Hm2 : Hid ((M.length + 1) * 8 ≤ 140737488355328) := by show _ ≤ _; omega
        have hp0 : w.heap.size ≤ (wr.alloc (.cells #[.int .i64 (j : Int)] 3)).heap.size := by simp; omega
        clear hml hM
        go_wp2_with first
          | (go_at_call 23; refine (refLeaves_any htr).mono ?_; rintro e w' ⟨rfl, hw⟩; obtain rfl := hw.symm)
          | (go_at_call 31; refine hff.mono ?_; rintro e w' ⟨rfl, hw⟩; obtain rfl := hw.symm)
          | (refine wpList_append_own_at _ rfl (.tmp 14) (.tmp 16) 22 rfl w.heap.size 3 i0 (.int .i64 0) 1 8 Tryd.underlying22 hi hz0 hz1 hz2 rfl Nat.one_pos _ M.length _ rfl (hown.alloc _) ⟨wr.heap.size, 0, none⟩ 1 1 [.int .i64 (j : Int)] rfl rfl (cell_one_new _ _ _) (one_int _) Hm1.out Hm2.out hp0 ?_; intro v7 w7 ho7 hg7 hnil7 hl7)
        have b7 := (hB.alloc hsz (.cells #[.int .i64 (j : Int)] 3)).grown hg7 hp0 (fun k hk => (hown.lt k hk).1)
        go_roundw
        case rel => exact ⟨j + 1, by omega, by go_num, by rw [Hs.out]; simpa [OwnI] using ho7, b7⟩
        case measure => simp [intOf]; omega
    · have e : j = lv t := by omega
      have HM : Hid (OwnI w.heap.size wr u3 (members t)) := by rw [members, ← e]; exact hown
      have i2 : ¬ ((j : Int) < (lv t : Int)) := by omega
      clear hown
      go_wp2_with (go_at_call 23; refine (refLeaves_any htr).mono ?_; rintro e w' ⟨rfl, hw⟩; obtain rfl := hw.symm)
      all_goals go_ret
      all_goals exact ⟨_, rfl, HM.out, hB⟩

end Go.Proofs.YtdnopkpoepdihaaDoor
