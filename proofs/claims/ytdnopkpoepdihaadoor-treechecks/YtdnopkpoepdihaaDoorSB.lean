/-
  keys: as many items as are needed and more.
-/
import Derived.Test.YtdnopkpoepdihaaDoorSA
namespace Go.Proofs.YtdnopkpoepdihaaDoor
open Go.RowKit
set_option linter.unusedSimpArgs false
set_option linter.unusedVariables false

def opCells (o : POp) (h : Value) : Array Value := #[.int .i64 o.kind, .int .i64 o.i, .bool o.leaf.full, .int .i64 o.leaf.key, .int .i64 o.leaf.client, .int .i64 o.leaf.sig, .int .i64 o.leaf.hash, h, .int .i64 o.more]

theorem extra_le (o : POp) : -40 ≤ extra o ∧ extra o ≤ 40 := by
  unfold extra
  split
  · rename_i h; simpa using h
  · omega

set_option maxHeartbeats 4000000 in
set_option maxRecDepth 100000 in
theorem keys_any {t : Tree} (hf : Fit t) {v : Value} {w : World} (ht : TreeAt w v t) (o : POp) (h : Value) :
    Calls Tryd.prog 36 #[v, o.val h] w fun e w' => ∃ v', e = .returned v' ∧ OwnI w.heap.size w' v' (keysF t o) ∧ Below w.heap.size w w' := by
  obtain ⟨i0, hi, hz0, hz1, hz2⟩ := info_parts Tryd.infoI
  have hx := extra_le o
  have hfl := filt_len t o.i
  have HE : Hid (extra o = if decide (-40 ≤ o.more) && decide (o.more ≤ 40) then o.more else 0) := rfl
  obtain ⟨E, hE⟩ : ∃ E, extra o = E := ⟨_, rfl⟩
  have HF : Hid (keysF t o = List.replicate (((filt t o.i).length : Int) + E).toNat o.leaf.key) := by rw [← hE]; rfl
  rw [hE] at hx HE
  clear hE
  obtain ⟨w0, hw0⟩ : ∃ w0, w.alloc (.cells (opCells o h) 31) = w0 := ⟨_, rfl⟩
  have b0 : Below w.heap.size w w0 := by rw [← hw0]; exact (Below.refl _ _).alloc (Nat.le_refl _) _
  have ht0 := ht.below b0
  have hsz0 : w.heap.size < w0.heap.size := by rw [← hw0]; simp
  have c1 : w0.cell? ⟨w.heap.size, 1, none⟩ = some (.int .i64 o.i) := by rw [← hw0]; simp [opCells]
  have c3 : w0.cell? ⟨w.heap.size, 3, none⟩ = some (.int .i64 o.leaf.key) := by rw [← hw0]; simp [opCells]
  have c8 : w0.cell? ⟨w.heap.size, 8, none⟩ = some (.int .i64 o.more) := by rw [← hw0]; simp [opCells]
  unfold POp.val
  unfold opCells at hw0
  go_enter Tryd.func36, Tryd.ntmps36
  go_wp2_with (rw [hw0])
  clear hw0
  go_wp2_with fail
  refine (refFiltered_any hf o.i ht0).mono ?_
  rintro e w1 ⟨v1, v2, rfl, m1, m2, b1⟩
  have hPl : ((filt t o.i).map (·.1)).length = (filt t o.i).length := by simp
  obtain ⟨pa, pcap, hv1, _⟩ := ownsRow_ints m1 (by rw [hPl]; omega)
  rw [hPl] at hv1
  subst hv1
  obtain ⟨L, hL⟩ : ∃ L, (filt t o.i).length = L := ⟨_, rfl⟩
  rw [hL] at HF hfl ⊢
  clear hL hPl m1 m2
  have d3 := (b1.cell (p := ⟨w.heap.size, 3, none⟩) hsz0).trans c3
  have d8 := (b1.cell (p := ⟨w.heap.size, 8, none⟩) hsz0).trans c8
  have b01 := on b0 b1
  have hL7 : (L : Int) ≤ 7 := by omega
  clear c1 c3 c8 ht ht0 hfl
  obtain ⟨M, hM⟩ : ∃ M, (decide (-40 ≤ o.more) && decide (o.more ≤ 40)) = M := ⟨_, rfl⟩
  have HM : Hid ((decide (-40 ≤ o.more) && decide (o.more ≤ 40)) = M) := hM
  clear hM
  go_upto_region 3 with fail
  go_cut [26] (fun a wx => a = .bool M ∧ wx = w1)
  case first =>
    by_cases h1 : -40 ≤ o.more
    · go_wp2_with fail
      go_meet
      exact ⟨by rw [← HM.out]; simp [h1], rfl⟩
    · go_wp2_with fail
      go_meet
      exact ⟨by rw [← HM.out]; simp; omega, rfl⟩
  case rest =>
  obtain ⟨rfl, hwc⟩ := hcut
  obtain rfl := hwc.symm
  go_upto_if 26 with fail
  go_cut [7] (fun a wx => a = .int .i64 ((L : Int) + E) ∧ wx = w1)
  case first =>
    have hE := HE.out
    have hM := HM.out
    rw [hM] at hE
    cases M with
    | true =>
      simp only [Bool.and_eq_true, decide_eq_true_eq] at hM
      simp only [if_true] at hE
      subst hE
      go_wp2_with fail
      go_meet
      exact ⟨by go_num, rfl⟩
    | false =>
      simp only [if_false, Bool.false_eq_true] at hE
      subst hE
      clear hM
      go_wp2_with fail
      go_meet
      exact ⟨by go_num, rfl⟩
  case rest =>
  obtain ⟨rfl, hwc⟩ := hcut
  obtain rfl := hwc.symm
  clear HE HM
  obtain ⟨N, hN⟩ : ∃ N : Int, (L : Int) + E = N := ⟨_, rfl⟩
  have hN1 : N ≤ 47 := by omega
  have hN0 : -40 ≤ N := by omega
  rw [hN] at HF ⊢
  clear hN hx hL7
  go_wp2_with fail
  go_loopw [8, 9] (fun c k wr => ∃ j : Nat, j ≤ N.toNat ∧ k = .int .i64 j ∧ OwnI w1.heap.size wr c (List.replicate j o.leaf.key) ∧ Below w1.heap.size w1 wr) (fun _ k _ => N.toNat - (intOf k).toNat)
  case atStart => exact ⟨0, Nat.zero_le _, rfl, World.ownsRow_nil _ _ _ _, Below.refl _ _⟩
  case round =>
    obtain ⟨j, hj, rfl, hown, hB⟩ := hrel
    have hsz := hB.size
    have hs1 := b1.size
    have d3r := (hB.cell (p := ⟨w.heap.size, 3, none⟩) (by show w.heap.size < _; omega)).trans d3
    by_cases hlt : j < N.toNat
    · have i1 : (j : Int) < N := by omega
      have Hs : Hid (List.replicate (j + 1) o.leaf.key = List.replicate j o.leaf.key ++ [o.leaf.key]) := by
        show _ = _
        rw [List.replicate_succ']
      obtain ⟨R, hR⟩ : ∃ R, List.replicate j o.leaf.key = R := ⟨_, rfl⟩
      have hRl : R.length = j := by rw [← hR]; simp
      rw [hR] at hown Hs
      have Hm1 : Hid (R.length + 1 ≤ maxLen) := by show _ ≤ maxLen; unfold maxLen; omega
      have Hm2 : Hid ((R.length + 1) * 8 ≤ 140737488355328) := by show _ ≤ _; omega
      have hp0 : w1.heap.size ≤ (wr.alloc (.cells #[.int .i64 o.leaf.key] 3)).heap.size := by simp; omega
      clear hR hRl
      go_wp2_with (refine wpList_append_own_at _ rfl (.tmp 36) (.tmp 40) 22 rfl w1.heap.size 3 i0 (.int .i64 0) 1 8 Tryd.underlying22 hi hz0 hz1 hz2 rfl Nat.one_pos _ R.length _ rfl (hown.alloc _) ⟨wr.heap.size, 0, none⟩ 1 1 [.int .i64 o.leaf.key] rfl rfl (cell_one_new _ _ _) (one_int _) Hm1.out Hm2.out hp0 ?_; intro v7 w7 ho7 hg7 hnil7 hl7)
      have b7 := (hB.alloc hsz (.cells #[.int .i64 o.leaf.key] 3)).grown hg7 hp0 (fun k hk => (hown.lt k hk).1)
      go_roundw
      case rel => exact ⟨j + 1, by omega, by go_num, by rw [Hs.out]; simpa [OwnI] using ho7, b7⟩
      case measure => simp [intOf]; omega
    · have e : j = N.toNat := by omega
      have HM : Hid (OwnI w.heap.size wr u8 (keysF t o)) := by rw [HF.out, ← e]; exact World.ownsRow.mono hown (by omega)
      have i2 : ¬ ((j : Int) < N) := by omega
      clear hown e
      go_wp2_with fail
      go_ret
      exact ⟨_, rfl, HM.out, on b01 hB⟩

end Go.Proofs.YtdnopkpoepdihaaDoor
