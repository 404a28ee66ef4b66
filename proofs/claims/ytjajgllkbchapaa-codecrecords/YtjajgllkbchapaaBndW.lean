/-
  CodecBounds: whatever the numbers.
-/
import Derived.Test.YtjajgllkbchapaaBnd
namespace Go.Proofs.Ytjajgllkbchapaa
open Go.RowKit
set_option linter.unusedSimpArgs false
set_option linter.unusedVariables false

theorem ex3000 : boundF 3000 = 3000 := by unfold boundF; omega

theorem puts_flags : ∀ l : List Bool, (puts putB l).2 = true
  | [] => rfl
  | a :: r => by
    simp only [puts]
    have : (putB a).2 = true := rfl
    rw [this]
    simp [puts_flags r]

set_option maxRecDepth 100000 in
theorem bounds_walk (most : Int) (hm : (Lit.int .i64 most).wf = true) (n : Int) (hn : (Lit.int .i64 n).wf = true) {w : World} : Calls Try.prog 9 #[.int .i64 most, .int .i64 n] w fun e w' => e = .returned (.bool true) ∧ Below w.heap.size w w' := by
  by_cases h : n < 0 ∨ 3000 < n
  · exact bounds_out most n h
  · obtain ⟨k, rfl⟩ : ∃ k : Nat, n = k := ⟨n.toNat, by omega⟩
    have hM := bound_nonneg most
    have hMe : boundF most = min (max most 0) 1048576 := rfl
    have hzs := zeros_size k
    have hel := enc_le k
    have pX : putT 3000 (zeros k) = (enc k ++ List.replicate k 0, true) := by unfold putT; rw [hzs, if_pos (by omega)]; rfl
    have pY : putList 3000 putB (List.replicate k false) = (enc k ++ (puts putB (List.replicate k false)).1, true) := by
      unfold putList
      rw [List.length_replicate, if_pos (by omega), puts_flags]
    have hlY := puts_len (f := putB) (c := 8) (fun a => by unfold putB; exact enc_le _) (List.replicate k false)
    rw [List.length_replicate] at hlY
    obtain ⟨SX, hSX⟩ : ∃ S, S = ByteArray.mk (enc k ++ List.replicate k 0).toArray := ⟨_, rfl⟩
    obtain ⟨SY, hSY⟩ : ∃ S, S = ByteArray.mk (enc k ++ (puts putB (List.replicate k false)).1).toArray := ⟨_, rfl⟩
    have sX : (SX.size : Int) ≤ 1099511627776 := by rw [hSX]; simp [ByteArray.size]; omega
    have sY : (SY.size : Int) ≤ 1099511627776 := by rw [hSY]; simp [ByteArray.size]; omega
    have dX : SX.data.toList = enc k ++ List.replicate k 0 := by rw [hSX]
    have dY : SY.data.toList = enc k ++ (puts putB (List.replicate k false)).1 := by rw [hSY]
    by_cases hb : max 0 most < (k : Int)
    · have hMk : ¬ (k : Int) ≤ boundF most := by omega
      refine bounds_big most (boundF most) k (by omega) rfl ex3000 hb SX SY sX sY ?_ ?_ (by show encRes _ = _; rw [pX, hSX]; rfl) (by show encRes _ = _; rw [pY, hSY]; rfl) ?_ ?_
      · show encRes _ = _
        unfold putT
        rw [hzs, if_neg hMk]
        rfl
      · show encRes _ = _
        unfold putList
        rw [List.length_replicate, if_neg hMk]
        rfl
      · show whole (getText (boundF most) SX.data.toList) = _
        rw [dX]
        unfold getText getC
        rw [getN_enc k (by omega)]
        simp only
        rw [if_neg hMk]
        rfl
      · show whole (getList (boundF most) getFlag SY.data.toList) = _
        rw [dY]
        unfold getList getC
        rw [getN_enc k (by omega)]
        simp only
        rw [if_neg hMk]
        rfl
    · have hMk : (k : Int) ≤ boundF most := by omega
      have qX : putT (boundF most) (zeros k) = (enc k ++ List.replicate k 0, true) := by unfold putT; rw [hzs, if_pos hMk]; rfl
      have qY : putList (boundF most) putB (List.replicate k false) = (enc k ++ (puts putB (List.replicate k false)).1, true) := by
        unfold putList
        rw [List.length_replicate, if_pos hMk, puts_flags]
      refine bounds_ok most (boundF most) k (by omega) rfl ex3000 hb SX SY sX sY (by show encRes _ = _; rw [qX, hSX]; rfl) (by show encRes _ = _; rw [qY, hSY]; rfl) (by show encRes _ = _; rw [pX, hSX]; rfl) (by show encRes _ = _; rw [pY, hSY]; rfl) ?_ ?_
      · show whole (getText (boundF most) SX.data.toList) = _
        rw [dX]
        have := (goodT (boundF most) hM.2).whole (zeros k) (by rw [id, qX])
        rw [id, qX] at this
        exact this
      · show whole (getList (boundF most) getFlag SY.data.toList) = _
        rw [dY]
        have := (goodL goodB (boundF most) hM.2).whole (List.replicate k false) (by rw [List.map_id, qY])
        rw [List.map_id, qY] at this
        exact this

end Go.Proofs.Ytjajgllkbchapaa
