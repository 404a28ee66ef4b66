/-
  Filtered paths, by the document.
-/
import Derived.Test.YtmcjincgppddeaaDoorRG
namespace Go.Proofs.YtmcjincgppddeaaDoor
open Go.RowKit 
set_option linter.unusedSimpArgs false
set_option linter.unusedVariables false

set_option maxHeartbeats 4000000 in
set_option maxRecDepth 100000 in
theorem refFiltered_in {t : Tree} (hf : Fit t) {v : Value} (i : Int) {w : World} (ht : TreeAt w v t) (h0 : 0 ≤ i) (h1 : i < lv t) :
    Calls Tryd.prog 24 #[v, .int .i64 i] w fun e w' => ∃ v1 v2, e = .returned (.tuple #[v1, v2]) ∧ OwnI w.heap.size w' v1 ((filt t i).map (·.1)) ∧ OwnI w.heap.size w' v2 ((filt t i).map (·.2)) ∧ Below w.heap.size w w' := by
  have hs := hf.sh
  have hbd := hs.bounds
  obtain ⟨i0, hi, hz0, hz1, hz2⟩ := info_parts Tryd.infoI
  have hlf : leafB i (lv t) = true := by simp [leafB, hs.1]; omega
  have hin := leafB_in hlf
  have hbi := inB_lt hin
  have hik : (decide (0 ≤ i) && decide (i < lv t)) = true := by simp; omega
  have hlen := path_copath hin
  have hl7 := path_len (2 * i) (lv t)
  have Hend : ∀ j, (copathI (2 * i) (lv t)).length ≤ j → Hid (fp t i (lv t) j = filt t i) := fun j hj => fp_end h0 h1 hj
  go_enter Tryd.func24, Tryd.ntmps24
  have il : (lv t : Int) ≤ 32 := by omega
  go_wp2_with (go_at_call 29; refine (refLeaves_any ht).mono ?_; rintro e w' ⟨rfl, hw⟩; obtain rfl := hw.symm)
  refine (refPath_any (2 * i) (lv t) hin).mono ?_
  rintro e w1 ⟨v1, rfl, m1, b1⟩
  go_wp2_with fail
  refine (refCopath_any (2 * i) (lv t) hin).mono ?_
  rintro e w2 ⟨v2, rfl, m2, b2⟩
  have j1 := (m1.ints (by omega)).below b2
  have j2 := m2.ints (by omega)
  have b12 := on b1 b2
  have ht2 := ht.below b12
  obtain ⟨P, hP⟩ : ∃ P, pathI (2 * i) (lv t) = P := ⟨_, rfl⟩
  obtain ⟨C, hC⟩ : ∃ C, copathI (2 * i) (lv t) = C := ⟨_, rfl⟩
  have Hst : ∀ (j : Nat) (p c : Int), P[j]? = some p → C[j]? = some c → fp t i (lv t) (j + 1) = if (resI t c).isEmpty then fp t i (lv t) j else fp t i (lv t) j ++ [(p, c)] := fun j p c hp hc => fp_step (hP ▸ hp) (hC ▸ hc)
  rw [hC] at Hend
  rw [hP, hC] at hlen
  rw [hP] at hl7 j1
  rw [hC] at j2
  clear hP hC m1 m2
  obtain ⟨a1, cap1, rfl, _, hc1⟩ := j1
  obtain ⟨a2, cap2, rfl, _, hc2⟩ := j2
  go_wp2_with fail
  go_loopw [6, 7, 11] (fun x y k wr => ∃ j : Nat, j ≤ C.length ∧ k = .int .i64 j ∧ OwnI w2.heap.size wr x ((fp t i (lv t) j).map (·.1)) ∧ OwnI w2.heap.size wr y ((fp t i (lv t) j).map (·.2)) ∧ (∀ k, x.ownBlock = some k → y.ownBlock ≠ some k) ∧ Below w2.heap.size w2 wr) (fun _ _ k _ => C.length - (intOf k).toNat)
  case atStart => exact ⟨0, Nat.zero_le _, rfl, by rw [fp_zero]; exact World.ownsRow_nil _ _ _ _, by rw [fp_zero]; exact World.ownsRow_nil _ _ _ _, fun k hk => by simp [Value.ownBlock] at hk, Below.refl _ _⟩
  case round =>
    obtain ⟨j, hj, rfl, o4, o5, hap, hB⟩ := hrel
    have hsz := hB.size
    by_cases hlt : j < C.length
    · obtain ⟨p, hp⟩ : ∃ p, P[j]? = some p := ⟨P[j]'(by omega), by simp⟩
      obtain ⟨c, hc⟩ : ∃ c, C[j]? = some c := ⟨C[j]'(by omega), by simp⟩
      obtain ⟨bp, op, rfl, hbp, cp⟩ := hc1 (by rintro rfl; simp at hp)
      obtain ⟨bc, oc, rfl, hbc, cc⟩ := hc2 (by rintro rfl; simp at hc)
      have d1 := (hB.cell (p := ⟨bp, op + j, none⟩) hbp).trans (cp j p hp)
      have d2 := (hB.cell (p := ⟨bc, oc + j, none⟩) hbc).trans (cc j c hc)
      have Hs := Hst j p c hp hc
      have hfl := fp_len t i (lv t) j
      have i1 : (j : Int) < (C.length : Int) := by omega
      have i2 : (j : Int) < (P.length : Int) := by omega
      have htr := ht2.below hB
      clear cp cc hc1 hc2 Hst hp hc Hend
      go_wp2_with fail
      refine (refRes_any hf c htr).mono ?_
      rintro e w3 ⟨v3, rfl, m3, b3⟩
      have hrl := resI_len hf c
      have o4' := row_below o4 b3
      have o5' := row_below o5 b3
      have j3 := ownsRow_ints m3 (by omega)
      obtain ⟨q3, p3, hv3, _⟩ := j3
      subst hv3
      have hB3 := hB.trans (b3.mono hsz)
      have hsz3 := hB3.size
      cases hre : (resI t c).isEmpty with
      | true =>
        have hr0 : resI t c = [] := by simpa using hre
        rw [hre] at Hs
        simp only [if_true] at Hs
        have H4 : Hid (OwnI w2.heap.size w3 u6 ((fp t i (lv t) (j + 1)).map (·.1))) := by rw [Hs]; exact o4'
        have H5 : Hid (OwnI w2.heap.size w3 u7 ((fp t i (lv t) (j + 1)).map (·.2))) := by rw [Hs]; exact o5'
        clear Hs o4 o5 o4' o5' m3
        rw [hr0]
        go_wp2_with fail
        go_roundw
        case rel => exact ⟨j + 1, by omega, by go_num, H4.out, H5.out, hap, hB3⟩
        case measure => simp [intOf]; omega
      | false =>
        have hr0 : 0 < (resI t c).length := by
          cases hq : resI t c with
          | nil => simp [hq] at hre
          | cons a l => simp
        have hr1 : (0 : Int) < ((resI t c).length : Int) := by omega
        rw [hre] at Hs
        have Hs' : Hid (fp t i (lv t) (j + 1) = fp t i (lv t) j ++ [(p, c)]) := by simpa [Hid] using Hs
        clear Hs o4 o5 m3
        obtain ⟨F, hF⟩ : ∃ F, fp t i (lv t) j = F := ⟨_, rfl⟩
        rw [hF] at Hs' o4' o5' hfl
        clear hF
        have e1 : (F.map (·.1)).length = F.length := by simp
        have e2 : (F.map (·.2)).length = F.length := by simp
        have Hm1 : Hid ((F.map (·.1)).length + 1 ≤ maxLen) := by show _ ≤ maxLen; unfold maxLen; omega
        have Hm2 : Hid (((F.map (·.1)).length + 1) * 8 ≤ 140737488355328) := by show _ ≤ _; omega
        have Hn1 : Hid ((F.map (·.2)).length + 1 ≤ maxLen) := by show _ ≤ maxLen; unfold maxLen; omega
        have Hn2 : Hid (((F.map (·.2)).length + 1) * 8 ≤ 140737488355328) := by show _ ≤ _; omega
        have hp0 : w2.heap.size ≤ (w3.alloc (.cells #[.int .i64 p] 3)).heap.size := by simp; omega
        have dd1 := (b3.cell (p := ⟨bp, op + j, none⟩) (by show bp < _; omega)).trans d1
        have lt5 := fun k hk => (o5'.lt k hk)
        have dd2 := (b3.cell (p := ⟨bc, oc + j, none⟩) (by show bc < _; omega)).trans d2
        clear d1 d2 e1 e2
        go_wp2_with first
          | (refine wpList_append_own_at _ rfl (.tmp 46) (.tmp 51) 30 rfl w2.heap.size 3 i0 (.int .i64 0) 1 8 Tryd.underlying30 hi hz0 hz1 hz2 rfl Nat.one_pos _ _ _ rfl (o4'.alloc _) ⟨w3.heap.size, 0, none⟩ 1 1 [.int .i64 p] rfl rfl (cell_one_new _ _ _) (one_int p) Hm1.out Hm2.out hp0 ?_; intro v7 w7 ho7 hg7 hnil7 hl7; have g7 : (w3.alloc (.cells #[.int .i64 p] 3)).grownBy w7 u6.ownBlock := hg7; have o5'' := (o5'.alloc (.cells #[.int .i64 p] 3)).kept g7 (apart_ne hap); have ee2 : w7.cell? ⟨bc, oc + j, none⟩ = some (.int .i64 c) := (g7.cell_far ⟨bc, oc + j, none⟩ (by show bc < _; simp; omega) (fun e => by have := (o4'.lt bc e.symm).1; omega)).trans (((Below.refl w3.heap.size w3).alloc (Nat.le_refl _) (.cells #[.int .i64 p] 3)).cell (p := ⟨bc, oc + j, none⟩) (by show bc < _; omega) |>.trans dd2); have hp1 : w2.heap.size ≤ (w7.alloc (.cells #[.int .i64 c] 3)).heap.size := Nat.le_trans hp0 (Nat.le_trans g7.size (by simp)); have l7 : v7.ownBlock = u6.ownBlock ∨ v7.ownBlock = some (w3.alloc (.cells #[.int .i64 p] 3)).heap.size := hl7)
          | (refine wpList_append_own_at _ rfl (.tmp 53) (.tmp 58) 30 rfl w2.heap.size 3 i0 (.int .i64 0) 1 8 Tryd.underlying30 hi hz0 hz1 hz2 rfl Nat.one_pos _ _ _ rfl (o5''.alloc _) ⟨w7.heap.size, 0, none⟩ 1 1 [.int .i64 c] rfl rfl (cell_one_new _ _ _) (one_int c) Hn1.out Hn2.out hp1 ?_; intro v8 w8 ho8 hg8 hnil8 hl8; have g8 : (w7.alloc (.cells #[.int .i64 c] 3)).grownBy w8 u7.ownBlock := hg8; have l8 : v8.ownBlock = u7.ownBlock ∨ v8.ownBlock = some (w7.alloc (.cells #[.int .i64 c] 3)).heap.size := hl8)
        have ap1 : ∀ k, v7.ownBlock = some k → u7.ownBlock ≠ some k := apart_new hap l7 (fun k hk => by have := (lt5 k hk).2; simp; omega)
        have ho8' := (ho7.alloc (.cells #[.int .i64 c] 3)).kept g8 (apart_ne (apart_symm ap1))
        have ap2 : ∀ k, v8.ownBlock = some k → v7.ownBlock ≠ some k := apart_new (apart_symm ap1) l8 (fun k hk => by have := (ho7.lt k hk).2; simp; omega)
        have B7 := (hB3.alloc hsz3 (.cells #[.int .i64 p] 3)).grown g7 hp0 (fun k hk => (o4'.lt k hk).1)
        have B8 := (B7.alloc B7.size (.cells #[.int .i64 c] 3)).grown g8 hp1 (fun k hk => (lt5 k hk).1)
        go_roundw
        case rel => exact ⟨j + 1, by omega, by go_num, by rw [Hs'.out]; simpa [OwnI] using ho8', by rw [Hs'.out]; simpa [OwnI] using ho8, apart_symm ap2, B8⟩
        case measure => simp [intOf]; omega
    · have e : Hid (fp t i (lv t) j = filt t i) := Hend j (by omega)
      rw [e.out] at o4 o5
      have hje : (j : Int) = (C.length : Int) := by omega
      clear Hend Hst hc1 hc2
      go_wp2_with fail
      go_ret2
      exact ⟨_, _, rfl, o4.mono b12.size, o5.mono b12.size, b12.trans (hB.mono b12.size)⟩

set_option maxHeartbeats 1000000 in
theorem refFiltered_out {t : Tree} (hs : Sh t) {v : Value} (i : Int) {w : World} (ht : TreeAt w v t) (hx : (decide (0 ≤ i) && decide (i < lv t)) = false) :
    Calls Tryd.prog 24 #[v, .int .i64 i] w fun e w' => e = .returned (.tuple #[.slice none 0 0, .slice none 0 0]) ∧ w' = w := by
  go_enter Tryd.func24, Tryd.ntmps24
  by_cases h0 : i < 0
  · go_wp2_with fail
    go_ret2
    exact ⟨rfl, rfl⟩
  · have h1 : (lv t : Int) ≤ i := by simp at hx; omega
    go_wp2_with (go_at_call 29; refine (refLeaves_any ht).mono ?_; rintro e w' ⟨rfl, hw⟩; obtain rfl := hw.symm)
    go_ret2
    exact ⟨rfl, rfl⟩

theorem refFiltered_any {t : Tree} (hf : Fit t) {v : Value} (i : Int) {w : World} (ht : TreeAt w v t) :
    Calls Tryd.prog 24 #[v, .int .i64 i] w fun e w' => ∃ v1 v2, e = .returned (.tuple #[v1, v2]) ∧ OwnI w.heap.size w' v1 ((filt t i).map (·.1)) ∧ OwnI w.heap.size w' v2 ((filt t i).map (·.2)) ∧ Below w.heap.size w w' := by
  cases hx : (decide (0 ≤ i) && decide (i < lv t)) with
  | true =>
    have hx2 := hx
    simp only [Bool.and_eq_true, decide_eq_true_eq] at hx2
    exact refFiltered_in hf i ht hx2.1 hx2.2
  | false =>
    refine (refFiltered_out hf.sh i ht hx).mono ?_
    rintro e w' ⟨rfl, rfl⟩
    have : filt t i = [] := by simp only [filt, hx]; rfl
    rw [this]
    exact ⟨_, _, rfl, World.ownsRow_nil _ _ _ _, World.ownsRow_nil _ _ _ _, Below.refl _ _⟩

end Go.Proofs.YtmcjincgppddeaaDoor
