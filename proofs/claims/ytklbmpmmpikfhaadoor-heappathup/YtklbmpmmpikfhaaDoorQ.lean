/-
  The law HeapPathUp: a path climbs one level a step, ends at the root, and is the list of all places above.
-/
import Derived.Test.YtklbmpmmpikfhaaDoorM
namespace Go.Proofs.YtklbmpmmpikfhaaDoor
open Go.RowKit
set_option linter.unusedSimpArgs false
set_option linter.unusedVariables false

/-- How many of the first places are above, and others. -/
def cntI (x n : Int) : Nat → Nat
  | 0 => 0
  | k + 1 => if ((k : Int) != x) && underB x k n then cntI x n k + 1 else cntI x n k

theorem cnt_le (x n : Int) : ∀ k, cntI x n k ≤ k
  | 0 => Nat.le_refl _
  | k + 1 => by
    have := cnt_le x n k
    unfold cntI
    split <;> omega

theorem cnt_end {x n : Int} (h : inB x n = true) : cntI x n (2 * n - 1).toNat = (pathI x n).length :=
  eq_of_beq (forall_in (fun x n => cntI x n (2 * n - 1).toNat == (pathI x n).length) (by decide +kernel) x n h)

theorem climb {x n : Int} (h : inB x n = true) {i : Nat} {y : Int} (hy : (pathI x n)[i]? = some y) : lev y = lev x + i + 1 ∧ underB x y n = true ∧ 0 ≤ y ∧ y < 63 := by
  have := forall_in (fun x n => (List.range 7).all fun i => match (pathI x n)[i]? with | some y => decide (lev y = lev x + i + 1 ∧ underB x y n = true ∧ 0 ≤ y ∧ y < 63) | none => true) (by decide +kernel) x n h
  have hl : i < 7 := by
    have h1 := (List.getElem?_eq_some_iff.1 hy).1
    have h2 : (pathI x n).length ≤ (up x n).length := List.length_filter_le _ _
    have h3 := up_len 6 x n
    unfold up at h2
    omega
  have h4 := List.all_eq_true.1 this i (List.mem_range.2 hl)
  rw [hy] at h4
  simpa using h4

theorem path_last {x n : Int} (h : inB x n = true) : (pathI x n = [] → (x == n - 1) = true) ∧ (pathI x n ≠ [] → (pathI x n)[(pathI x n).length - 1]? = some (n - 1)) := by
  have := forall_in (fun x n => decide ((pathI x n = [] → (x == n - 1) = true) ∧ (pathI x n ≠ [] → (pathI x n)[(pathI x n).length - 1]? = some (n - 1)))) (by decide +kernel) x n h
  rwa [decide_eq_true_eq] at this

set_option maxRecDepth 100000 in
set_option maxHeartbeats 2000000 in
theorem pathUp_no (x n : Int) (hin : inB x n = false) {w : World} (hT : Tab w) :
    Calls Tryd.prog 7 #[.int .i64 x, .int .i64 n] w fun e w' => e = .returned (.bool true) ∧ Below w.heap.size w w' := by
  go_enter Tryd.func7, Tryd.ntmps7
  go_wp2_with fail
  refine (anchor_any hT).mono ?_
  rintro e w1 ⟨rfl, b1⟩
  go_wp2_with fail
  refine (path_no x n hin).mono ?_
  rintro e w2 ⟨rfl, b2⟩
  go_wp2_with (go_at_call 18; refine (refIn_any x n _).mono ?_; rintro e w' ⟨rfl, rfl⟩; rw [hin])
  go_ret
  exact ⟨rfl, on b1 b2⟩

set_option maxRecDepth 100000 in
set_option maxHeartbeats 2000000 in
theorem pathUp_yes (x n : Int) (hin : inB x n = true) {w : World} (hT : Tab w) :
    Calls Tryd.prog 7 #[.int .i64 x, .int .i64 n] w fun e w' => e = .returned (.bool true) ∧ Below w.heap.size w w' := by
  have hts := hT.size
  have hr := inB_right hin
  have hn := rightB_bounds hr
  have hxl := inB_lt hin
  have hlx := lev_small hxl.1 hxl.2
  have Hend : Hid (cntI x n (2 * n - 1).toNat = (pathI x n).length) := cnt_end hin
  have Hclimb : ∀ (i : Nat) y, (pathI x n)[i]? = some y → Hid (lev y = lev x + i + 1 ∧ underB x y n = true ∧ 0 ≤ y ∧ y < 63) := fun i y h => climb hin h
  have Hlast : Hid ((pathI x n = [] → (x == n - 1) = true) ∧ (pathI x n ≠ [] → (pathI x n)[(pathI x n).length - 1]? = some (n - 1))) := path_last hin
  have Hpl := path_len x n
  have Hps : Hid ((pathI x n).length ≤ 7) := by
    have h2 : (pathI x n).length ≤ (up x n).length := List.length_filter_le _ _
    have h3 := up_len 6 x n
    unfold up at h2
    show _ ≤ _
    omega
  go_enter Tryd.func7, Tryd.ntmps7
  go_wp2_with fail
  refine (anchor_any hT).mono ?_
  rintro e w1 ⟨rfl, b1⟩
  have hT1 := hT.below b1 hts
  go_wp2_with fail
  refine (Path_yes x n hin hT1).mono ?_
  rintro e w2 ⟨v2, rfl, m2, b2⟩
  have i2 := m2.ints Hpl
  have b12 := on b1 b2
  clear b1 b2 m2 hT1
  obtain ⟨P, hP⟩ : ∃ P, pathI x n = P := ⟨_, rfl⟩
  rw [hP] at Hend Hclimb Hlast Hpl Hps i2
  clear hP
  go_wp2_with (go_at_call 18; refine (refIn_any x n _).mono ?_; rintro e w' ⟨rfl, rfl⟩; rw [hin])
  go_loopw [7, 8] (fun c y wr => ∃ k : Nat, (k : Int) ≤ 2 * n - 1 ∧ y = .int .i64 k ∧ c = .int .i64 (cntI x n k) ∧ Below w.heap.size w wr ∧ IntsAt wr v2 P) (fun _ y _ => (2 * n - 1).toNat - (intOf y).toNat)
  case atStart => exact ⟨0, by omega, rfl, rfl, b12, i2⟩
  case round =>
    obtain ⟨k, hk, rfl, rfl, hB, hI⟩ := hrel
    have hTr := hT.below hB hts
    have hcl := cnt_le x n k
    by_cases hlt : (k : Int) < 2 * n - 1
    · cases hkx : ((k : Int) != x) with
      | false =>
        have Hc : Hid (cntI x n (k + 1) = cntI x n k) := by simp [Hid, cntI, hkx]
        go_wp2_with fail
        go_roundw
        case rel => exact ⟨k + 1, by omega, by go_num, by rw [Hc.out], hB, hI⟩
        case measure => simp [intOf]; omega
      | true =>
        go_wp2_with fail
        refine (Under_any x k n hTr).mono ?_
        rintro e w4 ⟨rfl, b4⟩
        have hB4 := hB.trans (b4.mono hB.size)
        have hI4 := hI.below b4
        cases u1 : underB x k n with
        | false =>
          have Hc : Hid (cntI x n (k + 1) = cntI x n k) := by simp [Hid, cntI, hkx, u1]
          go_wp2_with fail
          go_roundw
          case rel => exact ⟨k + 1, by omega, by go_num, by rw [Hc.out], hB4, hI4⟩
          case measure => simp [intOf]; omega
        | true =>
          have Hc : Hid (cntI x n (k + 1) = cntI x n k + 1) := by simp [Hid, cntI, hkx, u1]
          go_wp2_with fail
          go_roundw
          case rel => exact ⟨k + 1, by omega, by go_num, by rw [Hc.out]; go_num, hB4, hI4⟩
          case measure => simp [intOf]; omega
    · have hkk : (2 * n - 1).toNat = k := by omega
      have Hend' : Hid (cntI x n k = P.length) := by have := Hend.out; rwa [hkk] at this
      clear hkk
      simp only [Hend'.out]
      obtain ⟨a, cap, rfl, hl, hc⟩ := hI
      clear hcl
      have hlen7 : (P.length : Int) ≤ 7 := by have := Hps.out; omega
      go_wp2_with fail
      go_loopw [58] (fun i wr2 => ∃ m : Nat, m ≤ P.length ∧ i = .int .i64 m ∧ Below w.heap.size w wr2 ∧ (P ≠ [] → ∃ b off, a = some ⟨b, off, none⟩ ∧ b < wr2.heap.size ∧ ∀ i x, P[i]? = some x → wr2.cell? ⟨b, off + i, none⟩ = some (.int .i64 x))) (fun i _ => P.length - (intOf i).toNat)
      case atStart => exact ⟨0, Nat.zero_le _, rfl, hB, hc⟩
      case round =>
        obtain ⟨m, hm, rfl, hB2, hc2⟩ := hrel
        have hT2 := hT.below hB2 hts
        by_cases hml : m < P.length
        · obtain ⟨y, hy⟩ : ∃ y, P[m]? = some y := ⟨P[m], by simp [hml]⟩
          obtain ⟨g1, g2, g3, g4⟩ := (Hclimb m y hy).out
          obtain ⟨b, off, rfl, hb, hcell⟩ := hc2 (by rintro rfl; simp at hy)
          have hcm := hcell m y hy
          have hmi : (m : Int) < P.length := by omega
          have HC : Hid (∀ i x, P[i]? = some x → wr.cell? ⟨b, off + i, none⟩ = some (.int .i64 x)) := hcell
          clear hcell hc2 hy
          have hlm : (m : Int) ≤ 7 := by omega
          go_wp2_with (go_at_call 12; refine (level_any _ (by omega) hT2).mono ?_; rintro e w' ⟨rfl, hw⟩; obtain rfl := hw.symm; try rw [g1])
          refine (Under_any x y n hT2).mono ?_
          rintro e w5 ⟨rfl, b5⟩
          rw [g2]
          have hB5 := hB2.trans (b5.mono hB2.size)
          go_wp2_with fail
          go_roundw
          case rel =>
            refine ⟨m + 1, by omega, by go_num, hB5, fun _ => ⟨b, off, rfl, Nat.lt_of_lt_of_le hb b5.size, fun i z hz => ?_⟩⟩
            rw [b5.cell (p := ⟨b, _, none⟩) hb]
            exact HC.out i z hz
          case measure => simp [intOf]; omega
        · by_cases hP : P = []
          · subst hP
            have hx1 := Hlast.out.1 rfl
            go_wp2_with fail
            go_ret
            exact ⟨rfl, hB2⟩
          · have hlast := Hlast.out.2 hP
            obtain ⟨b, off, rfl, hb, hcell⟩ := hc2 hP
            have hcm := hcell _ _ hlast
            have hpos : 0 < (P.length : Int) := by have := List.length_pos_iff.2 hP; omega
            clear hcell hc2 hlast hP hc
            go_wp2_with fail
            all_goals go_ret
            all_goals first | exact ⟨rfl, hB2⟩ | (exfalso; omega) | (exfalso; simp_all; omega)

theorem pathUp_walk (x : Int) (wx : (Lit.int .i64 x).wf = true) (n : Int) (wn : (Lit.int .i64 n).wf = true) {w : World} (hT : Tab w) :
    Calls Tryd.prog 7 #[.int .i64 x, .int .i64 n] w fun e w' => e = .returned (.bool true) ∧ Below w.heap.size w w' := by
  cases hin : inB x n with
  | false => exact pathUp_no x n hin hT
  | true => exact pathUp_yes x n hin hT

end Go.Proofs.YtklbmpmmpikfhaaDoor
