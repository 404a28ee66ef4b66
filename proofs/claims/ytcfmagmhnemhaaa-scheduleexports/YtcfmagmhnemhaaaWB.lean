/-
  ScheduleExports: what is exported for one label and context is never what is exported for another, nor any other secret.
-/
import Derived.Test.YtcfmagmhnemhaaaVG
namespace Go.Proofs.Ytcfmagmhnemhaaa
open Go.RowKit
set_option linter.unusedSimpArgs false
set_option linter.unusedVariables false
attribute [local go_sem ↓] Go.wp_at_zero Go.wp_at_succ

theorem bytes_ne {a b : ByteArray} (h : ¬ a = b) : (a.toList == b.toList) = false := by
  rw [← beq_toListBytes]
  cases hb : a == b with
  | false => rfl
  | true => exact absurd ((bytes_beq a b).1 hb) h
theorem bytes_refl (a : ByteArray) : (a.toList == a.toList) = true := by simp

set_option maxRecDepth 100000 in
set_option maxHeartbeats 4000000 in
theorem exports_law (a : ByteArray) (ha : a.size ≤ maxLen) (b : ByteArray) (hb : b.size ≤ maxLen) (c : ByteArray) (hc : c.size ≤ maxLen) (d : ByteArray) (hd : d.size ≤ maxLen) {w : World} :
    Calls Try.prog 4 #[.string a, .string b, .string c, .string d] w fun e w' => e = .returned (.bool true) ∧ Below w.heap.size w w' := by
  have hL : Laid0 w := trivial
  clear ha hb hc hd
  by_cases la : (1024 : Int) < (a.size : Int)
  · go_enter Try.func4, Try.ntmps4
    go_wp2_with fail
    refine (anchor_m hL).mono ?_
    rintro e w1 ⟨rfl, b1⟩
    go_wp2_with fail
    go_ret
    exact ⟨rfl, b1⟩
  have pa : ((1024 : Int) < (a.size : Int)) = False := eq_false la
  have La : Hid (a.size ≤ 1024) := by unfold Hid; omega
  clear la
  by_cases lb : (1024 : Int) < (b.size : Int)
  · go_enter Try.func4, Try.ntmps4
    go_wp2_with fail
    refine (anchor_m hL).mono ?_
    rintro e w1 ⟨rfl, b1⟩
    go_wp2_with fail
    go_ret
    exact ⟨rfl, b1⟩
  have pb : ((1024 : Int) < (b.size : Int)) = False := eq_false lb
  have Lb : Hid (b.size ≤ 1024) := by unfold Hid; omega
  clear lb
  by_cases lc : (1024 : Int) < (c.size : Int)
  · go_enter Try.func4, Try.ntmps4
    go_wp2_with fail
    refine (anchor_m hL).mono ?_
    rintro e w1 ⟨rfl, b1⟩
    go_wp2_with fail
    go_ret
    exact ⟨rfl, b1⟩
  have pc : ((1024 : Int) < (c.size : Int)) = False := eq_false lc
  have Lc : Hid (c.size ≤ 1024) := by unfold Hid; omega
  clear lc
  by_cases ld : (1024 : Int) < (d.size : Int)
  · go_enter Try.func4, Try.ntmps4
    go_wp2_with fail
    refine (anchor_m hL).mono ?_
    rintro e w1 ⟨rfl, b1⟩
    go_wp2_with fail
    go_ret
    exact ⟨rfl, b1⟩
  have pd : ((1024 : Int) < (d.size : Int)) = False := eq_false ld
  have Ld : Hid (d.size ≤ 1024) := by unfold Hid; omega
  clear ld
  go_enter Try.func4, Try.ntmps4
  go_wp2_with fail
  refine (anchor_m hL).mono ?_
  rintro e w1 ⟨rfl, b1⟩
  go_wp2_with fail
  refine (stores_m (hL.low hL.big (fun k hk => b1.block k hk)) 4 (by decide)).mono ?_
  rintro e w2 ⟨s, r, rfl, hT⟩
  have l0 := atoms_length 4
  go_wp2_with fail
  refine (text_m hT.seat ⟨#[]⟩ (by decide) (by omega)).mono ?_
  rintro e w3 ⟨t3, ns3, rfl, r3, m3⟩
  have hT3 := hT.run r3
  have l3 := r3.st.len
  have p3 := r3.st.pre
  clear r3 hT
  go_wp2_with fail
  refine (next_m hT3.seat ((atoms_means (k := 4) (t := 1) (by decide) (by decide)).keeps p3) ((atoms_means (k := 4) (t := 2) (by decide) (by decide)).keeps p3) m3 ((atoms_means (k := 4) (t := 3) (by decide) (by decide)).keeps p3) (by omega)).mono ?_
  rintro e w4 ⟨v, ns4, rfl, r4, ⟨a0, a1, a2, a3, a4, a5, a6, a7, a8, a9, a10, a11, a12, rfl, m4⟩⟩
  have hT4 := hT3.run r4
  have l4 := r4.st.len
  have hal : Below w4.heap.size w4 (w4.alloc (.cells #[.int .i64 a0, .int .i64 a1, .int .i64 a2, .int .i64 a3, .int .i64 a4, .int .i64 a5, .int .i64 a6, .int .i64 a7, .int .i64 a8, .int .i64 a9, .int .i64 a10, .int .i64 a11, .int .i64 a12] 31)) := (Below.refl _ _).alloc (Nat.le_refl _) _
  have hHC : Cells (w4.alloc (.cells #[.int .i64 a0, .int .i64 a1, .int .i64 a2, .int .i64 a3, .int .i64 a4, .int .i64 a5, .int .i64 a6, .int .i64 a7, .int .i64 a8, .int .i64 a9, .int .i64 a10, .int .i64 a11, .int .i64 a12] 31)) w4.heap.size 31 [Value.int .i64 a0, Value.int .i64 a1, Value.int .i64 a2, Value.int .i64 a3, Value.int .i64 a4, Value.int .i64 a5, Value.int .i64 a6, Value.int .i64 a7, Value.int .i64 a8, Value.int .i64 a9, Value.int .i64 a10, Value.int .i64 a11, Value.int .i64 a12] := Cells.new w4 31 [Value.int .i64 a0, Value.int .i64 a1, Value.int .i64 a2, Value.int .i64 a3, Value.int .i64 a4, Value.int .i64 a5, Value.int .i64 a6, Value.int .i64 a7, Value.int .i64 a8, Value.int .i64 a9, Value.int .i64 a10, Value.int .i64 a11, Value.int .i64 a12]
  have hno := free_new hT4.seat.st (.cells #[.int .i64 a0, .int .i64 a1, .int .i64 a2, .int .i64 a3, .int .i64 a4, .int .i64 a5, .int .i64 a6, .int .i64 a7, .int .i64 a8, .int .i64 a9, .int .i64 a10, .int .i64 a11, .int .i64 a12] 31)
  obtain ⟨W5, hW5⟩ : ∃ W5, w4.alloc (.cells #[.int .i64 a0, .int .i64 a1, .int .i64 a2, .int .i64 a3, .int .i64 a4, .int .i64 a5, .int .i64 a6, .int .i64 a7, .int .i64 a8, .int .i64 a9, .int .i64 a10, .int .i64 a11, .int .i64 a12] 31) = W5 := ⟨_, rfl⟩
  have HW5 : Hid (w4.alloc (.cells #[.int .i64 a0, .int .i64 a1, .int .i64 a2, .int .i64 a3, .int .i64 a4, .int .i64 a5, .int .i64 a6, .int .i64 a7, .int .i64 a8, .int .i64 a9, .int .i64 a10, .int .i64 a11, .int .i64 a12] 31) = W5) := hW5
  have hT5 := hT4.below hal
  rw [hW5] at hHC hno hT5
  have hdr : Below W5.heap.size W5 W5.drew := (Below.refl _ _).drew
  have HT5 : Hid (Two w1 s r W5.drew ns4 4 (atoms 4) 4) := hT5.below hdr
  have HC : Cells W5.drew w4.heap.size 31 [Value.int .i64 a0, Value.int .i64 a1, Value.int .i64 a2, Value.int .i64 a3, Value.int .i64 a4, Value.int .i64 a5, Value.int .i64 a6, Value.int .i64 a7, Value.int .i64 a8, Value.int .i64 a9, Value.int .i64 a10, Value.int .i64 a11, Value.int .i64 a12] := Cells.below hHC hdr
  have HC0 : Hid (w4.heap.size < W5.drew.heap.size) := Cells.lt HC
  have HN : Hid (¬ Own W5.drew s w4.heap.size) := fun ho => hno ((own_below1 hT5.seat.st.lt hdr _).1 ho)
  have HM : Hid (EpAt ns4 (.agg #[.int .i64 a0, .int .i64 a1, .int .i64 a2, .int .i64 a3, .int .i64 a4, .int .i64 a5, .int .i64 a6, .int .i64 a7, .int .i64 a8, .int .i64 a9, .int .i64 a10, .int .i64 a11, .int .i64 a12]) (epochT (joinT (.atom 1) (.atom 2)) noT (.atom 3))) := ⟨a0, a1, a2, a3, a4, a5, a6, a7, a8, a9, a10, a11, a12, rfl, m4⟩
  have HM2 : Hid (Mean2 ns4 [a0, a1, a2, a3, a4, a5, a6, a7, a8, a9, a10, a11, a12] (epochT (joinT (.atom 1) (.atom 2)) noT (.atom 3))) := m4
  have Hl4 : Hid (ns4.length ≤ 30) := by unfold Hid; omega
  have HB1 : Hid (Below w.heap.size w w1) := b1
  clear hT3 hT4 hT5 hHC hno hal hdr hW5 m3 l3 l4 p3 r4 m4 l0 b1
  go_wp2_with (rw [HW5.out])
  go_region_held3 (fun w' => w'.cell? ⟨w4.heap.size, 0, none⟩ = some (.int .i64 a0) ∧ w'.cell? ⟨w4.heap.size, 1, none⟩ = some (.int .i64 a1) ∧ w'.cell? ⟨w4.heap.size, 2, none⟩ = some (.int .i64 a2) ∧ w'.cell? ⟨w4.heap.size, 3, none⟩ = some (.int .i64 a3) ∧ w'.cell? ⟨w4.heap.size, 4, none⟩ = some (.int .i64 a4) ∧ w'.cell? ⟨w4.heap.size, 5, none⟩ = some (.int .i64 a5) ∧ w'.cell? ⟨w4.heap.size, 6, none⟩ = some (.int .i64 a6) ∧ w'.cell? ⟨w4.heap.size, 7, none⟩ = some (.int .i64 a7) ∧ w'.cell? ⟨w4.heap.size, 8, none⟩ = some (.int .i64 a8) ∧ w'.cell? ⟨w4.heap.size, 9, none⟩ = some (.int .i64 a9) ∧ w'.cell? ⟨w4.heap.size, 10, none⟩ = some (.int .i64 a10) ∧ w'.cell? ⟨w4.heap.size, 11, none⟩ = some (.int .i64 a11) ∧ w'.cell? ⟨w4.heap.size, 12, none⟩ = some (.int .i64 a12))
    (exact ⟨by rw [Cells.cell HC]; rfl, by rw [Cells.cell HC]; rfl, by rw [Cells.cell HC]; rfl, by rw [Cells.cell HC]; rfl, by rw [Cells.cell HC]; rfl, by rw [Cells.cell HC]; rfl, by rw [Cells.cell HC]; rfl, by rw [Cells.cell HC]; rfl, by rw [Cells.cell HC]; rfl, by rw [Cells.cell HC]; rfl, by rw [Cells.cell HC]; rfl, by rw [Cells.cell HC]; rfl, by rw [Cells.cell HC]; rfl⟩)
    (first
      | (go_at_call 13
         have hq := export_m HT5.out.seat HM.out rfl a b La.out Lb.out (by have := Hl4.out; omega)
         with_reducible refine Calls.mono hq ?_
         clear hq
         rintro e w6 ⟨t6, ns6, rfl, r6, m6⟩
         replace HC := Cells.run HC r6 HN.out
         have HN6 : Hid (¬ Own w6 s w4.heap.size) := r6.mv.free (HC0.out) HN.out
         have HT6 : Hid (Two w1 s r w6 ns6 4 (atoms 4) 4) := HT5.out.run r6
         have M6 : Hid (Means ns6 t6 (exportT (ofT kExporter (secretT (joinT (.atom 1) (.atom 2)) noT (.atom 3))) a b)) := m6
         have S6 : Hid (Stp ns4 ns6 4) := r6.st
         clear r6 m6)
      | (go_at_call 13
         have hq := export_m HT6.out.seat (HM.out.keeps S6.out.pre) rfl c d Lc.out Ld.out (by have := Hl4.out; have := S6.out.len; omega)
         with_reducible refine Calls.mono hq ?_
         clear hq
         rintro e w7 ⟨t7, ns7, rfl, r7, m7⟩
         replace HC := Cells.run HC r7 HN6.out
         have HT7 : Hid (Two w1 s r w7 ns7 4 (atoms 4) 4) := HT6.out.run r7
         have M7 : Hid (Means ns7 t7 (exportT (ofT kExporter (secretT (joinT (.atom 1) (.atom 2)) noT (.atom 3))) c d)) := m7
         have S7 : Hid (Stp ns6 ns7 4) := r7.st
         clear r7 m7)
      | fail)
  have g0 : w7.cell? ⟨w4.heap.size, 0, none⟩ = some (.int .i64 a0) := by rw [Cells.cell HC]; rfl
  have g1 : w7.cell? ⟨w4.heap.size, 1, none⟩ = some (.int .i64 a1) := by rw [Cells.cell HC]; rfl
  have g2 : w7.cell? ⟨w4.heap.size, 2, none⟩ = some (.int .i64 a2) := by rw [Cells.cell HC]; rfl
  have g3 : w7.cell? ⟨w4.heap.size, 3, none⟩ = some (.int .i64 a3) := by rw [Cells.cell HC]; rfl
  have g4 : w7.cell? ⟨w4.heap.size, 4, none⟩ = some (.int .i64 a4) := by rw [Cells.cell HC]; rfl
  have g5 : w7.cell? ⟨w4.heap.size, 5, none⟩ = some (.int .i64 a5) := by rw [Cells.cell HC]; rfl
  have g6 : w7.cell? ⟨w4.heap.size, 6, none⟩ = some (.int .i64 a6) := by rw [Cells.cell HC]; rfl
  have g7 : w7.cell? ⟨w4.heap.size, 7, none⟩ = some (.int .i64 a7) := by rw [Cells.cell HC]; rfl
  have g8 : w7.cell? ⟨w4.heap.size, 8, none⟩ = some (.int .i64 a8) := by rw [Cells.cell HC]; rfl
  have g9 : w7.cell? ⟨w4.heap.size, 9, none⟩ = some (.int .i64 a9) := by rw [Cells.cell HC]; rfl
  have g10 : w7.cell? ⟨w4.heap.size, 10, none⟩ = some (.int .i64 a10) := by rw [Cells.cell HC]; rfl
  have g11 : w7.cell? ⟨w4.heap.size, 11, none⟩ = some (.int .i64 a11) := by rw [Cells.cell HC]; rfl
  have g12 : w7.cell? ⟨w4.heap.size, 12, none⟩ = some (.int .i64 a12) := by rw [Cells.cell HC]; rfl
  have HN6' : Hid (Means ns7 t6 (exportT (ofT kExporter (secretT (joinT (.atom 1) (.atom 2)) noT (.atom 3))) a b)) := M6.out.keeps S7.out.pre
  have HM7 : Hid (Mean2 ns7 [a0, a1, a2, a3, a4, a5, a6, a7, a8, a9, a10, a11, a12] (epochT (joinT (.atom 1) (.atom 2)) noT (.atom 3))) := HM2.out.keeps (S6.out.pre.trans S7.out.pre)
  have n6 : (t6 == 0) = false := by have := (hasB_iff _ _).1 (Means.has HN6'.out); simp; omega
  have n7 : (t7 == 0) = false := by have := (hasB_iff _ _).1 (Means.has M7.out); simp; omega
  have hiff : t6 = t7 ↔ (a = c ∧ b = d) := (Means.eq_iff HT7.out.seat.wf HN6'.out M7.out).trans exportT_iff
  have HLo : Hid (Below w.heap.size w w7) := HB1.out.trans (HT7.out.low.mono HB1.out.size)
  have Hne : Hid (∀ k x, [a0, a1, a2, a3, a4, a5, a6, a7, a8, a9, a10, a11, a12][k]? = some x → (x == t6) = false ∧ (x == t7) = false) := fun k x hx => by
    obtain ⟨X, hX, mX⟩ := Mean2.get HM7.out k x hx
    refine ⟨?_, ?_⟩
    · rw [beq_eq_false_iff_ne]
      rintro rfl
      have e := mX.one HN6'.out
      subst e
      exact epochT_export hX
    · rw [beq_eq_false_iff_ne]
      rintro rfl
      have e := mX.one M7.out
      subst e
      exact epochT_export hX
  have Hal : Hid (Calls Try.prog 9 #[.agg #[.int .i64 a0, .int .i64 a1, .int .i64 a2, .int .i64 a3, .int .i64 a4, .int .i64 a5, .int .i64 a6, .int .i64 a7, .int .i64 a8, .int .i64 a9, .int .i64 a10, .int .i64 a11, .int .i64 a12]] w7 fun e w' => ∃ b, e = .returned (.slice (some ⟨b, 0, none⟩) 13 13) ∧ Below w7.heap.size w7 w' ∧ w7.heap.size ≤ b ∧ b < w'.heap.size ∧ ∀ i x, [a0, a1, a2, a3, a4, a5, a6, a7, a8, a9, a10, a11, a12][i]? = some x → w'.cell? ⟨b, i, none⟩ = some (.int .i64 x)) := all_m a0 a1 a2 a3 a4 a5 a6 a7 a8 a9 a10 a11 a12
  clear HC HM7 HM2 HM M7 M6 S6 S7 HN6' HT7 HT6 HN6 Hl4 HB1 HC0 HN HT5 HW5 La Lb Lc Ld pa pb pc pd
  have H3 : (∃ P Q : Bool, (a.toList == c.toList) = P ∧ (P = true → (b.toList == d.toList) = Q) ∧ (t6 == t7) = (P && Q)) := by
    by_cases hac : a = c
    · by_cases hbd : b = d
      · refine ⟨true, true, by rw [hac]; exact bytes_refl c, fun _ => by rw [hbd]; exact bytes_refl d, ?_⟩
        have := hiff.2 ⟨hac, hbd⟩
        simp [this]
      · refine ⟨true, false, by rw [hac]; exact bytes_refl c, fun _ => bytes_ne hbd, ?_⟩
        have h1 : ¬ t6 = t7 := fun e => hbd (hiff.1 e).2
        simp [h1]
    · refine ⟨false, false, bytes_ne hac, fun h => absurd h (by decide), ?_⟩
      have h1 : ¬ t6 = t7 := fun e => hac (hiff.1 e).1
      simp [h1]
  clear hiff
  obtain ⟨P, Q, hP, hQ, hPQ⟩ := H3
  cases P
  · simp only [Bool.false_and] at hPQ
    clear hQ
    go_wp2_with fail
    refine Calls.mono Hal.out ?_
    rintro e w8 ⟨bb, rfl, b8, _, _, hcell⟩
    clear g0 g1 g2 g3 g4 g5 g6 g7 g8 g9 g10 g11 g12
    have HLo8 : Hid (Below w.heap.size w w8) := HLo.out.trans (b8.mono HLo.out.size)
    have Hc : Hid (∀ i x, [a0, a1, a2, a3, a4, a5, a6, a7, a8, a9, a10, a11, a12][i]? = some x → w8.cell? ⟨bb, i, none⟩ = some (.int .i64 x)) := hcell
    clear hcell b8
    go_wp2_with fail
    go_loop [79] (fun i => ∃ k : Nat, k ≤ 13 ∧ i = .int .i64 k) (fun i => 13 - (intOf i).toNat)
    case atStart => exact ⟨0, Nat.zero_le _, rfl⟩
    case round =>
      obtain ⟨k, hk, rfl⟩ := hrel
      by_cases hlt : k < 13
      · obtain ⟨x, hx⟩ : ∃ x, [a0, a1, a2, a3, a4, a5, a6, a7, a8, a9, a10, a11, a12][k]? = some x := ⟨[a0, a1, a2, a3, a4, a5, a6, a7, a8, a9, a10, a11, a12][k]'(by simpa using hlt), List.getElem?_eq_getElem _⟩
        have d0 := Hc.out k x hx
        have i1 : (k : Int) < 13 := by omega
        have x6 := (Hne.out k x hx).1
        have x7 := (Hne.out k x hx).2
        clear hx
        go_wp2_with fail
        go_round
        case rel => exact ⟨k + 1, by omega, by go_num⟩
        case measure => simp [intOf]; omega
      · have i1 : ¬ (k : Int) < 13 := by omega
        go_wp2_with fail
        go_ret
        exact ⟨rfl, HLo8.out⟩
  · have hQ2 := hQ rfl
    clear hQ
    simp only [Bool.true_and] at hPQ
    cases Q
    · go_wp2_with fail
      refine Calls.mono Hal.out ?_
      rintro e w8 ⟨bb, rfl, b8, _, _, hcell⟩
      clear g0 g1 g2 g3 g4 g5 g6 g7 g8 g9 g10 g11 g12
      have HLo8 : Hid (Below w.heap.size w w8) := HLo.out.trans (b8.mono HLo.out.size)
      have Hc : Hid (∀ i x, [a0, a1, a2, a3, a4, a5, a6, a7, a8, a9, a10, a11, a12][i]? = some x → w8.cell? ⟨bb, i, none⟩ = some (.int .i64 x)) := hcell
      clear hcell b8
      go_wp2_with fail
      go_loop [79] (fun i => ∃ k : Nat, k ≤ 13 ∧ i = .int .i64 k) (fun i => 13 - (intOf i).toNat)
      case atStart => exact ⟨0, Nat.zero_le _, rfl⟩
      case round =>
        obtain ⟨k, hk, rfl⟩ := hrel
        by_cases hlt : k < 13
        · obtain ⟨x, hx⟩ : ∃ x, [a0, a1, a2, a3, a4, a5, a6, a7, a8, a9, a10, a11, a12][k]? = some x := ⟨[a0, a1, a2, a3, a4, a5, a6, a7, a8, a9, a10, a11, a12][k]'(by simpa using hlt), List.getElem?_eq_getElem _⟩
          have d0 := Hc.out k x hx
          have i1 : (k : Int) < 13 := by omega
          have x6 := (Hne.out k x hx).1
          have x7 := (Hne.out k x hx).2
          clear hx
          go_wp2_with fail
          go_round
          case rel => exact ⟨k + 1, by omega, by go_num⟩
          case measure => simp [intOf]; omega
        · have i1 : ¬ (k : Int) < 13 := by omega
          go_wp2_with fail
          go_ret
          exact ⟨rfl, HLo8.out⟩
    · go_wp2_with fail
      refine Calls.mono Hal.out ?_
      rintro e w8 ⟨bb, rfl, b8, _, _, hcell⟩
      clear g0 g1 g2 g3 g4 g5 g6 g7 g8 g9 g10 g11 g12
      have HLo8 : Hid (Below w.heap.size w w8) := HLo.out.trans (b8.mono HLo.out.size)
      have Hc : Hid (∀ i x, [a0, a1, a2, a3, a4, a5, a6, a7, a8, a9, a10, a11, a12][i]? = some x → w8.cell? ⟨bb, i, none⟩ = some (.int .i64 x)) := hcell
      clear hcell b8
      go_wp2_with fail
      go_loop [79] (fun i => ∃ k : Nat, k ≤ 13 ∧ i = .int .i64 k) (fun i => 13 - (intOf i).toNat)
      case atStart => exact ⟨0, Nat.zero_le _, rfl⟩
      case round =>
        obtain ⟨k, hk, rfl⟩ := hrel
        by_cases hlt : k < 13
        · obtain ⟨x, hx⟩ : ∃ x, [a0, a1, a2, a3, a4, a5, a6, a7, a8, a9, a10, a11, a12][k]? = some x := ⟨[a0, a1, a2, a3, a4, a5, a6, a7, a8, a9, a10, a11, a12][k]'(by simpa using hlt), List.getElem?_eq_getElem _⟩
          have d0 := Hc.out k x hx
          have i1 : (k : Int) < 13 := by omega
          have x6 := (Hne.out k x hx).1
          have x7 := (Hne.out k x hx).2
          clear hx
          go_wp2_with fail
          go_round
          case rel => exact ⟨k + 1, by omega, by go_num⟩
          case measure => simp [intOf]; omega
        · have i1 : ¬ (k : Int) < 13 := by omega
          go_wp2_with fail
          go_ret
          exact ⟨rfl, HLo8.out⟩

end Go.Proofs.Ytcfmagmhnemhaaa
