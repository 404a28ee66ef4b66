/-
  The Writer's number, written.
-/
import Derived.Test.YtjajgllkbchapaaWrA
namespace Go.Proofs.Ytjajgllkbchapaa
open Go.RowKit
set_option linter.unusedSimpArgs false
set_option linter.unusedVariables false

set_option maxRecDepth 100000 in
set_option maxHeartbeats 1000000 in
theorem number_loop {w : World} {p : Nat} {bs : List UInt8} (h : WAt w p bs 0) (n C : Int) (h0 : 0 ≤ n) (h1 : n < 4611686018427387904) (HC : Hid (C = (cls n.toNat : Nat))) (g0 : 0 ≤ C) (g3 : C ≤ 3) (hl : (bs.length : Int) ≤ 1099511627776)
    (L : Nat) (HL : Hid (wrap64 (wrap64 (2 ^ C.toNat) - 1) = (L : Int) - 1)) (l1 : 1 ≤ L) (l8 : L ≤ 8) (HL2 : Hid (L = 2 ^ cls n.toNat)) :
    Calls Try.prog 54 #[.pointer (some ⟨p, 0, none⟩), .int .i64 n] w fun e w' => e = .returned (.tuple #[]) ∧ WAt w' p (bs ++ enc n.toNat) 0 ∧ WFr p w w' := by
  obtain ⟨a, c, c0, c1, cf, hrow, hlt, hne⟩ := h.cells
  have hd : ¬ n < 0 := by omega
  have hd2 : ¬ 4611686018427387903 < n := by omega
  go_enter Try.func54, Try.ntmps54
  go_wp2_with fail
  refine (class_in _ n C h0 h1 HC).mono ?_
  rintro e w1 ⟨rfl, hw1⟩
  subst hw1
  go_wp2_with fail
  go_loopw [6] (fun i wr => ∃ j : Nat, j ≤ L ∧ i = .int .i64 ((j : Int) - 1) ∧ WAt wr p (bs ++ (be L n.toNat).take (L - j)) 0 ∧ WFr p w1 wr) (fun i _ => (intOf i + 1).toNat)
  case atStart => exact ⟨L, Nat.le_refl _, by rw [HL.out], by simpa using h, WFr.refl _ _⟩
  case round =>
    obtain ⟨j, hj, rfl, hw, hf⟩ := hrel
    clear c0 c1 cf hrow hne
    have hlen : (bs ++ (be L n.toNat).take (L - j)).length = bs.length + (L - j) := by simp [be_length]
    obtain ⟨xs, hxs⟩ : ∃ xs, xs = bs ++ (be L n.toNat).take (L - j) := ⟨_, rfl⟩
    rw [← hxs] at hw hlen
    have HX : Hid (xs = bs ++ (be L n.toNat).take (L - j)) := hxs
    have hlen2 : (xs.length : Int) ≤ 1099511627784 := by omega
    have Hlen : Hid (xs.length = bs.length + (L - j)) := hlen
    clear hxs hlen
    obtain ⟨a, c, c0, c1, cf, hrow, hlt2, hne⟩ := hw.cells
    cases j with
    | zero =>
      rw [show ((0 : Nat) : Int) - 1 = -1 from by omega]
      obtain ⟨g, hg⟩ : ∃ g, a = some ⟨g, 0, none⟩ := by
        rcases hrow.2 with ⟨h, h'⟩ | ⟨g, cap, cur, h, _⟩
        · have := Hlen.out; omega
        · exact ⟨g, by simpa using (Value.slice.inj h).1⟩
      subst hg
      have hbl : (bs.length : Int) < xs.length := by have := Hlen.out; omega
      have hcell := hrow.cellAt bs.length (by omega)
      have hfrz := hrow.frozenAt bs.length
      obtain ⟨b, hb⟩ : ∃ b, xs[bs.length]? = some b := ⟨xs[bs.length]'(by omega), by simp⟩
      have hcell' : wr.cell? ⟨g, bs.length, none⟩ = some (.int .u8 b.toNat) := by rw [hcell]; simp [Lib.byteCells, hb]
      have HB : Hid (xs[bs.length]? = some b) := hb
      clear hcell hb
      go_wp2_with fail
      go_end0
      have hn : n.toNat < 4611686018427387904 := by omega
      have hbv : b = UInt8.ofNat (n.toNat / 256 ^ (L - 1)) := by
        have e1 := HB.out
        rw [HX.out, Nat.sub_zero, List.take_of_length_le (by rw [be_length]; exact Nat.le_refl _), List.getElem?_append_right (Nat.le_refl _), Nat.sub_self] at e1
        have e2 := be_get n.toNat L (L - 1) (by omega)
        rw [show L - (L - 1 + 1) = 0 from by omega] at e2
        rw [e2] at e1
        exact (Option.some.inj e1).symm
      have hh := be_head_lt hn
      rw [← HL2.out] at hh
      have hc3 := cls_le n.toNat
      have hbt : b.toNat = n.toNat / 256 ^ (L - 1) := by
        rw [hbv, UInt8.toNat_ofNat', Nat.mod_eq_of_lt]
        exact Nat.lt_of_lt_of_le hh (by decide)
      have hor : bits BinOp.or IntKind.u8 (b.toNat : Int) (C * 64) = ((b.toNat ||| 64 * cls n.toNat : Nat) : Int) := by
        have := u8_or (b.toNat : Int) (C * 64) (by omega) (by omega) (by omega) (by omega)
        rw [this, HC.out]
        congr 2
        omega
      have hlt8 : (b.toNat ||| 64 * cls n.toNat) < 2 ^ 8 := Nat.or_lt_two_pow (by omega) (by omega)
      have hval : bits BinOp.or IntKind.u8 (b.toNat : Int) (C * 64) = ((UInt8.ofNat (b.toNat ||| 64 * cls n.toNat)).toNat : Int) := by
        rw [hor, UInt8.toNat_ofNat']; omega
      rw [hval]
      obtain ⟨p1, p2⟩ := hw.poked (j := bs.length) (b := UInt8.ofNat (b.toNat ||| 64 * cls n.toNat)) c0
      refine ⟨rfl, ?_, hf.trans p2⟩
      have e3 := enc_set bs hn (UInt8.ofNat (b.toNat ||| 64 * cls n.toNat)) (by rw [← hval, hor, hbt, HL2.out])
      rw [← e3]
      have e4 : xs = bs ++ be (2 ^ cls n.toNat) n.toNat := by
        rw [HX.out, Nat.sub_zero, List.take_of_length_le (by rw [be_length]; exact Nat.le_refl _), HL2.out]
      rw [← e4]
      exact p1
    | succ j =>
      rw [show ((j + 1 : Nat) : Int) - 1 = (j : Int) from by omega]
      obtain ⟨i0, hi, hz0, hz1, hz2⟩ := info_parts info5
      have hdec : decide ((0:Int) ≤ (j : Int)) = true := by simp
      have hj8 : (j : Int) ≤ 8 := by omega
      have hmul : IntKind.i64.wrap (8 * (j : Int)) = 8 * (j : Int) := by
        simp [IntKind.wrap, IntKind.bits, IntKind.signed]; omega
      have hsh : ∀ wx, Sem.run Try.prog (Op.shift BinOp.shr IntKind.i64 n IntKind.i64 (IntKind.i64.wrap (8 * (j : Int)))) wx = .ok (.int .i64 (n / 256 ^ j)) wx := by
        intro wx
        rw [hmul, shift_shr .i64 .i64 n (8 * (j : Int)) (by omega) (by show 8 * (j : Int) ≤ 64; omega), shift_256]
        rfl
      clear hmul
      have hone : ∀ u ∈ [Value.int .u8 (IntKind.u8.wrap (n / 256 ^ j))], u.oneCell' = true := by intro u hu; simp at hu; subst hu; rfl
      have hp0 : p ≤ (wr.alloc (.cells #[.int .u8 (IntKind.u8.wrap (n / 256 ^ j))] 5)).heap.size := by simp; omega
      have hp1 : ∀ o, p < (wr.alloc o).drew.heap.size := by intro o; simp; omega
      have hm1 : xs.length + 1 ≤ maxLen := by unfold maxLen; omega
      have hm2 : (xs.length + 1) * 1 ≤ 140737488355328 := by omega
      go_wp2_with fail
      go_region_law (refine step_append_at rfl (.tmp 39) (.tmp 45) 24 rfl 5 i0 (.int .u8 0) 1 1 Try.underlying24 hi hz0 hz1 hz2 rfl Nat.one_pos p (.slice a xs.length c) xs.length (Lib.byteCells xs) rfl (hrow.alloc _) hp0 ⟨wr.heap.size, 0, none⟩ 1 1 [.int .u8 (IntKind.u8.wrap (n / 256 ^ j))] rfl rfl (cell_one_new _ _ _) hone hm1 hm2 ?_; intro v' w' hown hgrow hnil hloc; obtain ⟨a2, c2, hv2⟩ := ownsRow_form hown; subst hv2; obtain ⟨hcc, hff⟩ := gcell hgrow (hp1 _) (Ne.symm hne))
      all_goals
        have hown2 : w'.ownsRow p 5 1 (.slice a2 (xs.length + 1) c2) (xs.length + 1) (Lib.byteCells xs ++ Lib.byteCells [UInt8.ofNat (n.toNat / 256 ^ j)]) := by
          have := hown
          rw [u8_wrap_div n j h0] at this
          exact this
        obtain ⟨p1, p2⟩ := hw.pushed (k := 1) c0 (((Below.refl _ wr).alloc (Nat.le_refl _) _).drew) hown2 rfl hgrow
        have HF : Hid (WAt (w'.setCell ⟨p, 0, none⟩ (.slice a2 (xs.length + 1) c2)) p (bs ++ (be L n.toNat).take (L - j)) 0 ∧ WFr p w1 (w'.setCell ⟨p, 0, none⟩ (.slice a2 (xs.length + 1) c2))) := by
          refine ⟨?_, hf.trans p2⟩
          have elist : xs ++ [UInt8.ofNat (n.toNat / 256 ^ j)] = bs ++ (be L n.toNat).take (L - j) := by
            rw [HX.out, List.append_assoc, ← be_take_succ n.toNat L j (by omega)]
          rw [← elist]
          exact p1
        clear hown hown2 hgrow hnil hloc p1 p2 hcc hff hrow
        go_wp2_with fail
        go_roundw
        case rel => exact ⟨j, by omega, by go_num, HF.out.1, HF.out.2⟩
        case measure => simp [intOf]
theorem two_pow_cls (n : Nat) : wrap64 (wrap64 (2 ^ ((cls n : Nat) : Int).toNat) - 1) = ((2 ^ cls n : Nat) : Int) - 1 ∧ 1 ≤ 2 ^ cls n ∧ 2 ^ cls n ≤ 8 := by
  have h := cls_le n
  have : cls n = 0 ∨ cls n = 1 ∨ cls n = 2 ∨ cls n = 3 := by omega
  rcases this with h | h | h | h <;> rw [h] <;> exact ⟨by simp [wrap64], by decide, by decide⟩

theorem number_ok {w : World} {p : Nat} {bs : List UInt8} (h : WAt w p bs 0) (n : Nat) (hn : n < 4611686018427387904) (hl : (bs.length : Int) ≤ 1099511627776) :
    Calls Try.prog 54 #[.pointer (some ⟨p, 0, none⟩), .int .i64 n] w fun e w' => e = .returned (.tuple #[]) ∧ WAt w' p (bs ++ enc n) 0 ∧ WFr p w w' := by
  have hc := cls_le n
  obtain ⟨q1, q2, q3⟩ := two_pow_cls n
  have := number_loop h (n : Int) (cls n : Nat) (by omega) (by omega) (by simp [Hid]) (by omega) (by omega) hl (2 ^ cls n) q1 q2 q3 (by simp [Hid])
  simpa using this

/-- The Writer's number, whatever it is. -/
def okN (n : Int) : Bool := decide (0 ≤ n) && decide (n ≤ 4611686018427387903)

theorem number_any {w : World} {p : Nat} {bs : List UInt8} (h : WAt w p bs 0) (n : Int) (hl : (bs.length : Int) ≤ 1099511627776) :
    Calls Try.prog 54 #[.pointer (some ⟨p, 0, none⟩), .int .i64 n] w fun e w' => e = .returned (.tuple #[]) ∧ WAt w' p (if okN n then bs ++ enc n.toNat else bs) (if okN n then 0 else 22) ∧ WFr p w w' := by
  by_cases hk : okN n = true
  · simp only [if_pos hk]
    simp only [okN, Bool.and_eq_true, decide_eq_true_eq] at hk
    obtain ⟨m, rfl⟩ : ∃ m : Nat, n = m := ⟨n.toNat, by omega⟩
    exact number_ok h m (by omega) hl
  · simp only [if_neg hk]
    simp only [okN, Bool.and_eq_true, decide_eq_true_eq] at hk
    exact number_bad h n (by omega)

end Go.Proofs.Ytjajgllkbchapaa
