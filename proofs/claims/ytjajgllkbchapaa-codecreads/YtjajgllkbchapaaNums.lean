/-
  CodecNumbers: its walk.
-/
import Derived.Test.YtjajgllkbchapaaRefP
import Derived.Test.YtjajgllkbchapaaCutW
namespace Go.Proofs.Ytjajgllkbchapaa
open Go.RowKit
set_option linter.unusedSimpArgs false
set_option linter.unusedVariables false

set_option maxHeartbeats 400000 in
theorem refBound (w : World) (m : Int) : Calls Try.prog 14 #[.int .i64 m] w fun e w' => e = .returned (.int .i64 (boundF m)) ∧ w' = w := by
  have hb : boundF m = min (max m 0) 1048576 := rfl
  have Hb : Hid (boundF m = min (max m 0) 1048576) := hb
  clear hb
  by_cases h1 : m < 0
  · go_enter Try.func14, Try.ntmps14
    go_wp2_with fail
    go_ret
    exact ⟨ret_int (by rw [Hb.out]; omega), rfl⟩
  · by_cases h2 : 1048576 < m
    · go_enter Try.func14, Try.ntmps14
      go_wp2_with fail
      go_ret
      exact ⟨ret_int (by rw [Hb.out]; omega), rfl⟩
    · go_enter Try.func14, Try.ntmps14
      go_wp2_with fail
      go_ret
      exact ⟨ret_int (by rw [Hb.out]; omega), rfl⟩

theorem row_mono {w : World} {base base' e size n : Nat} {v : Value} {xs : List Value} (h : w.ownsRow base e size v n xs) (hb : base' ≤ base) : w.ownsRow base' e size v n xs := by
  refine ⟨h.1, ?_⟩
  rcases h.2 with h | ⟨g, cap, cur, e, hg, r⟩
  · exact Or.inl h
  · exact Or.inr ⟨g, cap, cur, e, Nat.le_trans hb hg, r⟩

theorem valB_eq : valB = fun b => Value.int .u8 (b.toNat : Int) := rfl

/-- The bytes that are gathered, and whether all could be written. -/
def gath (l : List Int) : List UInt8 := l.flatMap fun n => (putN n).1
def allOk (l : List Int) : Bool := l.all fun n => (putN n).2

theorem gath_snoc (l : List Int) (n : Int) : gath (l ++ [n]) = gath l ++ (putN n).1 := by simp [gath]
theorem allOk_snoc (l : List Int) (n : Int) : allOk (l ++ [n]) = (allOk l && (putN n).2) := by simp [allOk]
theorem gath_len (l : List Int) : (gath l).length ≤ 8 * l.length := by
  induction l with
  | nil => simp [gath]
  | cons a r ih =>
    have := putN_len a
    simp only [gath, List.flatMap_cons, List.length_append, List.length_cons] at ih ⊢
    omega

theorem puts_all : ∀ l : List Int, (puts putN l).2 = allOk l ∧ (allOk l = true → (puts putN l).1 = gath l)
  | [] => by simp [puts, allOk, gath]
  | a :: r => by
    have ih := puts_all r
    have e1 : allOk (a :: r) = ((putN a).2 && allOk r) := by simp [allOk]
    have e2 : gath (a :: r) = (putN a).1 ++ gath r := by simp [gath]
    rw [e1, e2]
    simp only [puts]
    cases h : (putN a).2
    · simp
    · simp only [if_true, Bool.true_and]
      refine ⟨ih.1, fun h2 => ?_⟩
      rw [ih.2 h2]

set_option maxRecDepth 100000 in
set_option maxHeartbeats 1000000 in
theorem nums_long {w : World} {v : Value} {l : List Int} (hl : IntsAt w v l) (most : Int) (h : 5000 < (l.length : Int)) : Calls Try.prog 3 #[v, .int .i64 most] w fun e w' => e = .returned (.bool true) ∧ Below w.heap.size w w' := by
  obtain ⟨a, cap, rfl, hll, hc⟩ := hl
  go_enter Try.func3, Try.ntmps3
  go_wp2_with fail
  refine (anchor_any _).mono ?_
  rintro e w1 ⟨rfl, b1⟩
  go_wp2_with fail
  go_ret
  exact ⟨rfl, b1⟩

set_option maxRecDepth 100000 in
set_option maxHeartbeats 4000000 in
theorem nums_in {w : World} {v : Value} {l : List Int} (hl : IntsAt w v l) (most M : Int) (HM : Hid (boundF most = M)) (h : ¬ 5000 < (l.length : Int)) (t : Bool) (ht : decide ((l.length : Int) ≤ M) = t) : Calls Try.prog 3 #[v, .int .i64 most] w fun e w' => e = .returned (.bool true) ∧ Below w.heap.size w w' := by
  have hli := hl
  obtain ⟨a, cap, rfl, hll, hc⟩ := hl
  have HP : Hid (putN (l.length : Int) = (enc l.length, true)) := by
    have : okN (l.length : Int) = true := by simp [okN]; omega
    show putN _ = _
    unfold putN
    rw [if_pos this]
    rfl
  go_enter Try.func3, Try.ntmps3
  go_wp2_with fail
  refine (anchor_any _).mono ?_
  rintro e w1 ⟨rfl, b1⟩
  go_wp2_with fail
  refine (refPut_any _).mono ?_
  rintro e w2 ⟨v2, rfl, ho2, d2⟩
  rw [HP.out] at ho2 ⊢
  go_wp2_with fail
  refine (refBound _ _).mono ?_
  rintro e w3 ⟨he, hw3⟩
  rw [HM.out] at he
  subst he
  subst hw3
  have b2 := on b1 d2
  have hb1s := b1.size
  have ho3 : w3.ownsRow w.heap.size 5 1 v2 (enc l.length).length (Lib.byteCells (enc l.length)) := row_mono ho2 hb1s
  go_wp2_with fail
  go_loopw [5, 6, 36] (fun o k i wr => ∃ j : Nat, j ≤ l.length ∧ i = .int .i64 j ∧ k = .bool (t && allOk (l.take j)) ∧ wr.ownsRow w.heap.size 5 1 o (enc l.length ++ gath (l.take j)).length (Lib.byteCells (enc l.length ++ gath (l.take j))) ∧ Below w.heap.size w wr) (fun _ _ i _ => l.length - (intOf i).toNat)
  case atStart => exact ⟨0, Nat.zero_le _, rfl, by simp [allOk], by simpa [gath] using ho3, b2⟩
  case round =>
    obtain ⟨j, hj, rfl, rfl, ho, hb⟩ := hrel
    by_cases hjl : j < l.length
    · obtain ⟨b, off, rfl, hbB, hce⟩ := hc (by rintro rfl; simp at hjl)
      obtain ⟨x, hx⟩ : ∃ x, l[j]? = some x := ⟨l[j], by simp [hjl]⟩
      have hcell := (hb.cell (p := ⟨b, off + j, none⟩) hbB).trans (hce j x hx)
      have htk : l.take (j + 1) = l.take j ++ [x] := by rw [List.take_add_one, hx]; rfl
      have Htk : Hid (l.take (j + 1) = l.take j ++ [x]) := htk
      have hjl' : (j : Int) < l.length := by omega
      have hgl := gath_len (l.take j)
      have htl : (l.take j).length ≤ 5000 := by rw [List.length_take]; omega
      have hel := enc_le l.length
      have hex := enc_le x.toNat
      have Hm1 : Hid ((enc l.length ++ gath (l.take j)).length + (enc x.toNat).length ≤ maxLen) := by show _ ≤ maxLen; rw [List.length_append]; unfold maxLen; omega
      have Hm2 : Hid (((enc l.length ++ gath (l.take j)).length + (enc x.toNat).length) * 1 ≤ 140737488355328) := by show _ ≤ _; rw [List.length_append]; omega
      have Hn1 : Hid ((enc l.length ++ gath (l.take j)).length + ([] : List UInt8).length ≤ maxLen) := by show _ ≤ maxLen; rw [List.length_append]; simp; unfold maxLen; omega
      have Hn2 : Hid (((enc l.length ++ gath (l.take j)).length + ([] : List UInt8).length) * 1 ≤ 140737488355328) := by show _ ≤ _; rw [List.length_append]; simp; omega
      clear hce hx htk hgl htl hel hex ho2 ho3 d2 b1 b2
      have hpn : putN x = (enc x.toNat, true) ∨ putN x = ([], false) := by
        unfold putN
        split
        · exact Or.inl rfl
        · exact Or.inr rfl
      cases hT : (t && allOk (l.take j)) with
      | true =>
        have HT : Hid ((t && allOk (l.take j)) = true) := hT
        clear hT
        rcases hpn with hpx | hpx
        · have HX : Hid (putN x = (enc x.toNat, true)) := hpx
          have HE : Hid (encRes (putN x) = .tuple #[.string ⟨(enc x.toNat).toArray⟩, .int .i64 0]) := by rw [hpx]; rfl
          clear hpx
          go_wp2_with fail
          refine (refPut_any _).mono ?_
          rintro e w4 ⟨v4, rfl, ho4, d4⟩
          rw [HX.out] at ho4 ⊢
          go_wp2_with fail
          refine (number_codec _).mono ?_
          rintro e w5 ⟨rfl, d5⟩
          go_wp2_with fail
          refine (encodeN _ _ _).mono ?_
          rintro e w6 ⟨he, d6⟩
          rw [HE.out] at he
          subst he
          have d46 := on d5 d6
          have ho6 := ownsRow_below ho4 d46
          have b6 := on (on hb d4) d46
          have hrow6 := ownsRow_below ho (on d4 d46)
          have hz6 := b6.size
          obtain ⟨a9, c9, rfl⟩ := ownsRow_form ho6
          have hcv := conv_bytes ho6
          have hv6 := vals_row (val := valB) valB_one (base := wr.heap.size) (E := 5) ho6
          clear d4 d5 d6 d46 ho4 ho6
          go_wp2_with (refine wpList_append_vals valB_one info5 rfl Try.underlying24 _ rfl (.tmp 73) (.tmp 74) rfl w.heap.size u5 _ _ rfl hrow6 _ _ rfl hv6 Hm1.out Hm2.out hz6 ?_; intro v7 w7 ho7 hg7 hl7)
          have b7 := b6.grown hg7 hz6 (fun k hk => (hrow6.lt k hk).1)
          go_roundw
          case rel =>
            refine ⟨j + 1, by omega, by go_num, ?_, ?_, b7⟩
            · rw [Htk.out, allOk_snoc, HX.out]
              congr 1
              have := HT.out; simp only [Bool.and_true]; exact this.symm
            · rw [Htk.out, gath_snoc, HX.out, ← List.append_assoc]
              simpa [Lib.byteCells, valB_eq, List.length_append, Nat.add_assoc] using ho7
          case measure => simp [intOf]; omega
        · have HX : Hid (putN x = ([], false)) := hpx
          have HE : Hid (encRes (putN x) = .tuple #[.string ⟨#[]⟩, .int .i64 22]) := by rw [hpx]; rfl
          clear hpx
          go_wp2_with fail
          refine (refPut_any _).mono ?_
          rintro e w4 ⟨v4, rfl, ho4, d4⟩
          rw [HX.out] at ho4 ⊢
          simp only [List.length_nil] at ho4
          go_wp2_with fail
          refine (number_codec _).mono ?_
          rintro e w5 ⟨rfl, d5⟩
          go_wp2_with fail
          refine (encodeN _ _ _).mono ?_
          rintro e w6 ⟨he, d6⟩
          rw [HE.out] at he
          subst he
          have d46 := on d5 d6
          have ho6 := ownsRow_below ho4 d46
          have b6 := on (on hb d4) d46
          have hrow6 := ownsRow_below ho (on d4 d46)
          have hz6 := b6.size
          obtain ⟨a9, c9, rfl⟩ := ownsRow_form ho6
          have hcv := conv_bytes (out := []) ho6
          simp only [List.length_nil] at hcv
          have hv6 : Vals valB w6 (.slice a9 0 c9) [] := vals_row (val := valB) valB_one (base := wr.heap.size) (E := 5) (l := []) ho6
          clear d4 d5 d6 d46 ho4 ho6
          go_wp2_with (refine wpList_append_vals valB_one info5 rfl Try.underlying24 _ rfl (.tmp 73) (.tmp 74) rfl w.heap.size u5 _ _ rfl hrow6 (.slice a9 0 c9) [] rfl hv6 Hn1.out Hn2.out hz6 ?_; intro v7 w7 ho7 hg7 hl7)
          have b7 := b6.grown hg7 hz6 (fun k hk => (hrow6.lt k hk).1)
          go_roundw
          case rel =>
            refine ⟨j + 1, by omega, by go_num, ?_, ?_, b7⟩
            · rw [Htk.out, allOk_snoc, HX.out]
              congr 1
              simp
            · rw [Htk.out, gath_snoc, HX.out, ← List.append_assoc]
              simpa [Lib.byteCells, valB_eq, List.length_append, Nat.add_assoc] using ho7
          case measure => simp [intOf]; omega
      | false =>
        have HT : Hid ((t && allOk (l.take j)) = false) := hT
        clear hT
        rcases hpn with hpx | hpx
        · have HX : Hid (putN x = (enc x.toNat, true)) := hpx
          have HE : Hid (encRes (putN x) = .tuple #[.string ⟨(enc x.toNat).toArray⟩, .int .i64 0]) := by rw [hpx]; rfl
          clear hpx
          go_wp2_with fail
          refine (refPut_any _).mono ?_
          rintro e w4 ⟨v4, rfl, ho4, d4⟩
          rw [HX.out] at ho4 ⊢
          go_wp2_with fail
          refine (number_codec _).mono ?_
          rintro e w5 ⟨rfl, d5⟩
          go_wp2_with fail
          refine (encodeN _ _ _).mono ?_
          rintro e w6 ⟨he, d6⟩
          rw [HE.out] at he
          subst he
          have d46 := on d5 d6
          have ho6 := ownsRow_below ho4 d46
          have b6 := on (on hb d4) d46
          have hrow6 := ownsRow_below ho (on d4 d46)
          have hz6 := b6.size
          obtain ⟨a9, c9, rfl⟩ := ownsRow_form ho6
          have hcv := conv_bytes ho6
          have hv6 := vals_row (val := valB) valB_one (base := wr.heap.size) (E := 5) ho6
          clear d4 d5 d6 d46 ho4 ho6
          go_wp2_with (refine wpList_append_vals valB_one info5 rfl Try.underlying24 _ rfl (.tmp 73) (.tmp 74) rfl w.heap.size u5 _ _ rfl hrow6 _ _ rfl hv6 Hm1.out Hm2.out hz6 ?_; intro v7 w7 ho7 hg7 hl7)
          have b7 := b6.grown hg7 hz6 (fun k hk => (hrow6.lt k hk).1)
          go_roundw
          case rel =>
            refine ⟨j + 1, by omega, by go_num, ?_, ?_, b7⟩
            · rw [Htk.out, allOk_snoc, HX.out]
              congr 1
              have := HT.out; simp only [Bool.and_true]; exact this.symm
            · rw [Htk.out, gath_snoc, HX.out, ← List.append_assoc]
              simpa [Lib.byteCells, valB_eq, List.length_append, Nat.add_assoc] using ho7
          case measure => simp [intOf]; omega
        · have HX : Hid (putN x = ([], false)) := hpx
          have HE : Hid (encRes (putN x) = .tuple #[.string ⟨#[]⟩, .int .i64 22]) := by rw [hpx]; rfl
          clear hpx
          go_wp2_with fail
          refine (refPut_any _).mono ?_
          rintro e w4 ⟨v4, rfl, ho4, d4⟩
          rw [HX.out] at ho4 ⊢
          simp only [List.length_nil] at ho4
          go_wp2_with fail
          refine (number_codec _).mono ?_
          rintro e w5 ⟨rfl, d5⟩
          go_wp2_with fail
          refine (encodeN _ _ _).mono ?_
          rintro e w6 ⟨he, d6⟩
          rw [HE.out] at he
          subst he
          have d46 := on d5 d6
          have ho6 := ownsRow_below ho4 d46
          have b6 := on (on hb d4) d46
          have hrow6 := ownsRow_below ho (on d4 d46)
          have hz6 := b6.size
          obtain ⟨a9, c9, rfl⟩ := ownsRow_form ho6
          have hcv := conv_bytes (out := []) ho6
          simp only [List.length_nil] at hcv
          have hv6 : Vals valB w6 (.slice a9 0 c9) [] := vals_row (val := valB) valB_one (base := wr.heap.size) (E := 5) (l := []) ho6
          clear d4 d5 d6 d46 ho4 ho6
          go_wp2_with (refine wpList_append_vals valB_one info5 rfl Try.underlying24 _ rfl (.tmp 73) (.tmp 74) rfl w.heap.size u5 _ _ rfl hrow6 (.slice a9 0 c9) [] rfl hv6 Hn1.out Hn2.out hz6 ?_; intro v7 w7 ho7 hg7 hl7)
          have b7 := b6.grown hg7 hz6 (fun k hk => (hrow6.lt k hk).1)
          go_roundw
          case rel =>
            refine ⟨j + 1, by omega, by go_num, ?_, ?_, b7⟩
            · rw [Htk.out, allOk_snoc, HX.out]
              congr 1
              simp
            · rw [Htk.out, gath_snoc, HX.out, ← List.append_assoc]
              simpa [Lib.byteCells, valB_eq, List.length_append, Nat.add_assoc] using ho7
          case measure => simp [intOf]; omega
    · have hjeq : l.take j = l := List.take_of_length_le (by omega)
      rw [hjeq] at ho ⊢
      obtain ⟨G, hG⟩ : ∃ G, G = enc l.length ++ gath l := ⟨_, rfl⟩
      rw [← hG] at ho
      have HL : Hid (((putList M putN l).1.length : Int) ≤ 1099511627776) := by
        have := putList_len putN_len M l
        show _ ≤ _
        omega
      have hpa := puts_all l
      clear ho2 ho3 d2 b1 b2
      cases hT : (t && allOk l) with
      | false =>
        have HE : Hid (encRes (putList M putN l) = .tuple #[.string ⟨#[]⟩, .int .i64 22]) := by
          have : (putList M putN l).2 = false := by
            unfold putList
            split
            · rename_i hle
              rw [hpa.1]
              rw [decide_eq_true hle] at ht
              rw [← ht] at hT
              simpa using hT
            · rfl
          simp [Hid, encRes, this]
        clear hT hpa hjeq
        go_wp2_with fail
        refine (number_codec _).mono ?_
        rintro e w4 ⟨rfl, d4⟩
        go_wp2_with fail
        refine (list_madeInt _ _ _ _).mono ?_
        rintro e w5 ⟨mb, cb, rfl, c5, d5⟩
        rw [HM.out] at c5
        have d45 := on d4 d5
        have b5 := on hb d45
        have l5 := (hli.below b5).low
        have ho5 := ownsRow_below ho d45
        have Hm1 : Hid (0 + l.length ≤ maxLen) := by show _ ≤ maxLen; unfold maxLen; omega
        have Hm2 : Hid ((0 + l.length) * 8 ≤ 140737488355328) := by show _ ≤ _; omega
        have hbd : ∀ o, Below w5.heap.size w5 (w5.alloc o) := fun o => (Below.refl _ _).alloc (Nat.le_refl _) _
        have hp0 : ∀ o, w5.heap.size ≤ (w5.alloc o).heap.size := fun o => (hbd o).size
        clear d4 d5 d45 ho
        go_wp2_with (first
          | (refine wpList_append_vals int_one1 info3g rfl Try.underlying22 _ rfl (.tmp 81) (.tmp 82) rfl w5.heap.size _ 0 [] rfl (row_empty w5 3) _ l rfl (Vals.below l5 (hbd _)) Hm1.out Hm2.out (hp0 _) ?_; intro v6 w6 ho6 hg6 hl6; obtain ⟨d6, v6l⟩ := app_done int_one1 (hbd _) ho6 hg6; clear ho6 hg6 hl6)
          | (go_at_call 17; refine (encodeNs _ _ _ mb cb M _ l (c5.below d6) v6l.isI HL.out).mono ?_; rintro e w7 ⟨he7, d7⟩; rw [HE.out] at he7; subst he7; have d67 := on d6 d7; have ho7 := ownsRow_below ho5 d67; obtain ⟨a9, c9, hv9⟩ := ownsRow_form ho7; subst hv9; have hcv := conv_bytes ho7))
        go_ret
        exact ⟨by simp, on b5 d67⟩
      | true =>
        have HE : Hid (encRes (putList M putN l) = .tuple #[.string ⟨G.toArray⟩, .int .i64 0]) := by
          simp only [Bool.and_eq_true] at hT
          have hle : (l.length : Int) ≤ M := by
            rw [hT.1] at ht
            exact of_decide_eq_true ht
          have : putList M putN l = (enc l.length ++ gath l, true) := by
            unfold putList
            rw [if_pos hle, hpa.1, hpa.2 hT.2, hT.2]
          show encRes _ = _
          rw [this, hG]
          rfl
        clear hT hpa hjeq hG
        go_wp2_with fail
        refine (number_codec _).mono ?_
        rintro e w4 ⟨rfl, d4⟩
        go_wp2_with fail
        refine (list_madeInt _ _ _ _).mono ?_
        rintro e w5 ⟨mb, cb, rfl, c5, d5⟩
        rw [HM.out] at c5
        have d45 := on d4 d5
        have b5 := on hb d45
        have l5 := (hli.below b5).low
        have ho5 := ownsRow_below ho d45
        have Hm1 : Hid (0 + l.length ≤ maxLen) := by show _ ≤ maxLen; unfold maxLen; omega
        have Hm2 : Hid ((0 + l.length) * 8 ≤ 140737488355328) := by show _ ≤ _; omega
        have hbd : ∀ o, Below w5.heap.size w5 (w5.alloc o) := fun o => (Below.refl _ _).alloc (Nat.le_refl _) _
        have hp0 : ∀ o, w5.heap.size ≤ (w5.alloc o).heap.size := fun o => (hbd o).size
        clear d4 d5 d45 ho
        go_wp2_with (first
          | (refine wpList_append_vals int_one1 info3g rfl Try.underlying22 _ rfl (.tmp 81) (.tmp 82) rfl w5.heap.size _ 0 [] rfl (row_empty w5 3) _ l rfl (Vals.below l5 (hbd _)) Hm1.out Hm2.out (hp0 _) ?_; intro v6 w6 ho6 hg6 hl6; obtain ⟨d6, v6l⟩ := app_done int_one1 (hbd _) ho6 hg6; clear ho6 hg6 hl6)
          | (go_at_call 17; refine (encodeNs _ _ _ mb cb M _ l (c5.below d6) v6l.isI HL.out).mono ?_; rintro e w7 ⟨he7, d7⟩; rw [HE.out] at he7; subst he7; have d67 := on d6 d7; have ho7 := ownsRow_below ho5 d67; obtain ⟨a9, c9, hv9⟩ := ownsRow_form ho7; subst hv9; have hcv := conv_bytes ho7))
        go_ret
        exact ⟨by simp, on b5 d67⟩

theorem nums_walk {w : World} {v : Value} {l : List Int} (hl : IntsAt w v l) (most : Int) (hm : (Lit.int .i64 most).wf = true) : Calls Try.prog 3 #[v, .int .i64 most] w fun e w' => e = .returned (.bool true) ∧ Below w.heap.size w w' := by
  by_cases h : 5000 < (l.length : Int)
  · exact nums_long hl most h
  · exact nums_in hl most _ rfl h _ rfl

end Go.Proofs.Ytjajgllkbchapaa
