/-
  CodecReads: its walk.
-/
import Derived.Test.YtjajgllkbchapaaRdsP
import Derived.Deep.DeepCutAuto
namespace Go.Proofs.Ytjajgllkbchapaa
open Go.RowKit
set_option linter.unusedSimpArgs false
set_option linter.unusedVariables false

set_option maxRecDepth 100000 in
set_option maxHeartbeats 1000000 in
theorem reads_long (s : ByteArray) (h : 5000 < (s.size : Int)) (list most : Int) {w : World} : Calls Try.prog 4 #[.string s, .int .i64 list, .int .i64 most] w fun e w' => e = .returned (.bool true) ∧ Below w.heap.size w w' := by
  go_enter Try.func4, Try.ntmps4
  go_wp2_with fail
  refine (anchor_any _).mono ?_
  rintro e w1 ⟨rfl, b1⟩
  go_wp2_with fail
  go_ret
  exact ⟨rfl, b1⟩

set_option maxRecDepth 100000 in
set_option maxHeartbeats 8000000 in
theorem reads_in (s : ByteArray) (h : ¬ 5000 < (s.size : Int)) (list most : Int) {w : World} : Calls Try.prog 4 #[.string s, .int .i64 list, .int .i64 most] w fun e w' => e = .returned (.bool true) ∧ Below w.heap.size w w' := by
  have hs : (s.size : Int) ≤ 1099511627776 := by omega
  obtain ⟨dv, de, rv, rend, re, t, HD, HR, HT, HF⟩ := stageN s
  obtain ⟨dvF, deF, rvF, rendF, reF, re1F, t1, t2, HDF, HRF, HT1, HF1, HT2, HF2, HZ, HNZ⟩ := stageF s
  obtain ⟨ML, HML⟩ : ∃ ML, boundF list = ML := ⟨_, rfl⟩
  obtain ⟨M, HM⟩ : ∃ M, boundF most = M := ⟨_, rfl⟩
  have hM : M ≤ 1048576 := by rw [← HM]; unfold boundF; omega
  obtain ⟨dvT, rvT, deT, rendT, reT, tT, HDT, HRT, HTT, HFT⟩ := stageT s M hM
  obtain ⟨XL, HXL⟩ : ∃ XL, XL = whole (getList ML getN s.data.toList) := ⟨_, rfl⟩
  obtain ⟨XT, HXT⟩ : ∃ XT, XT = whole (getList ML (getText M) s.data.toList) := ⟨_, rfl⟩
  have HM' : Hid (boundF most = M) := HM
  have HL' : Hid (boundF list = ML) := HML
  have hMid : Hid (M ≤ 1048576) := hM
  have K1 : Hid (_ ∧ _ ∧ _ ∧ _) := ⟨HD, HR, HT, HF⟩
  have K2 : Hid (_ ∧ _ ∧ _ ∧ _ ∧ _ ∧ _ ∧ _ ∧ _) := ⟨HDF, HRF, HT1, HF1, HT2, HF2, HZ, HNZ⟩
  have K3 : Hid (_ ∧ _ ∧ _ ∧ _) := ⟨HDT, HRT, HTT, HFT⟩
  have K4 : Hid (XL = whole (getList ML getN s.data.toList)) := HXL
  have K5 : Hid (XT = whole (getList ML (getText M) s.data.toList)) := HXT
  clear HM HML hM HD HR HT HF HDF HRF HT1 HF1 HT2 HF2 HZ HNZ HDT HRT HTT HFT HXL HXT
  have e1 : (dv != dv) = false := by simp
  have e2 : (de != de) = false := by simp
  have e3 : (deF != deF) = false := by simp
  have e4 : (dvT != dvT) = false := by show (!(dvT == dvT)) = false; rw [show (dvT == dvT) = true from (by show (dvT.data == dvT.data) = true; simp)]; rfl
  have e5 : (deT != deT) = false := by simp
  obtain ⟨erL, HEL⟩ : ∃ erL, erOf XL = erL := ⟨_, rfl⟩
  obtain ⟨erT, HET⟩ : ∃ erT, erOf XT = erT := ⟨_, rfl⟩
  have K6 : Hid (erOf XL = erL) := HEL
  have K7 : Hid (erOf XT = erT) := HET
  clear HEL HET
  have e6 : (erL != erL) = false := by simp
  have e7 : (erT == erT) = true := by simp
  go_enter Try.func4, Try.ntmps4
  go_wp2_with fail
  refine (anchor_any _).mono ?_
  rintro e w1 ⟨rfl, b1⟩
  go_wp2_with fail
  refine (number_codec _).mono ?_
  rintro e w2 ⟨rfl, d2⟩
  have b2 := on b1 d2
  clear b1 d2
  go_wp2_with fail
  refine (decodeN _ _ s hs).mono ?_
  intro e w3 hd3
  obtain ⟨he3, d3⟩ := K1.out.1 _ _ _ hd3
  subst he3
  have b3 := on b2 d3
  clear b2 d3 hd3
  go_wp2_with fail
  refine (refGet_of hs K1.out.2.1).mono ?_
  rintro e w4 ⟨rfl, hw4⟩
  subst hw4
  go_upto_region 7 with fail
  go_cut [54] (fun c wx => c = .bool t ∧ wx = w4)
  case first =>
   as_aux_lemma =>
    cases t with
    | true =>
      obtain ⟨q1, q2, -, -⟩ := K1.out.2.2.1 rfl
      subst q1
      go_wp2_with fail
      go_meet
      exact ⟨rfl, rfl⟩
    | false =>
      obtain ⟨-, -, q3⟩ := K1.out.2.2.2 rfl
      by_cases q1 : re = 0
      · subst q1
        have q2 : ¬ rend < s.size := by omega
        go_wp2_with fail
        go_meet
        exact ⟨rfl, rfl⟩
      · have q1b : (re == 0) = false := by simpa using q1
        go_wp2_with fail
        go_meet
        exact ⟨rfl, rfl⟩
  case rest =>
  as_aux_lemma =>
  obtain ⟨rfl, hwc⟩ := hcut
  subst hwc
  go_upto_if 54 with fail
  go_cut [9, 11] (fun x y wx => x = .int .i64 dv ∧ y = .int .i64 de ∧ wx = wc)
  case first =>
   as_aux_lemma =>
    cases t with
    | true =>
      obtain ⟨-, -, q1, q2⟩ := K1.out.2.2.1 rfl
      subst q1 q2
      go_wp2_with fail
      go_meet
      exact ⟨rfl, rfl, rfl⟩
    | false =>
      obtain ⟨q1, q2, -⟩ := K1.out.2.2.2 rfl
      subst q1 q2
      go_wp2_with fail
      go_meet
      exact ⟨rfl, rfl, rfl⟩
  case rest =>
  as_aux_lemma =>
  obtain ⟨rfl, rfl, hwc⟩ := hcut
  subst hwc
  go_wp2_with fail
  refine (flag_codec _).mono ?_
  rintro e w5 ⟨rfl, d5⟩
  have b5 := on b3 d5
  clear b3 d5
  go_wp2_with fail
  refine (decodeF _ _ s hs).mono ?_
  intro e w6 hd6
  obtain ⟨he6, d6⟩ := K2.out.1 _ _ _ hd6
  subst he6
  have b6 := on b5 d6
  clear b5 d6 hd6
  go_wp2_with fail
  refine (refGet_of hs K2.out.2.1).mono ?_
  rintro e w7 ⟨rfl, hw7⟩
  subst hw7
  go_upto_region 13 with fail
  go_cut [80] (fun c wx => c = .bool t1 ∧ wx = w7)
  case first =>
   as_aux_lemma =>
    cases t1 with
    | true =>
      obtain ⟨q1, q2, -⟩ := K2.out.2.2.1 rfl
      subst q1
      go_wp2_with fail
      go_meet
      exact ⟨rfl, rfl⟩
    | false =>
      obtain ⟨-, q3⟩ := K2.out.2.2.2.1 rfl
      by_cases q1 : reF = 0
      · subst q1
        have q2 : ¬ 1 < rvF := by omega
        go_wp2_with fail
        go_meet
        exact ⟨rfl, rfl⟩
      · have q1b : (reF == 0) = false := by simpa using q1
        go_wp2_with fail
        go_meet
        exact ⟨rfl, rfl⟩
  case rest =>
  as_aux_lemma =>
  obtain ⟨rfl, hwc⟩ := hcut
  subst hwc
  go_upto_if 80 with fail
  go_cut [16] (fun y wx => y = .int .i64 re1F ∧ wx = wc)
  case first =>
   as_aux_lemma =>
    cases t1 with
    | true =>
      obtain ⟨-, -, q2⟩ := K2.out.2.2.1 rfl
      subst q2
      go_wp2_with fail
      go_meet
      exact ⟨rfl, rfl⟩
    | false =>
      obtain ⟨q2, -⟩ := K2.out.2.2.2.1 rfl
      subst q2
      go_wp2_with fail
      go_meet
      exact ⟨rfl, rfl⟩
  case rest =>
  as_aux_lemma =>
  obtain ⟨rfl, hwc⟩ := hcut
  subst hwc
  go_upto_region 15 with fail
  go_cut [88] (fun c wx => c = .bool t2 ∧ wx = wc)
  case first =>
   as_aux_lemma =>
    cases t2 with
    | true =>
      obtain ⟨q1, q2, -⟩ := K2.out.2.2.2.2.1 rfl
      subst q1
      go_wp2_with fail
      go_meet
      exact ⟨rfl, rfl⟩
    | false =>
      obtain ⟨-, q3⟩ := K2.out.2.2.2.2.2.1 rfl
      by_cases q1 : re1F = 0
      · subst q1
        have q2 : ¬ rendF < s.size := by omega
        go_wp2_with fail
        go_meet
        exact ⟨rfl, rfl⟩
      · have q1b : (re1F == 0) = false := by simpa using q1
        go_wp2_with fail
        go_meet
        exact ⟨rfl, rfl⟩
  case rest =>
  as_aux_lemma =>
  obtain ⟨rfl, hwc⟩ := hcut
  subst hwc
  go_upto_if 88 with fail
  go_cut [16] (fun y wx => y = .int .i64 deF ∧ wx = wc)
  case first =>
   as_aux_lemma =>
    cases t2 with
    | true =>
      obtain ⟨-, -, q2⟩ := K2.out.2.2.2.2.1 rfl
      subst q2
      go_wp2_with fail
      go_meet
      exact ⟨rfl, rfl⟩
    | false =>
      obtain ⟨q2, -⟩ := K2.out.2.2.2.2.2.1 rfl
      subst q2
      go_wp2_with fail
      go_meet
      exact ⟨rfl, rfl⟩
  case rest =>
  as_aux_lemma =>
  obtain ⟨rfl, hwc⟩ := hcut
  subst hwc
  go_upto_region 17 with fail
  go_cut [101] (fun c wx => c = .bool false ∧ wx = wc)
  case first =>
   as_aux_lemma =>
    by_cases q0 : deF = 0
    · have q1 := K2.out.2.2.2.2.2.2.1 q0
      subst q0
      clear e1 e2 e3 e4 e5 e6 e7
      by_cases q2 : rvF = 1
      · have q3 : dvF = true := by rw [q1]; exact decide_eq_true q2
        clear q1
        subst q2 q3
        go_wp2_with fail
        go_meet
        exact ⟨rfl, rfl⟩
      · have q3 : dvF = false := by rw [q1]; exact decide_eq_false q2
        have q4 : (rvF == 1) = false := by simpa using q2
        clear q1
        subst q3
        go_wp2_with fail
        go_meet
        exact ⟨rfl, rfl⟩
    · have q1 := K2.out.2.2.2.2.2.2.2 q0
      have q4 : (deF == 0) = false := by simpa using q0
      subst q1
      go_wp2_with fail
      go_meet
      exact ⟨rfl, rfl⟩
  case rest =>
  as_aux_lemma =>
  obtain ⟨rfl, hwc⟩ := hcut
  subst hwc
  clear K1 K2
  go_wp2_with fail
  refine (text_made _ _).mono ?_
  rintro e w8 ⟨tb, rfl, t8, d8⟩
  rw [HM'.out] at t8
  have b8 := on b6 d8
  clear b6 d8
  go_wp2_with fail
  refine (decodeT _ _ _ M s hs t8).mono ?_
  intro e w9 hd9
  obtain ⟨he9, d9⟩ := K3.out.1 _ _ _ hd9
  subst he9
  have b9 := on b8 d9
  clear b8 d9 hd9 t8
  go_wp2_with fail
  refine (refText_at hs HM' K3.out.2.1).mono ?_
  rintro e w10 ⟨rfl, hw10⟩
  subst hw10
  go_upto_region 21 with fail
  go_cut [123] (fun c wx => c = .bool tT ∧ wx = w10)
  case first =>
   as_aux_lemma =>
    cases tT with
    | true =>
      obtain ⟨q1, q2, -, -⟩ := K3.out.2.2.1 rfl
      subst q1
      go_wp2_with fail
      go_meet
      exact ⟨rfl, rfl⟩
    | false =>
      obtain ⟨-, -, q3⟩ := K3.out.2.2.2 rfl
      by_cases q1 : reT = 0
      · subst q1
        have q2 : ¬ rendT < s.size := by omega
        go_wp2_with fail
        go_meet
        exact ⟨rfl, rfl⟩
      · have q1b : (reT == 0) = false := by simpa using q1
        go_wp2_with fail
        go_meet
        exact ⟨rfl, rfl⟩
  case rest =>
  as_aux_lemma =>
  obtain ⟨rfl, hwc⟩ := hcut
  subst hwc
  go_upto_if 123 with fail
  go_cut [19, 21] (fun x y wx => x = .string dvT ∧ y = .int .i64 deT ∧ wx = wc)
  case first =>
   as_aux_lemma =>
    cases tT with
    | true =>
      obtain ⟨-, -, q1, q2⟩ := K3.out.2.2.1 rfl
      subst q1 q2
      go_wp2_with fail
      go_meet
      exact ⟨rfl, rfl, rfl⟩
    | false =>
      obtain ⟨q1, q2, -⟩ := K3.out.2.2.2 rfl
      subst q1 q2
      go_wp2_with fail
      go_meet
      exact ⟨rfl, rfl, rfl⟩
  case rest =>
  as_aux_lemma =>
  obtain ⟨rfl, rfl, hwc⟩ := hcut
  subst hwc
  clear K3
  go_wp2_with fail
  refine (number_codec _).mono ?_
  rintro e w11 ⟨rfl, d11⟩
  have b11 := on b9 d11
  clear b9 d11
  go_wp2_with fail
  refine (list_madeInt _ _ _ _).mono ?_
  rintro e w12 ⟨mb, cb, rfl, l12, d12⟩
  rw [HL'.out] at l12
  have b12 := on b11 d12
  clear b11 d12
  go_wp2_with fail
  refine (decodeNs' _ _ _ mb cb ML s hs l12).mono ?_
  intro e w13 hd13
  rw [← K4.out] at hd13
  obtain ⟨v13, he13, i13, d13⟩ := dec_ints hd13
  rw [K6.out] at he13
  subst he13
  have b13 := on b12 d13
  clear b12 d13 hd13 l12
  go_wp2_with fail
  refine (refNums_any s hs list ML HL').mono ?_
  intro e w14 hd14
  rw [← K4.out] at hd14
  obtain ⟨v14, he14, i14, d14⟩ := ref_ints hd14
  rw [K6.out] at he14
  subst he14
  have b14 := on b13 d14
  have i13' := i13.below d14
  clear b13 d14 hd14 i13
  go_wp2_with fail
  refine (ints_any i13' i14).mono ?_
  rintro e w15 ⟨rfl, n15, rfl⟩
  have hdd : decide ((lOf XL).map Int.ofNat = (lOf XL).map Int.ofNat) = true := by simp
  rw [hdd]
  have b15 := below_drewN b14 n15
  clear b14 i13' i14 hdd
  generalize w14.drewN n15 = w15 at *
  go_wp2_with fail
  refine (text_made _ _).mono ?_
  rintro e w16 ⟨tb2, rfl, t16, d16⟩
  rw [HM'.out] at t16
  have b16 := on b15 d16
  clear b15 d16
  go_wp2_with fail
  refine (list_madeStr _ _ _ _).mono ?_
  rintro e w17 ⟨mb2, cb2, rfl, l17, d17⟩
  rw [HL'.out] at l17
  have t17 := t16.below d17
  have b17 := on b16 d17
  clear b16 d17 t16
  go_wp2_with fail
  refine (decodeTs _ _ _ mb2 cb2 tb2 ML M s hs l17 t17).mono ?_
  intro e w18 hd18
  rw [← K5.out] at hd18
  obtain ⟨v18, he18, i18, d18⟩ := dec_texts hd18
  rw [K7.out] at he18
  subst he18
  have b18 := on b17 d18
  clear b17 d18 hd18 l17 t17
  go_wp2_with fail
  refine (refTexts_any s hs list ML most M HM' hMid.out HL').mono ?_
  intro e w19 hd19
  rw [← K5.out] at hd19
  obtain ⟨v19, he19, i19, d19⟩ := ref_texts hd19
  rw [K7.out] at he19
  subst he19
  have b19 := on b18 d19
  have i18' := i18.below d19
  clear b18 d19 hd19 i18
  go_wp2_with fail
  refine (texts_same i18' i19).mono ?_
  rintro e w20 ⟨rfl, hw20⟩
  subst hw20
  go_wp2_with fail
  go_ret
  exact ⟨rfl, b19⟩

theorem reads_walk (s : ByteArray) (hs : s.size ≤ maxLen) (list : Int) (hl : (Lit.int .i64 list).wf = true) (most : Int) (hm : (Lit.int .i64 most).wf = true) {w : World} : Calls Try.prog 4 #[.string s, .int .i64 list, .int .i64 most] w fun e w' => e = .returned (.bool true) ∧ Below w.heap.size w w' := by
  by_cases h : 5000 < (s.size : Int)
  · exact reads_long s h list most
  · exact reads_in s h list most

end Go.Proofs.Ytjajgllkbchapaa
