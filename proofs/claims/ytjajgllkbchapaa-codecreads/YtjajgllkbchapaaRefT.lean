/-
  The document's texts and lists out of bytes: GetText, Numbers, Texts.
-/
import Derived.Test.YtjajgllkbchapaaRefG
import Derived.Test.YtjajgllkbchapaaBackW
namespace Go.Proofs.Ytjajgllkbchapaa
open Go.RowKit
set_option linter.unusedSimpArgs false
set_option linter.unusedVariables false

theorem suffix_drop {s p t : List UInt8} {k : Nat} (h : s.drop k = p ++ t) : t = s.drop (s.length - t.length) := by
  have hl := congrArg List.length h
  rw [List.length_drop, List.length_append] at hl
  by_cases ht : t = []
  · rw [ht]
    simp
  · have hpos : 0 < t.length := List.length_pos_iff.2 ht
    have e : s.drop (k + p.length) = t := by
      rw [← List.drop_drop, h, List.drop_left]
    have : s.length - t.length = k + p.length := by omega
    rw [this, e]

theorem getN_rest {s : ByteArray} {k n : Nat} {t : List UInt8} (h : getN (s.data.toList.drop k) = .ok (n, t)) : t = s.data.toList.drop (s.size - t.length) ∧ t.length ≤ s.size := by
  have h1 := suffix_drop (getN_inv h).1
  refine ⟨h1, ?_⟩
  have := congrArg List.length (getN_inv h).1
  rw [List.length_drop, List.length_append] at this
  have e : s.data.toList.length = s.size := rfl
  omega

theorem getText_rest {s : ByteArray} {k : Nat} {M : Int} {b : ByteArray} {t : List UInt8} (hM : M ≤ 1048576) (h : getText M (s.data.toList.drop k) = .ok (b, t)) : t = s.data.toList.drop (s.size - t.length) ∧ t.length ≤ s.size := by
  have h2 := ((goodT M hM).inv _ _ _ h).1
  have h1 := suffix_drop h2
  refine ⟨h1, ?_⟩
  have := congrArg List.length h2
  rw [List.length_drop, List.length_append] at this
  have e : s.data.toList.length = s.size := rfl
  omega

def refGotT (s : ByteArray) (k : Nat) (x : Except Int (ByteArray × List UInt8)) : Value :=
  match x with
  | .ok (b, t) => .tuple #[.string b, .int .i64 ((s.size - t.length : Nat) : Int), .int .i64 0]
  | .error er => .tuple #[.string ⟨#[]⟩, .int .i64 k, .int .i64 er]

theorem refGet_at {w : World} {s : ByteArray} {k : Nat} (hs : (s.size : Int) ≤ 1099511627776) {x : Except Int (Nat × List UInt8)} (hx : getN (s.data.toList.drop k) = x) :
    Calls Try.prog 20 #[.string s, .int .i64 k] w fun e w' => e = .returned (refGot s k x) ∧ w' = w := by
  rw [← hx]
  exact refGet_any s k hs

set_option maxRecDepth 100000 in
set_option maxHeartbeats 1000000 in
theorem refText_any {w : World} (s : ByteArray) (k : Nat) (hs : (s.size : Int) ≤ 1099511627776) (most M : Int) (HM : Hid (boundF most = M)) (X : Except Int (ByteArray × List UInt8)) (HX : Hid (X = getText M (s.data.toList.drop k))) :
    Calls Try.prog 25 #[.string s, .int .i64 k, .int .i64 most] w fun e w' => e = .returned (refGotT s k X) ∧ w' = w := by
  cases hg : getN (s.data.toList.drop k) with
  | error er =>
    have hX : X = .error er := by rw [HX.out]; unfold getText getC; rw [hg]
    subst hX
    have her := getN_err hg
    have hne : (er != 0) = true := by simp; omega
    have Hg : Hid (getN (s.data.toList.drop k) = .error er) := hg
    clear hg HX her
    go_enter Try.func25, Try.ntmps25
    go_wp2_with fail
    refine (refGet_at hs Hg.out).mono ?_
    rintro e w1 ⟨rfl, hw1⟩
    subst hw1
    unfold refGot
    go_wp2_with fail
    go_ret3
    exact ⟨rfl, rfl⟩
  | ok y =>
    obtain ⟨n, t⟩ := y
    obtain ⟨hr1, hr2⟩ := getN_rest hg
    have Hg : Hid (getN (s.data.toList.drop k) = .ok (n, t)) := hg
    have HX2 : Hid (X = if (n : Int) ≤ M then (if n ≤ t.length then .ok (⟨(t.take n).toArray⟩, t.drop n) else .error 20) else .error 22) := by
      show X = _
      rw [HX.out]
      unfold getText getC
      rw [hg]
      simp only
      by_cases h1 : (n : Int) ≤ M
      · rw [if_pos h1, if_pos h1]
      · rw [if_neg h1, if_neg h1]
    obtain ⟨q, hq⟩ : ∃ q, q = s.size - t.length := ⟨_, rfl⟩
    have hqs : (q : Int) ≤ s.size := by omega
    have hqt : (s.size : Int) - q = t.length := by omega
    have Hqt : Hid ((s.size : Int) - q = t.length) := hqt
    have Hr : Hid (t = s.data.toList.drop q) := by rw [hq]; exact hr1
    have Hq : Hid (q = s.size - t.length) := hq
    clear hg HX hr1 hr2 hq hqt
    by_cases h1 : (n : Int) ≤ M
    · have h1' : ¬ M < (n : Int) := by omega
      by_cases h2 : n ≤ t.length
      · have h2' : ¬ (s.size : Int) - q < (n : Int) := by have := Hqt.out; omega
        have hX : X = .ok (⟨(t.take n).toArray⟩, t.drop n) := by rw [HX2.out, if_pos h1, if_pos h2]
        subst hX
        have hle : (q : Int) + n ≤ s.size := by have := Hqt.out; omega
        have hle2 : q + n ≤ s.size := by omega
        have hle3 : q ≤ q + n := by omega
        clear HX2
        go_enter Try.func25, Try.ntmps25
        go_wp2_with fail
        refine (refGet_at hs Hg.out).mono ?_
        rintro e w1 ⟨rfl, hw1⟩
        subst hw1
        unfold refGot
        simp only [← Hq.out]
        go_wp2_with fail
        refine (refBound _ _).mono ?_
        rintro e w2 ⟨he, hw2⟩
        rw [HM.out] at he
        subst he hw2
        go_wp2_with fail
        go_ret3
        refine ⟨?_, rfl⟩
        show Ending.returned (.tuple #[.string (s.extract q (q + n)), .int .i64 ((q : Int) + n), .int .i64 0]) = _
        unfold refGotT
        have ea : s.extract q (q + n) = ⟨(t.take n).toArray⟩ := by
          apply ByteArray.ext
          apply Array.ext'
          rw [Lib.extract_data, Hr.out]
          simp
        have eb : (q : Int) + n = ((s.size - (t.drop n).length : Nat) : Int) := by
          rw [List.length_drop]
          have := Hqt.out
          omega
        rw [ea, eb]
      · have h2' : (s.size : Int) - q < (n : Int) := by have := Hqt.out; omega
        have hX : X = .error 20 := by rw [HX2.out, if_pos h1, if_neg h2]
        subst hX
        clear HX2
        go_enter Try.func25, Try.ntmps25
        go_wp2_with fail
        refine (refGet_at hs Hg.out).mono ?_
        rintro e w1 ⟨rfl, hw1⟩
        subst hw1
        unfold refGot
        simp only [← Hq.out]
        go_wp2_with fail
        refine (refBound _ _).mono ?_
        rintro e w2 ⟨he, hw2⟩
        rw [HM.out] at he
        subst he hw2
        go_wp2_with fail
        go_ret3
        exact ⟨rfl, rfl⟩
    · have h1' : M < (n : Int) := by omega
      have hX : X = .error 22 := by rw [HX2.out, if_neg h1]
      subst hX
      clear HX2
      go_enter Try.func25, Try.ntmps25
      go_wp2_with fail
      refine (refGet_at hs Hg.out).mono ?_
      rintro e w1 ⟨rfl, hw1⟩
      subst hw1
      unfold refGot
      go_wp2_with fail
      refine (refBound _ _).mono ?_
      rintro e w2 ⟨he, hw2⟩
      rw [HM.out] at he
      subst he hw2
      go_wp2_with fail
      go_ret3
      exact ⟨rfl, rfl⟩

/-- What the document's lists tell. -/
def refListed {α : Type} (val : α → Value) (w : World) (x : Except Int (List α)) (e : Ending) (w' : World) : Prop :=
  (match x with
   | .ok l => ∃ v, e = .returned (.tuple #[v, .int .i64 0]) ∧ Vals val w' v l
   | .error er => e = .returned (.tuple #[.slice none 0 0, .int .i64 er])) ∧ Below w.heap.size w w'

def valN (n : Nat) : Value := .int .i64 (n : Int)
theorem valN_one (n : Nat) : (valN n).oneCell' = true := rfl

set_option maxRecDepth 100000 in
set_option maxHeartbeats 4000000 in
theorem refNums_any {w : World} (s : ByteArray) (hs : (s.size : Int) ≤ 1099511627776) (list ML : Int) (HL : Hid (boundF list = ML)) :
    Calls Try.prog 27 #[.string s, .int .i64 list] w (refListed valN w (whole (getList ML getN s.data.toList))) := by
  obtain ⟨X, hX⟩ : ∃ X, X = getList ML getN s.data.toList := ⟨_, rfl⟩
  rw [← hX]
  cases hg : getN (s.data.toList.drop 0) with
  | error er =>
    have hXe : X = .error er := by rw [hX]; unfold getList getC; rw [List.drop_zero] at hg; rw [hg]
    have her := getN_err hg
    have hne : (er != 0) = true := by simp; omega
    have Hg : Hid (getN (s.data.toList.drop 0) = .error er) := hg
    have HXe : Hid (X = .error er) := hXe
    clear hg hX hXe her
    go_enter Try.func27, Try.ntmps27
    go_wp2_with fail
    refine (refGet_at (k := 0) hs Hg.out).mono ?_
    rintro e w1 ⟨rfl, hw1⟩
    subst hw1
    unfold refGot
    go_wp2_with fail
    go_ret2
    rw [HXe.out]
    exact ⟨rfl, Below.refl _ _⟩
  | ok y =>
    obtain ⟨n, t⟩ := y
    obtain ⟨hr1, hr2⟩ := getN_rest hg
    have hsuf := getN_suffix hg
    rw [List.drop_zero] at hsuf
    have Hg : Hid (getN (s.data.toList.drop 0) = .ok (n, t)) := hg
    have HX2 : Hid (X = if (n : Int) ≤ ML then many getN n t else .error 22) := by
      show X = _
      rw [hX]
      unfold getList getC
      rw [List.drop_zero] at hg
      rw [hg]
      simp only
      by_cases h1 : (n : Int) ≤ ML
      · rw [if_pos h1, if_pos h1]
      · rw [if_neg h1, if_neg h1]
    obtain ⟨q, hq⟩ : ∃ q, q = s.size - t.length := ⟨_, rfl⟩
    have Hq : Hid (q = s.size - t.length) := hq
    have Hr : Hid (t = s.data.toList.drop q) := by rw [hq]; exact hr1
    have hqs : q ≤ s.size := by omega
    have hslen : s.data.toList.length = s.size := rfl
    have htl : (t.length : Int) ≤ 1099511627776 := by omega
    clear hg hX hr1 hr2 hq hsuf hslen
    by_cases h1 : (n : Int) ≤ ML
    · have h1' : ¬ ML < (n : Int) := by omega
      have HX3 : Hid (X = pre [] (many getN n t)) := by show X = _; rw [HX2.out, if_pos h1, pre_nil]
      clear HX2
      go_enter Try.func27, Try.ntmps27
      go_wp2_with fail
      refine (refGet_at (k := 0) hs Hg.out).mono ?_
      rintro e w1 ⟨rfl, hw1⟩
      subst hw1
      unfold refGot
      simp only [← Hq.out]
      go_wp2_with fail
      refine (refBound _ _).mono ?_
      rintro e w2 ⟨he, hw2⟩
      rw [HL.out] at he
      subst he hw2
      go_wp2_with fail
      go_loopw [7, 9, 10] (fun p o i wr => ∃ (acc : List Nat) (k : Nat), i = .int .i64 acc.length ∧ acc.length ≤ n ∧ p = .int .i64 k ∧ k ≤ s.size ∧ wr.ownsRow w2.heap.size 3 1 o acc.length (acc.map valN) ∧ acc.length + (s.data.toList.drop k).length ≤ t.length ∧ X = pre acc (many getN (n - acc.length) (s.data.toList.drop k)) ∧ Below w2.heap.size w2 wr) (fun _ _ i _ => n - (intOf i).toNat)
      case atStart => exact ⟨[], q, rfl, Nat.zero_le _, rfl, hqs, World.ownsRow_nil _ _ _ _, by rw [← Hr.out]; simp, by rw [← Hr.out]; exact HX3.out, Below.refl _ _⟩
      case round =>
        clear HX3
        obtain ⟨acc, k, rfl, hacc, rfl, hks, ho, hsum, hX4, hb⟩ := hrel
        have HX4 : Hid (X = pre acc (many getN (n - acc.length) (s.data.toList.drop k))) := hX4
        have Hsum : Hid (acc.length + (s.data.toList.drop k).length ≤ t.length) := hsum
        clear hX4 hsum
        have hacc2 : (acc.length : Int) ≤ 1099511627776 := by have := Hsum.out; omega
        by_cases hn : acc.length < n
        · cases hga : getN (s.data.toList.drop k) with
          | error er =>
            have hXe : X = .error er := by
              have hh := HX4.out
              rw [show n - acc.length = (n - acc.length - 1) + 1 from by omega, pre_bad getN acc _ _ er hga] at hh
              exact hh
            have her : er ≠ 0 := getN_err0 _ _ hga
            have hne : (er != 0) = true := by simpa using her
            have HXe : Hid (X = .error er) := hXe
            have HGA : Hid (getN (s.data.toList.drop k) = .error er) := hga
            clear hga hXe her
            go_wp2_with fail
            refine (refGet_at hs HGA.out).mono ?_
            rintro e w3 ⟨rfl, hw3⟩
            subst hw3
            unfold refGot
            go_wp2_with fail
            go_ret2
            rw [HXe.out]
            exact ⟨rfl, hb⟩
          | ok y =>
            obtain ⟨a, t2⟩ := y
            obtain ⟨hs1, hs2⟩ := getN_rest hga
            have heat := eats_N _ _ _ hga
            have HX5 : Hid (X = pre (acc ++ [a]) (many getN (n - (acc ++ [a]).length) t2)) := by
              have hh := HX4.out
              rw [show n - acc.length = (n - (acc ++ [a]).length) + 1 from by simp; omega, pre_many getN acc _ _ t2 a hga] at hh
              exact hh
            have HGA : Hid (getN (s.data.toList.drop k) = .ok (a, t2)) := hga
            obtain ⟨q2, hq2⟩ : ∃ q2, q2 = s.size - t2.length := ⟨_, rfl⟩
            have Hq2 : Hid (q2 = s.size - t2.length) := hq2
            have Hr2 : Hid (t2 = s.data.toList.drop q2) := by rw [hq2]; exact hs1
            have hq2s : q2 ≤ s.size := by omega
            have Hheat : Hid (t2.length + 1 ≤ (s.data.toList.drop k).length) := heat
            clear hga hs1 hs2 hq2 heat
            obtain ⟨i0, hi, hz0, hz1, hz2⟩ := info_parts info3g
            have Hm1 : Hid (acc.length + 1 ≤ maxLen) := by show _ ≤ maxLen; unfold maxLen; omega
            have Hm2 : Hid ((acc.length + 1) * 8 ≤ 140737488355328) := by show _ ≤ _; omega
            have hone : ∀ u ∈ [valN a], u.oneCell' = true := by intro u hu; simp at hu; subst hu; rfl
            have hp0 : w2.heap.size ≤ (wr.alloc (.cells #[valN a] 3)).heap.size := by have := hb.size; simp; omega
            have hrb := hb.size
            go_wp2_with fail
            refine (refGet_at hs HGA.out).mono ?_
            rintro e w3 ⟨rfl, hw3⟩
            subst hw3
            unfold refGot
            simp only [← Hq2.out]
            go_wp2_with (refine wpList_append_own_at _ rfl (.tmp 43) (.tmp 45) 22 rfl w2.heap.size 3 i0 (.int .i64 0) 1 8 Try.underlying22 hi hz0 hz1 hz2 rfl Nat.one_pos _ acc.length _ rfl (ho.alloc _) ⟨w3.heap.size, 0, none⟩ 1 1 [valN a] rfl rfl (cell_one_new _ _ _) hone Hm1.out Hm2.out hp0 ?_; intro v7 w7 ho7 hg7 hnil7 hl7)
            have b7 := (hb.alloc hrb (.cells #[valN a] 3)).grown hg7 hp0 (fun k hk => (ho.lt k hk).1)
            go_roundw
            case rel =>
              refine ⟨acc ++ [a], q2, by simp, by simp; omega, rfl, hq2s, by simpa using ho7, ?_, by rw [← Hr2.out]; exact HX5.out, b7⟩
              rw [← Hr2.out]
              have := Hheat.out
              have := Hsum.out
              simp
              omega
            case measure => simp [intOf]; omega
        · have HX5 : Hid (X = .ok (acc, s.data.toList.drop k)) := by
            have hh := HX4.out
            rw [show n - acc.length = 0 from by omega] at hh
            simpa [many, pre, Hid] using hh
          have hslen : s.data.toList.length = s.size := rfl
          have hv := vals_row (val := valN) valN_one (base := w2.heap.size) (E := 3) ho
          by_cases hmore : (k : Int) < s.size
          · have HW : Hid (whole X = .error 21) := by
              rw [HX5.out]
              have : s.data.toList.drop k ≠ [] := fun e => by have := List.drop_eq_nil_iff.1 e; omega
              cases hd : s.data.toList.drop k with
              | nil => exact absurd hd this
              | cons b r => rfl
            clear HX4 HX5 hslen
            go_wp2_with fail
            go_ret2
            rw [HW.out]
            exact ⟨rfl, hb⟩
          · have HW : Hid (whole X = .ok acc) := by
              rw [HX5.out, List.drop_of_length_le (by omega)]
              rfl
            clear HX4 HX5 hslen
            go_wp2_with fail
            go_ret2
            rw [HW.out]
            exact ⟨⟨_, rfl, hv⟩, hb⟩
    · have h1' : ML < (n : Int) := by omega
      have HXe : Hid (X = .error 22) := by show X = _; rw [HX2.out, if_neg h1]
      clear HX2
      go_enter Try.func27, Try.ntmps27
      go_wp2_with fail
      refine (refGet_at (k := 0) hs Hg.out).mono ?_
      rintro e w1 ⟨rfl, hw1⟩
      subst hw1
      unfold refGot
      go_wp2_with fail
      refine (refBound _ _).mono ?_
      rintro e w2 ⟨he, hw2⟩
      rw [HL.out] at he
      subst he hw2
      go_wp2_with fail
      go_ret2
      rw [HXe.out]
      exact ⟨rfl, Below.refl _ _⟩

set_option maxRecDepth 100000 in
set_option maxHeartbeats 4000000 in
theorem refTexts_any {w : World} (s : ByteArray) (hs : (s.size : Int) ≤ 1099511627776) (list ML : Int) (most MT : Int) (HM : Hid (boundF most = MT)) (hMT : MT ≤ 1048576) (HL : Hid (boundF list = ML)) :
    Calls Try.prog 31 #[.string s, .int .i64 list, .int .i64 most] w (refListed Value.string w (whole (getList ML (getText MT) s.data.toList))) := by
  obtain ⟨X, hX⟩ : ∃ X, X = getList ML (getText MT) s.data.toList := ⟨_, rfl⟩
  rw [← hX]
  cases hg : getN (s.data.toList.drop 0) with
  | error er =>
    have hXe : X = .error er := by rw [hX]; unfold getList getC; rw [List.drop_zero] at hg; rw [hg]
    have her := getN_err hg
    have hne : (er != 0) = true := by simp; omega
    have Hg : Hid (getN (s.data.toList.drop 0) = .error er) := hg
    have HXe : Hid (X = .error er) := hXe
    clear hg hX hXe her
    go_enter Try.func31, Try.ntmps31
    go_wp2_with fail
    refine (refGet_at (k := 0) hs Hg.out).mono ?_
    rintro e w1 ⟨rfl, hw1⟩
    subst hw1
    unfold refGot
    go_wp2_with fail
    go_ret2
    rw [HXe.out]
    exact ⟨rfl, Below.refl _ _⟩
  | ok y =>
    obtain ⟨n, t⟩ := y
    obtain ⟨hr1, hr2⟩ := getN_rest hg
    have hsuf := getN_suffix hg
    rw [List.drop_zero] at hsuf
    have Hg : Hid (getN (s.data.toList.drop 0) = .ok (n, t)) := hg
    have HX2 : Hid (X = if (n : Int) ≤ ML then many (getText MT) n t else .error 22) := by
      show X = _
      rw [hX]
      unfold getList getC
      rw [List.drop_zero] at hg
      rw [hg]
      simp only
      by_cases h1 : (n : Int) ≤ ML
      · rw [if_pos h1, if_pos h1]
      · rw [if_neg h1, if_neg h1]
    obtain ⟨q, hq⟩ : ∃ q, q = s.size - t.length := ⟨_, rfl⟩
    have Hq : Hid (q = s.size - t.length) := hq
    have Hr : Hid (t = s.data.toList.drop q) := by rw [hq]; exact hr1
    have hqs : q ≤ s.size := by omega
    have hslen : s.data.toList.length = s.size := rfl
    have htl : (t.length : Int) ≤ 1099511627776 := by omega
    clear hg hX hr1 hr2 hq hsuf hslen
    by_cases h1 : (n : Int) ≤ ML
    · have h1' : ¬ ML < (n : Int) := by omega
      have HX3 : Hid (X = pre [] (many (getText MT) n t)) := by show X = _; rw [HX2.out, if_pos h1, pre_nil]
      clear HX2
      go_enter Try.func31, Try.ntmps31
      go_wp2_with fail
      refine (refGet_at (k := 0) hs Hg.out).mono ?_
      rintro e w1 ⟨rfl, hw1⟩
      subst hw1
      unfold refGot
      simp only [← Hq.out]
      go_wp2_with fail
      refine (refBound _ _).mono ?_
      rintro e w2 ⟨he, hw2⟩
      rw [HL.out] at he
      subst he hw2
      go_wp2_with fail
      go_loopw [9, 11, 12] (fun p o i wr => ∃ (acc : List ByteArray) (k : Nat), i = .int .i64 acc.length ∧ acc.length ≤ n ∧ p = .int .i64 k ∧ k ≤ s.size ∧ wr.ownsRow w2.heap.size 9 1 o acc.length (acc.map Value.string) ∧ acc.length + (s.data.toList.drop k).length ≤ t.length ∧ X = pre acc (many (getText MT) (n - acc.length) (s.data.toList.drop k)) ∧ Below w2.heap.size w2 wr) (fun _ _ i _ => n - (intOf i).toNat)
      case atStart => exact ⟨[], q, rfl, Nat.zero_le _, rfl, hqs, World.ownsRow_nil _ _ _ _, by rw [← Hr.out]; simp, by rw [← Hr.out]; exact HX3.out, Below.refl _ _⟩
      case round =>
        clear HX3
        obtain ⟨acc, k, rfl, hacc, rfl, hks, ho, hsum, hX4, hb⟩ := hrel
        have HX4 : Hid (X = pre acc (many (getText MT) (n - acc.length) (s.data.toList.drop k))) := hX4
        have Hsum : Hid (acc.length + (s.data.toList.drop k).length ≤ t.length) := hsum
        clear hX4 hsum
        have hacc2 : (acc.length : Int) ≤ 1099511627776 := by have := Hsum.out; omega
        by_cases hn : acc.length < n
        · cases hga : (getText MT) (s.data.toList.drop k) with
          | error er =>
            have hXe : X = .error er := by
              have hh := HX4.out
              rw [show n - acc.length = (n - acc.length - 1) + 1 from by omega, pre_bad (getText MT) acc _ _ er hga] at hh
              exact hh
            have her : er ≠ 0 := (getText_err0 MT) _ _ hga
            have hne : (er != 0) = true := by simpa using her
            have HXe : Hid (X = .error er) := hXe
            have HGA : Hid ((getText MT) (s.data.toList.drop k) = .error er) := hga
            clear hga hXe her
            go_wp2_with fail
            refine (refText_any s k hs most MT HM _ HGA.out.symm).mono ?_
            rintro e w3 ⟨rfl, hw3⟩
            subst hw3
            unfold refGotT
            go_wp2_with fail
            go_ret2
            rw [HXe.out]
            exact ⟨rfl, hb⟩
          | ok y =>
            obtain ⟨a, t2⟩ := y
            obtain ⟨hs1, hs2⟩ := (getText_rest hMT) hga
            have heat := (eats_text MT) _ _ _ hga
            have HX5 : Hid (X = pre (acc ++ [a]) (many (getText MT) (n - (acc ++ [a]).length) t2)) := by
              have hh := HX4.out
              rw [show n - acc.length = (n - (acc ++ [a]).length) + 1 from by simp; omega, pre_many (getText MT) acc _ _ t2 a hga] at hh
              exact hh
            have HGA : Hid ((getText MT) (s.data.toList.drop k) = .ok (a, t2)) := hga
            obtain ⟨q2, hq2⟩ : ∃ q2, q2 = s.size - t2.length := ⟨_, rfl⟩
            have Hq2 : Hid (q2 = s.size - t2.length) := hq2
            have Hr2 : Hid (t2 = s.data.toList.drop q2) := by rw [hq2]; exact hs1
            have hq2s : q2 ≤ s.size := by omega
            have Hheat : Hid (t2.length + 1 ≤ (s.data.toList.drop k).length) := heat
            clear hga hs1 hs2 hq2 heat
            obtain ⟨i0, hi, hz0, hz1, hz2⟩ := info_parts info9g
            have Hm1 : Hid (acc.length + 1 ≤ maxLen) := by show _ ≤ maxLen; unfold maxLen; omega
            have Hm2 : Hid ((acc.length + 1) * 16 ≤ 140737488355328) := by show _ ≤ _; omega
            have hone : ∀ u ∈ [Value.string a], u.oneCell' = true := by intro u hu; simp at hu; subst hu; rfl
            have hp0 : w2.heap.size ≤ (wr.alloc (.cells #[Value.string a] 9)).heap.size := by have := hb.size; simp; omega
            have hrb := hb.size
            go_wp2_with fail
            refine (refText_any s k hs most MT HM _ HGA.out.symm).mono ?_
            rintro e w3 ⟨rfl, hw3⟩
            subst hw3
            unfold refGotT
            simp only [← Hq2.out]
            go_wp2_with (refine wpList_append_own_at _ rfl (.tmp 46) (.tmp 48) 67 rfl w2.heap.size 9 i0 (.string ⟨#[]⟩) 1 16 Try.underlying67 hi hz0 hz1 hz2 rfl Nat.one_pos _ acc.length _ rfl (ho.alloc _) ⟨w3.heap.size, 0, none⟩ 1 1 [Value.string a] rfl rfl (cell_one_new _ _ _) hone Hm1.out Hm2.out hp0 ?_; intro v7 w7 ho7 hg7 hnil7 hl7)
            have b7 := (hb.alloc hrb (.cells #[Value.string a] 9)).grown hg7 hp0 (fun k hk => (ho.lt k hk).1)
            go_roundw
            case rel =>
              refine ⟨acc ++ [a], q2, by simp, by simp; omega, rfl, hq2s, by simpa using ho7, ?_, by rw [← Hr2.out]; exact HX5.out, b7⟩
              rw [← Hr2.out]
              have := Hheat.out
              have := Hsum.out
              simp
              omega
            case measure => simp [intOf]; omega
        · have HX5 : Hid (X = .ok (acc, s.data.toList.drop k)) := by
            have hh := HX4.out
            rw [show n - acc.length = 0 from by omega] at hh
            simpa [many, pre, Hid] using hh
          have hslen : s.data.toList.length = s.size := rfl
          have hv := vals_row (val := Value.string) str_one1 (base := w2.heap.size) (E := 9) ho
          by_cases hmore : (k : Int) < s.size
          · have HW : Hid (whole X = .error 21) := by
              rw [HX5.out]
              have : s.data.toList.drop k ≠ [] := fun e => by have := List.drop_eq_nil_iff.1 e; omega
              cases hd : s.data.toList.drop k with
              | nil => exact absurd hd this
              | cons b r => rfl
            clear HX4 HX5 hslen
            go_wp2_with fail
            go_ret2
            rw [HW.out]
            exact ⟨rfl, hb⟩
          · have HW : Hid (whole X = .ok acc) := by
              rw [HX5.out, List.drop_of_length_le (by omega)]
              rfl
            clear HX4 HX5 hslen
            go_wp2_with fail
            go_ret2
            rw [HW.out]
            exact ⟨⟨_, rfl, hv⟩, hb⟩
    · have h1' : ML < (n : Int) := by omega
      have HXe : Hid (X = .error 22) := by show X = _; rw [HX2.out, if_neg h1]
      clear HX2
      go_enter Try.func31, Try.ntmps31
      go_wp2_with fail
      refine (refGet_at (k := 0) hs Hg.out).mono ?_
      rintro e w1 ⟨rfl, hw1⟩
      subst hw1
      unfold refGot
      go_wp2_with fail
      refine (refBound _ _).mono ?_
      rintro e w2 ⟨he, hw2⟩
      rw [HL.out] at he
      subst he hw2
      go_wp2_with fail
      go_ret2
      rw [HXe.out]
      exact ⟨rfl, Below.refl _ _⟩

end Go.Proofs.Ytjajgllkbchapaa
