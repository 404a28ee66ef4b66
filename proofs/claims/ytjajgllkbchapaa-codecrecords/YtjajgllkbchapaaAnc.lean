/-
  Lists of numbers compared; the document's examples begin as it says.
-/
import Derived.Test.YtjajgllkbchapaaTop
namespace Go.Proofs.Ytjajgllkbchapaa
open Go.RowKit
set_option linter.unusedSimpArgs false
set_option linter.unusedVariables false

theorem dec_false {p : Prop} [Decidable p] (h : ¬ p) : decide p = false := by simpa using h

/-- A slice of numbers that is only read. -/
def IntsAt (w : World) (v : Value) (l : List Int) : Prop :=
  ∃ a cap, v = .slice a l.length cap ∧ (l.length : Int) ≤ 9223372036854775807 ∧
    (l ≠ [] → ∃ b off, a = some ⟨b, off, none⟩ ∧ b < w.heap.size ∧ ∀ i x, l[i]? = some x → w.cell? ⟨b, off + i, none⟩ = some (.int .i64 x))

theorem IntsAt.below {w w' : World} {v : Value} {l : List Int} (h : IntsAt w v l) (hb : Below w.heap.size w w') : IntsAt w' v l := by
  obtain ⟨a, cap, e, hl, hc⟩ := h
  refine ⟨a, cap, e, hl, fun hne => ?_⟩
  obtain ⟨b, off, ha, hlt, hcell⟩ := hc hne
  refine ⟨b, off, ha, Nat.lt_of_lt_of_le hlt hb.size, fun i n hi => ?_⟩
  rw [hb.cell (p := ⟨b, _, none⟩) hlt]
  exact hcell i n hi

set_option maxRecDepth 100000 in
set_option maxHeartbeats 2000000 in
theorem ints_any {w : World} {va vb : Value} {a b : List Int} (ha : IntsAt w va a) (hb : IntsAt w vb b) :
    Calls Try.prog 28 #[va, vb] w fun e w' => e = .returned (.bool (decide (a = b))) ∧ ∃ n, w' = w.drewN n := by
  obtain ⟨a1, cap1, rfl, hl1, hc1⟩ := ha
  obtain ⟨a2, cap2, rfl, hl2, hc2⟩ := hb
  by_cases hlen : a.length = b.length
  · have hlb : ((a.length : Int) != (b.length : Int)) = false := by simp [hlen]
    have Hlen : Hid (a.length = b.length) := hlen
    have hle : (b.length : Int) ≤ a.length := by omega
    have hge : (a.length : Int) ≤ b.length := by omega
    clear hlen
    go_enter Try.func28, Try.ntmps28
    go_wp2_with fail
    go_loopw [5] (fun i wr => ∃ k : Nat, k ≤ a.length ∧ i = .int .i64 k ∧ a.take k = b.take k ∧ ∃ n, wr = w.drewN n) (fun i _ => a.length - (intOf i).toNat)
    case atStart => exact ⟨0, Nat.zero_le _, rfl, by simp, 0, rfl⟩
    case round =>
      obtain ⟨k, hk, rfl, htk, n, rfl⟩ := hrel
      have Htk : Hid (a.take k = b.take k) := htk
      clear htk
      by_cases hlt : k < a.length
      · have hlt2 : k < b.length := by omega
        obtain ⟨x, hx⟩ : ∃ x, a[k]? = some x := ⟨a[k], by simp [hlt]⟩
        obtain ⟨y, hy⟩ : ∃ y, b[k]? = some y := ⟨b[k], by simp [hlt2]⟩
        obtain ⟨b1, o1, rfl, hb1, c1⟩ := hc1 (by rintro rfl; simp at hx)
        obtain ⟨b2, o2, rfl, hb2, c2⟩ := hc2 (by rintro rfl; simp at hy)
        have d1 := c1 k x hx
        have d2 := c2 k y hy
        have i1 : (k : Int) < (a.length : Int) := by omega
        have i2 : (k : Int) < (b.length : Int) := by omega
        have Hx : Hid (a[k]? = some x) := hx
        have Hy : Hid (b[k]? = some y) := hy
        clear c1 c2 hx hy hc1 hc2
        by_cases hxy : x = y
        · subst hxy
          go_wp2_with fail
          go_quiet (fail)
          go_wp2_with fail
          go_roundw
          case rel =>
            refine ⟨k + 1, by omega, by go_num, ?_, _, rfl⟩
            rw [List.take_add_one, List.take_add_one, Htk.out, Hx.out, Hy.out]
          case measure => simp [intOf]; omega
        · have hxy' : (x != y) = true := by simp [hxy]
          have Hne : Hid (decide (a = b) = false) := dec_false (fun e => by
            have h1 := Hx.out
            rw [e, Hy.out] at h1
            simp at h1
            exact hxy h1.symm)
          clear hxy
          go_wp2_with fail
          go_quiet (fail)
          go_wp2_with fail
          go_ret
          rw [Hne.out]
          exact ⟨rfl, n + nq, by simp [World.drewN, Nat.add_assoc]⟩
      · have He : Hid (decide (a = b) = true) := by
          have h1 := Htk.out
          rw [List.take_of_length_le (by omega), List.take_of_length_le (by have := Hlen.out; omega)] at h1
          simp [Hid, h1]
        go_wp2_with fail
        go_ret
        rw [He.out]
        exact ⟨rfl, _, rfl⟩
  · have hlb : ((a.length : Int) != (b.length : Int)) = true := by simp; omega
    have Hne : Hid (decide (a = b) = false) := dec_false (fun e => hlen (by rw [e]))
    clear hlen
    go_enter Try.func28, Try.ntmps28
    go_wp2_with fail
    go_ret
    rw [Hne.out]
    exact ⟨rfl, 0, rfl⟩

theorem Row.ints {w : World} {v : Value} {l : List Nat} {base : Nat} (h : Row isNat 3 base w v l) : IntsAt w v (l.map Int.ofNat) := by
  obtain ⟨vs, ho, h1, hr⟩ := h
  have hvl : vs.length = l.length := by simpa using ho.1
  obtain ⟨a, c, rfl⟩ := ownsRow_form ho
  have hmax : l.length ≤ maxLen := by
    rcases ho.2 with ⟨e, h⟩ | ⟨g, cap, cur, e, _, hh, h2, h3, _⟩
    · unfold maxLen; omega
    · omega
  refine ⟨a, c, by simp, by simp; unfold maxLen at hmax; omega, fun hne => ?_⟩
  rcases ho.2 with ⟨e, h⟩ | ⟨g, cap, cur, e, _, hh, h2, h3, h4, h5⟩
  · exfalso
    apply hne
    simp
    exact List.eq_nil_of_length_eq_zero h
  · have ha : a = some ⟨g, 0, none⟩ := (Value.slice.inj e).1
    subst ha
    refine ⟨g, 0, rfl, (Array.getElem?_eq_some_iff.1 hh).1, fun i x hx => ?_⟩
    simp at hx
    obtain ⟨y, hy, rfl⟩ := hx
    have hil : i < vs.length := by have := (List.getElem?_eq_some_iff.1 hy).1; omega
    obtain ⟨u, hu⟩ : ∃ u, vs[i]? = some u := ⟨vs[i], by simp [hil]⟩
    have hru := hr i u y hu hy
    unfold isNat at hru
    subst hru
    have := ho.cells (g := g) rfl i _ hu
    rw [Nat.zero_add]
    have e2 : (⟨g, 0, none⟩ : Addr).add i = ⟨g, i, none⟩ := by unfold Addr.add; split <;> simp_all
    rw [e2] at this
    exact this

theorem getN_err0 (l : List UInt8) (er : Int) (h : getN l = .error er) : er ≠ 0 := by have := getN_err h; omega
theorem many_err0 {α : Type} {g : List UInt8 → Except Int (α × List UInt8)} (hg : ∀ l er, g l = .error er → er ≠ 0) : ∀ n l er, many g n l = .error er → er ≠ 0
  | 0, l, er, h => by simp [many] at h
  | n + 1, l, er, h => by
    simp only [many] at h
    cases h1 : g l with
    | error e => rw [h1] at h; simp at h; rw [← h]; exact hg _ _ h1
    | ok x =>
      obtain ⟨a, t⟩ := x
      rw [h1] at h
      simp only at h
      cases h2 : many g n t with
      | error e => rw [h2] at h; simp at h; rw [← h]; exact many_err0 hg n t e h2
      | ok y => rw [h2] at h; simp at h
theorem getList_err0 {α : Type} {g : List UInt8 → Except Int (α × List UInt8)} (hg : ∀ l er, g l = .error er → er ≠ 0) (most : Int) (l : List UInt8) (er : Int) (h : getList most g l = .error er) : er ≠ 0 := by
  unfold getList at h
  cases hc : getC most l with
  | error e => rw [hc] at h; simp at h; have := getC_err hc; omega
  | ok x =>
    obtain ⟨n, t⟩ := x
    rw [hc] at h
    exact many_err0 hg n t er h
theorem getFlag_err0 (l : List UInt8) (er : Int) (h : getFlag l = .error er) : er ≠ 0 := by
  unfold getFlag at h
  cases hg : getN l with
  | error e => rw [hg] at h; simp at h; have := getN_err hg; omega
  | ok x =>
    obtain ⟨n, t⟩ := x
    rw [hg] at h
    simp only at h
    split at h
    · simp at h
    · simp at h; omega
theorem getText_err0 (most : Int) (l : List UInt8) (er : Int) (h : getText most l = .error er) : er ≠ 0 := by
  unfold getText at h
  cases hg : getC most l with
  | error e => rw [hg] at h; simp at h; have := getC_err hg; omega
  | ok x =>
    obtain ⟨n, t⟩ := x
    rw [hg] at h
    simp only at h
    split at h
    · simp at h
    · simp at h; omega

theorem nat_one (w : World) (v : Value) (n : Nat) (h : isNat w v n) : v.oneCell' = true := by unfold isNat at h; subst h; rfl
theorem str_one (w : World) (v : Value) (n : ByteArray) (h : isStr w v n) : v.oneCell' = true := by unfold isStr at h; subst h; rfl
theorem bool_one (w : World) (v : Value) (n : Bool) (h : isBool w v n) : v.oneCell' = true := by unfold isBool at h; subst h; rfl

/-- Encode of a number. -/
theorem encodeN (w : World) (fget : Value) (n : Int) : Calls Try.prog 15 #[.agg #[.func (.func 54) #[] #[], fget], .int .i64 n] w (encoded w (putN n)) :=
  encInt_any fun w' p _ _ h => wroteN h rfl (by
    unfold putN
    have := enc_le n.toNat
    split <;> simp <;> omega)

/-- Decode of a number. -/
theorem decodeN (w : World) (fput : Value) (s : ByteArray) (hs : (s.size : Int) ≤ 1099511627776) : Calls Try.prog 19 #[.agg #[fput, .func (.func 55) #[] #[]], .string s] w (decoded isNat (.int .i64 0) w (whole (getN s.data.toList))) :=
  decInt_any hs nat_one (stable_nat _) (stable_nat _) (stable_nat _) getN_err0 fun w' r l _ _ h => readNum h

/-- Decode of a list of numbers. -/
theorem decodeNs (w : World) (fput : Value) (mb cb : Nat) (most : Int) (s : ByteArray) (hs : (s.size : Int) ≤ 1099511627776) (hm : mb < w.heap.size) (hc : cb < w.heap.size) (h1 : w.cell? ⟨mb, 0, none⟩ = some (.int .i64 most)) (h0 : 0 ≤ most) (h3 : w.cell? ⟨cb, 1, none⟩ = some (.func (.func 55) #[] #[])) :
    Calls Try.prog 26 #[.agg #[fput, .func (.func 60) #[] #[.pointer (some ⟨mb, 0, none⟩), .pointer (some ⟨cb, 0, none⟩)]], .string s] w (decoded (Row isNat 3 0) (.slice none 0 0) w (whole (getList most getN s.data.toList))) :=
  decInts_any hs (fun _ _ _ h => h.one) (stable_row (stable_nat _) (by decide)) (stable_row (stable_nat _) (by decide)) (stable_row (stable_nat _) (by decide)) (getList_err0 getN_err0 most)
    fun w' r l hl hr h => readListInt hm hc h1 h0 h3 (fun w2 r2 l2 _ _ h2 => readNum h2) nat_one (stable_nat _) (stable_nat _) eats_N hl hr h

end Go.Proofs.Ytjajgllkbchapaa
