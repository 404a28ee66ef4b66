/-
  How the Reader counts and ends; how a flag and a text are read.
-/
import Derived.Test.YtjajgllkbchapaaRdB
import Derived.Test.YtjajgllkbchapaaClone
namespace Go.Proofs.Ytjajgllkbchapaa
open Go.RowKit
set_option linter.unusedSimpArgs false
set_option linter.unusedVariables false

/-- What reading ends in: a value that stands for a, with l left; or the error. -/
def got {α : Type} (rep : World → Value → α → Prop) (w : World) (r : Nat) (x : Except Int (α × List UInt8)) (e : Ending) (w' : World) : Prop :=
  match x with
  | .ok (a, l) => ∃ v, e = .returned v ∧ rep w' v a ∧ ROk w' r l ∧ w.grownBy w' (some r)
  | .error er => ∃ v, e = .returned v ∧ v.oneCell' = true ∧ er ≠ 0 ∧ RBad w' r er ∧ w.grownBy w' (some r)

def getC (most : Int) (l : List UInt8) : Except Int (Nat × List UInt8) :=
  match getN l with
  | .ok (n, t) => if (n : Int) ≤ most then .ok (n, t) else .error 22
  | .error e => .error e

def getFlag (l : List UInt8) : Except Int (Bool × List UInt8) :=
  match getN l with
  | .ok (n, t) => if n ≤ 1 then .ok (n == 1, t) else .error 21
  | .error e => .error e

def getText (most : Int) (l : List UInt8) : Except Int (ByteArray × List UInt8) :=
  match getC most l with
  | .ok (n, t) => if n ≤ t.length then .ok (⟨(t.take n).toArray⟩, t.drop n) else .error 20
  | .error e => .error e

theorem getN_err {l : List UInt8} {e : Int} (h : getN l = .error e) : e = 20 ∨ e = 21 := by
  cases l with
  | nil => simp [getN] at h; omega
  | cons b t =>
    simp only [getN] at h
    split at h
    · simp at h; omega
    · split at h
      · simp at h
      · simp at h; omega

theorem RBad.cells {w : World} {r : Nat} {e : Int} (h : RBad w r e) : w.cell? ⟨r, 2, none⟩ = some (.int .i64 e) ∧ (∀ o, w.frozen? ⟨r, o, none⟩ = false) ∧ r < w.heap.size := by
  obtain ⟨s, k, h⟩ := h
  obtain ⟨c0, c1, c2, cf, hlt⟩ := h.cells
  exact ⟨c2, cf, hlt⟩
theorem ROk.cells {w : World} {r : Nat} {l : List UInt8} (h : ROk w r l) : w.cell? ⟨r, 2, none⟩ = some (.int .i64 0) ∧ (∀ o, w.frozen? ⟨r, o, none⟩ = false) ∧ r < w.heap.size := by
  obtain ⟨s, k, h, _⟩ := h
  obtain ⟨c0, c1, c2, cf, hlt⟩ := h.cells
  exact ⟨c2, cf, hlt⟩
theorem ROk.fail {w : World} {r : Nat} {l : List UInt8} (h : ROk w r l) (x : Int) : RBad (w.setCell ⟨r, 2, none⟩ (.int .i64 x)) r x := by
  obtain ⟨s, k, h, _⟩ := h
  exact ⟨s, k, h.fail x⟩

theorem readN_ok {w : World} {r n : Nat} {l t : List UInt8} (h : ROk w r l) (hg : getN l = .ok (n, t)) :
    Calls Try.prog 55 #[.pointer (some ⟨r, 0, none⟩)] w fun e w' => e = .returned (.int .i64 n) ∧ ROk w' r t ∧ w.grownBy w' (some r) := by
  have := readN_any h
  rw [hg] at this
  exact this
theorem readN_bad {w : World} {r : Nat} {er : Int} {l : List UInt8} (h : ROk w r l) (hg : getN l = .error er) :
    Calls Try.prog 55 #[.pointer (some ⟨r, 0, none⟩)] w fun e w' => e = .returned (.int .i64 0) ∧ RBad w' r er ∧ w.grownBy w' (some r) := by
  have := readN_any h
  rw [hg] at this
  exact this

set_option maxHeartbeats 400000 in
theorem readC_any {w : World} {r : Nat} {l : List UInt8} (h : ROk w r l) (most : Int) (hm : 0 ≤ most) :
    Calls Try.prog 61 #[.pointer (some ⟨r, 0, none⟩), .int .i64 most] w (gotN w r (getC most l)) := by
  unfold getC
  cases hg : getN l with
  | error er =>
    have Hg : Hid (getN l = .error er) := hg
    clear hg
    go_enter Try.func61, Try.ntmps61
    go_wp2_with (go_at_call 55; refine (readN_bad h Hg.out).mono ?_; rintro e w1 ⟨rfl, h1, g1⟩)
    go_ret
    exact ⟨rfl, h1, g1⟩
  | ok x =>
    obtain ⟨n, t⟩ := x
    have Hg : Hid (getN l = .ok (n, t)) := hg
    clear hg
    by_cases hn : (n : Int) ≤ most
    · simp only [if_pos hn]
      have hd : ¬ most < (n : Int) := by omega
      go_enter Try.func61, Try.ntmps61
      go_wp2_with (go_at_call 55; refine (readN_ok h Hg.out).mono ?_; rintro e w1 ⟨rfl, h1, g1⟩)
      go_ret
      exact ⟨rfl, h1, g1⟩
    · simp only [if_neg hn]
      have hd : most < (n : Int) := by omega
      clear hn
      go_enter Try.func61, Try.ntmps61
      go_wp2_with (go_at_call 55; refine (readN_ok h Hg.out).mono ?_; rintro e w1 ⟨rfl, h1, g1⟩; obtain ⟨c2, cf, hlt⟩ := h1.cells)
      go_ret
      exact ⟨rfl, h1.fail 22, grown_set g1 _ _⟩

def isBool (_ : World) (v : Value) (b : Bool) : Prop := v = .bool b
def isStr (_ : World) (v : Value) (s : ByteArray) : Prop := v = .string s
def isNat (_ : World) (v : Value) (n : Nat) : Prop := v = .int .i64 n

theorem readNum {w : World} {r : Nat} {l : List UInt8} (h : ROk w r l) :
    Calls Try.prog 55 #[.pointer (some ⟨r, 0, none⟩)] w (got isNat w r (getN l)) := by
  refine (readN_any h).mono ?_
  intro e w' hh
  cases hg : getN l with
  | error er =>
    rw [hg] at hh
    exact ⟨_, hh.1, rfl, by have := getN_err hg; omega, hh.2⟩
  | ok x =>
    rw [hg] at hh
    exact ⟨_, hh.1, rfl, hh.2⟩

set_option maxHeartbeats 400000 in
theorem readFlag {w : World} {r : Nat} {l : List UInt8} (h : ROk w r l) :
    Calls Try.prog 66 #[.pointer (some ⟨r, 0, none⟩)] w (got isBool w r (getFlag l)) := by
  unfold getFlag
  cases hg : getN l with
  | error er =>
    have Hg : Hid (getN l = .error er) := hg
    clear hg
    go_enter Try.func66, Try.ntmps66
    go_wp2_with (go_at_call 55; refine (readN_bad h Hg.out).mono ?_; rintro e w1 ⟨rfl, h1, g1⟩)
    go_ret
    exact ⟨_, rfl, rfl, by have := getN_err Hg.out; omega, h1, g1⟩
  | ok x =>
    obtain ⟨n, t⟩ := x
    have Hg : Hid (getN l = .ok (n, t)) := hg
    clear hg
    by_cases hn : n ≤ 1
    · simp only [if_pos hn]
      have hd : ¬ 1 < (n : Int) := by omega
      go_enter Try.func66, Try.ntmps66
      go_wp2_with (go_at_call 55; refine (readN_ok h Hg.out).mono ?_; rintro e w1 ⟨rfl, h1, g1⟩)
      go_ret
      refine ⟨_, rfl, ?_, h1, g1⟩
      show Value.bool ((n : Int) == 1) = .bool (n == 1)
      congr 1
      rw [Bool.eq_iff_iff]
      simp
      omega
    · simp only [if_neg hn]
      have hd : 1 < (n : Int) := by omega
      clear hn
      go_enter Try.func66, Try.ntmps66
      go_wp2_with (go_at_call 55; refine (readN_ok h Hg.out).mono ?_; rintro e w1 ⟨rfl, h1, g1⟩; obtain ⟨c2, cf, hlt⟩ := h1.cells)
      go_ret
      exact ⟨_, rfl, rfl, by decide, h1.fail 21, grown_set g1 _ _⟩

theorem getC_err {most : Int} {l : List UInt8} {e : Int} (h : getC most l = .error e) : e = 20 ∨ e = 21 ∨ e = 22 := by
  unfold getC at h
  cases hg : getN l with
  | error er =>
    rw [hg] at h
    simp at h
    have := getN_err hg
    omega
  | ok x =>
    rw [hg] at h
    simp only at h
    split at h
    · simp at h
    · simp at h; omega

theorem getN_suffix {l t : List UInt8} {n : Nat} (h : getN l = .ok (n, t)) : t.length + 1 ≤ l.length := by
  cases l with
  | nil => simp [getN] at h
  | cons b r =>
    simp only [getN] at h
    split at h
    · simp at h
    · split at h
      · simp at h
        rw [← h.2]
        simp
      · simp at h

theorem getC_ok {most : Int} {l t : List UInt8} {n : Nat} (h : getC most l = .ok (n, t)) : getN l = .ok (n, t) ∧ (n : Int) ≤ most := by
  unfold getC at h
  cases hg : getN l with
  | error er => rw [hg] at h; simp at h
  | ok x =>
    obtain ⟨n', t'⟩ := x
    rw [hg] at h
    simp only at h
    split at h
    · simp at h
      obtain ⟨rfl, rfl⟩ := h
      exact ⟨rfl, by assumption⟩
    · simp at h

theorem readC_ok {w : World} {r n : Nat} {l t : List UInt8} (h : ROk w r l) (most : Int) (hm : 0 ≤ most) (hg : getC most l = .ok (n, t)) :
    Calls Try.prog 61 #[.pointer (some ⟨r, 0, none⟩), .int .i64 most] w fun e w' => e = .returned (.int .i64 n) ∧ ROk w' r t ∧ w.grownBy w' (some r) := by
  have := readC_any h most hm
  rw [hg] at this
  exact this
theorem readC_bad {w : World} {r : Nat} {er : Int} {l : List UInt8} (h : ROk w r l) (most : Int) (hm : 0 ≤ most) (hg : getC most l = .error er) :
    Calls Try.prog 61 #[.pointer (some ⟨r, 0, none⟩), .int .i64 most] w fun e w' => e = .returned (.int .i64 0) ∧ RBad w' r er ∧ w.grownBy w' (some r) := by
  have := readC_any h most hm
  rw [hg] at this
  exact this

theorem ROk.len {w : World} {r : Nat} {l : List UInt8} (h : ROk w r l) : (l.length : Int) ≤ 1099511627776 := by
  obtain ⟨s, k, h, rfl⟩ := h
  have := h.2.2
  have hl : (s.data.toList.drop k).length = s.size - k := by rw [List.length_drop]; rfl
  omega

set_option maxHeartbeats 400000 in
/-- How a text is read: mb is where its bound lies. -/
theorem readText {w : World} {r mb : Nat} {l : List UInt8} (h : ROk w r l) (most : Int) (hm0 : 0 ≤ most) (hm : w.cell? ⟨mb, 0, none⟩ = some (.int .i64 most)) :
    Calls Try.prog 70 #[.pointer (some ⟨r, 0, none⟩), .pointer (some ⟨mb, 0, none⟩)] w (got isStr w r (getText most l)) := by
  unfold getText
  cases hg : getC most l with
  | error er =>
    have Hg : Hid (getC most l = .error er) := hg
    have he : er ≠ 0 := by have := getC_err hg; omega
    have He : Hid (er ≠ 0) := he
    clear hg he
    go_enter Try.func70, Try.ntmps70
    go_wp2_with (first
      | (go_at_call 61; refine (readC_bad h most hm0 Hg.out).mono ?_; rintro e w1 ⟨rfl, h1, g1⟩)
      | (go_at_call 72; refine (take_bad h1 He.out _).mono ?_; rintro e w2 ⟨rfl, h2, g2⟩)
      | (go_at_call 71; refine (clone_any _ _ (by decide)).mono ?_; rintro e w3 ⟨rfl, hb3⟩))
    go_ret
    exact ⟨_, rfl, rfl, He.out, h2.below hb3, grown_below (g1.trans g2) hb3⟩
  | ok x =>
    obtain ⟨n, t⟩ := x
    have Hg : Hid (getC most l = .ok (n, t)) := hg
    clear hg
    have hlen := h.len
    have hsuf := getN_suffix (getC_ok Hg.out).1
    by_cases hn : n ≤ t.length
    · simp only [if_pos hn]
      have Hn : Hid (n ≤ t.length) := hn
      have Hsz : Hid ((ByteArray.mk (t.take n).toArray).size ≤ 281474976710656) := by simp [Hid, ByteArray.size]; omega
      clear hn hlen hsuf
      go_enter Try.func70, Try.ntmps70
      go_wp2_with (first
        | (go_at_call 61; refine (readC_ok h most hm0 Hg.out).mono ?_; rintro e w1 ⟨rfl, h1, g1⟩)
        | (go_at_call 72; refine (take_ok h1 n Hn.out).mono ?_; rintro e w2 ⟨rfl, h2, g2⟩)
        | (go_at_call 71; refine (clone_any _ _ Hsz.out).mono ?_; rintro e w3 ⟨rfl, hb3⟩))
      go_ret
      exact ⟨_, rfl, rfl, h2.below hb3, grown_below (g1.trans g2) hb3⟩
    · simp only [if_neg hn]
      have Hn : Hid ((t.length : Int) < n) := by show _ < _; omega
      clear hn hlen hsuf
      go_enter Try.func70, Try.ntmps70
      go_wp2_with (first
        | (go_at_call 61; refine (readC_ok h most hm0 Hg.out).mono ?_; rintro e w1 ⟨rfl, h1, g1⟩)
        | (go_at_call 72; refine (take_short h1 n Hn.out).mono ?_; rintro e w2 ⟨rfl, h2, g2⟩)
        | (go_at_call 71; refine (clone_any _ _ (by decide)).mono ?_; rintro e w3 ⟨rfl, hb3⟩))
      go_ret
      exact ⟨_, rfl, rfl, by decide, h2.below hb3, grown_below (g1.trans g2) hb3⟩

end Go.Proofs.Ytjajgllkbchapaa
