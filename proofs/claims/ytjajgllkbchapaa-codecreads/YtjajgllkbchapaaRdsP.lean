/-
  CodecReads: what each of its readers and the document's answer, side by side.
-/
import Derived.Test.YtjajgllkbchapaaRefT
namespace Go.Proofs.Ytjajgllkbchapaa
open Go.RowKit
set_option linter.unusedSimpArgs false
set_option linter.unusedVariables false

theorem stageN (s : ByteArray) : ∃ (dv de rv rend re : Int) (t : Bool),
    (∀ w e w', decoded isNat (.int .i64 0) w (whole (getN s.data.toList)) e w' → e = .returned (.tuple #[.int .i64 dv, .int .i64 de]) ∧ Below w.heap.size w w') ∧
    refGot s 0 (getN (s.data.toList.drop 0)) = .tuple #[.int .i64 rv, .int .i64 rend, .int .i64 re] ∧
    (t = true → re = 0 ∧ rend < s.size ∧ dv = 0 ∧ de = 21) ∧ (t = false → dv = rv ∧ de = re ∧ (re ≠ 0 ∨ ¬ rend < s.size)) := by
  rw [List.drop_zero]
  cases h : getN s.data.toList with
  | error er =>
    refine ⟨0, er, 0, 0, er, false, fun w e w' hd => ?_, rfl, by simp, fun _ => ⟨rfl, rfl, .inl (getN_err0 _ _ h)⟩⟩
    exact hd
  | ok y =>
    obtain ⟨n, t⟩ := y
    have hr := (getN_rest (k := 0) (by rw [List.drop_zero]; exact h)).2
    cases t with
    | nil =>
      refine ⟨n, 0, n, ((s.size - ([] : List UInt8).length : Nat) : Int), 0, false, fun w e w' hd => ?_, rfl, by simp, fun _ => ⟨rfl, rfl, .inr (by simp)⟩⟩
      obtain ⟨⟨v, rfl, hv⟩, hb⟩ := hd
      have hv' : v = .int .i64 n := hv
      subst hv'
      exact ⟨rfl, hb⟩
    | cons b r =>
      refine ⟨0, 21, n, ((s.size - (b :: r).length : Nat) : Int), 0, true, fun w e w' hd => ?_, rfl, fun _ => ⟨rfl, ?_, rfl, rfl⟩, by simp⟩
      · exact hd
      · simp at hr ⊢
        omega

theorem stageT (s : ByteArray) (M : Int) (hM : M ≤ 1048576) : ∃ (dv rv : ByteArray) (de rend re : Int) (t : Bool),
    (∀ w e w', decoded isStr (.string ⟨#[]⟩) w (whole (getText M s.data.toList)) e w' → e = .returned (.tuple #[.string dv, .int .i64 de]) ∧ Below w.heap.size w w') ∧
    refGotT s 0 (getText M (s.data.toList.drop 0)) = .tuple #[.string rv, .int .i64 rend, .int .i64 re] ∧
    (t = true → re = 0 ∧ rend < s.size ∧ dv = ⟨#[]⟩ ∧ de = 21) ∧ (t = false → dv = rv ∧ de = re ∧ (re ≠ 0 ∨ ¬ rend < s.size)) := by
  rw [List.drop_zero]
  cases h : getText M s.data.toList with
  | error er =>
    refine ⟨⟨#[]⟩, ⟨#[]⟩, er, 0, er, false, fun w e w' hd => ?_, rfl, by simp, fun _ => ⟨rfl, rfl, .inl (getText_err0 M _ _ h)⟩⟩
    exact hd
  | ok y =>
    obtain ⟨n, t⟩ := y
    have hr := (getText_rest (k := 0) hM (by rw [List.drop_zero]; exact h)).2
    cases t with
    | nil =>
      refine ⟨n, n, 0, ((s.size - ([] : List UInt8).length : Nat) : Int), 0, false, fun w e w' hd => ?_, rfl, by simp, fun _ => ⟨rfl, rfl, .inr (by simp)⟩⟩
      obtain ⟨⟨v, rfl, hv⟩, hb⟩ := hd
      have hv' : v = .string n := hv
      subst hv'
      exact ⟨rfl, hb⟩
    | cons b r =>
      refine ⟨⟨#[]⟩, n, 21, ((s.size - (b :: r).length : Nat) : Int), 0, true, fun w e w' hd => ?_, rfl, fun _ => ⟨rfl, ?_, rfl, rfl⟩, by simp⟩
      · exact hd
      · simp at hr ⊢
        omega

theorem stageF (s : ByteArray) : ∃ (dv : Bool) (de rv rend re re1 : Int) (t1 t2 : Bool),
    (∀ w e w', decoded isBool (.bool false) w (whole (getFlag s.data.toList)) e w' → e = .returned (.tuple #[.bool dv, .int .i64 de]) ∧ Below w.heap.size w w') ∧
    refGot s 0 (getN (s.data.toList.drop 0)) = .tuple #[.int .i64 rv, .int .i64 rend, .int .i64 re] ∧
    (t1 = true → re = 0 ∧ 1 < rv ∧ re1 = 21) ∧ (t1 = false → re1 = re ∧ (re ≠ 0 ∨ ¬ 1 < rv)) ∧
    (t2 = true → re1 = 0 ∧ rend < s.size ∧ de = 21) ∧ (t2 = false → de = re1 ∧ (re1 ≠ 0 ∨ ¬ rend < s.size)) ∧
    (de = 0 → dv = decide (rv = 1)) ∧ (de ≠ 0 → dv = false) := by
  rw [List.drop_zero]
  unfold getFlag
  cases h : getN s.data.toList with
  | error er =>
    have h0 := getN_err0 _ _ h
    refine ⟨false, er, 0, 0, er, er, false, false, fun w e w' hd => ?_, rfl, by simp, fun _ => ⟨rfl, .inl h0⟩, by simp, fun _ => ⟨rfl, .inl h0⟩, fun hz => absurd hz h0, fun _ => rfl⟩
    exact hd
  | ok y =>
    obtain ⟨n, t⟩ := y
    have hr := (getN_rest (k := 0) (by rw [List.drop_zero]; exact h)).2
    simp only
    by_cases hn : n ≤ 1
    · rw [if_pos hn]
      cases t with
      | nil =>
        refine ⟨n == 1, 0, n, ((s.size - ([] : List UInt8).length : Nat) : Int), 0, 0, false, false, fun w e w' hd => ?_, rfl, by simp, fun _ => ⟨rfl, .inr (by omega)⟩, by simp, fun _ => ⟨rfl, .inr (by simp)⟩, fun _ => ?_, by simp⟩
        · obtain ⟨⟨v, rfl, hv⟩, hb⟩ := hd
          have hv' : v = .bool (n == 1) := hv
          subst hv'
          exact ⟨rfl, hb⟩
        · rw [Bool.eq_iff_iff]
          simp
          omega
      | cons b r =>
        refine ⟨false, 21, n, ((s.size - (b :: r).length : Nat) : Int), 0, 0, false, true, fun w e w' hd => ?_, rfl, by simp, fun _ => ⟨rfl, .inr (by omega)⟩, fun _ => ⟨rfl, ?_, rfl⟩, by simp, by simp, by simp⟩
        · exact hd
        · simp at hr ⊢
          omega
    · rw [if_neg hn]
      refine ⟨false, 21, n, ((s.size - t.length : Nat) : Int), 0, 21, true, false, fun w e w' hd => ?_, rfl, fun _ => ⟨rfl, by omega, rfl⟩, by simp, by simp, fun _ => ⟨rfl, .inl (by decide)⟩, by simp, by simp⟩
      exact hd

def lOf {α : Type} (x : Except Int (List α)) : List α := match x with | .ok l => l | .error _ => []
def erOf {α : Type} (x : Except Int (List α)) : Int := match x with | .ok _ => 0 | .error e => e

theorem nil_ints (w : World) : IntsAt w (.slice none 0 0) [] := ⟨none, 0, rfl, by simp, fun h => absurd rfl h⟩
theorem nil_vals {α : Type} (val : α → Value) (w : World) : Vals val w (.slice none 0 0) [] := ⟨none, 0, rfl, by simp, fun h => absurd rfl h⟩

theorem valsN_ints {w : World} {v : Value} {l : List Nat} (h : Vals valN w v l) : IntsAt w v (l.map Int.ofNat) := by
  obtain ⟨a, cap, e, hl, hc⟩ := h
  refine ⟨a, cap, by rw [List.length_map]; exact e, by rw [List.length_map]; exact hl, fun hne => ?_⟩
  obtain ⟨b, off, ha, hb, hx⟩ := hc (by rintro rfl; exact hne rfl)
  refine ⟨b, off, ha, hb, fun i x hi => ?_⟩
  rw [List.getElem?_map] at hi
  cases hk : l[i]? with
  | none => rw [hk] at hi; simp at hi
  | some n =>
    rw [hk] at hi
    simp at hi
    obtain ⟨u, hu, rfl⟩ := hx i n hk
    rw [hu, ← hi]
    rfl

theorem dec_ints {X : Except Int (List Nat)} {w w' : World} {e : Ending} (h : decoded (Row isNat 3 0) (.slice none 0 0) w X e w') : ∃ v, e = .returned (.tuple #[v, .int .i64 (erOf X)]) ∧ IntsAt w' v ((lOf X).map Int.ofNat) ∧ Below w.heap.size w w' := by
  obtain ⟨h, hb⟩ := h
  cases X with
  | ok l =>
    obtain ⟨v, rfl, hr⟩ := h
    exact ⟨v, rfl, hr.ints, hb⟩
  | error er => exact ⟨_, h, nil_ints w', hb⟩

theorem ref_ints {X : Except Int (List Nat)} {w w' : World} {e : Ending} (h : refListed valN w X e w') : ∃ v, e = .returned (.tuple #[v, .int .i64 (erOf X)]) ∧ IntsAt w' v ((lOf X).map Int.ofNat) ∧ Below w.heap.size w w' := by
  obtain ⟨h, hb⟩ := h
  cases X with
  | ok l =>
    obtain ⟨v, rfl, hr⟩ := h
    exact ⟨v, rfl, valsN_ints hr, hb⟩
  | error er => exact ⟨_, h, nil_ints w', hb⟩

theorem dec_texts {X : Except Int (List ByteArray)} {w w' : World} {e : Ending} (h : decoded (Row isStr 9 0) (.slice none 0 0) w X e w') : ∃ v, e = .returned (.tuple #[v, .int .i64 (erOf X)]) ∧ Vals Value.string w' v (lOf X) ∧ Below w.heap.size w w' := by
  obtain ⟨h, hb⟩ := h
  cases X with
  | ok l =>
    obtain ⟨v, rfl, hr⟩ := h
    exact ⟨v, rfl, hr.lowS, hb⟩
  | error er => exact ⟨_, h, nil_vals _ w', hb⟩

theorem ref_texts {X : Except Int (List ByteArray)} {w w' : World} {e : Ending} (h : refListed Value.string w X e w') : ∃ v, e = .returned (.tuple #[v, .int .i64 (erOf X)]) ∧ Vals Value.string w' v (lOf X) ∧ Below w.heap.size w w' := by
  obtain ⟨h, hb⟩ := h
  cases X with
  | ok l =>
    obtain ⟨v, rfl, hr⟩ := h
    exact ⟨v, rfl, hr, hb⟩
  | error er => exact ⟨_, h, nil_vals _ w', hb⟩

theorem refText_at {w : World} {s : ByteArray} {most M : Int} (hs : (s.size : Int) ≤ 1099511627776) (HM : Hid (boundF most = M)) {v : Value} (hv : refGotT s 0 (getText M (s.data.toList.drop 0)) = v) :
    Calls Try.prog 25 #[.string s, .int .i64 0, .int .i64 most] w fun e w' => e = .returned v ∧ w' = w := by
  rw [← hv]
  exact refText_any s 0 hs most M HM _ rfl

theorem refGet_of {w : World} {s : ByteArray} (hs : (s.size : Int) ≤ 1099511627776) {v : Value} (hv : refGot s 0 (getN (s.data.toList.drop 0)) = v) :
    Calls Try.prog 20 #[.string s, .int .i64 0] w fun e w' => e = .returned v ∧ w' = w := by
  rw [← hv]
  exact refGet_any s 0 hs

end Go.Proofs.Ytjajgllkbchapaa
