/-
  Encode and Decode at each kind of codec, as functions on lists of bytes.
-/
import Derived.Test.YtjajgllkbchapaaEnc
import Derived.Test.YtjajgllkbchapaaDec
import Derived.Test.YtjajgllkbchapaaMk
namespace Go.Proofs.Ytjajgllkbchapaa
open Go.RowKit
set_option linter.unusedSimpArgs false
set_option linter.unusedVariables false

/-- The whole of the bytes is the value, or the error. -/
def whole {α : Type} (x : Except Int (α × List UInt8)) : Except Int α :=
  match x with
  | .ok (a, []) => .ok a
  | .ok (_, _ :: _) => .error 21
  | .error e => .error e

def decoded {α : Type} (rep : World → Value → α → Prop) (z : Value) (w : World) (x : Except Int α) (e : Ending) (w' : World) : Prop :=
  (match x with
   | .ok a => ∃ v, e = .returned (.tuple #[v, .int .i64 0]) ∧ rep w' v a
   | .error er => e = .returned (.tuple #[z, .int .i64 er])) ∧ Below w.heap.size w w'

def encRes (x : List UInt8 × Bool) : Value := if x.2 then .tuple #[.string ⟨x.1.toArray⟩, .int .i64 0] else .tuple #[.string ⟨#[]⟩, .int .i64 22]

def encoded (w : World) (x : List UInt8 × Bool) (e : Ending) (w' : World) : Prop := e = .returned (encRes x) ∧ Below w.heap.size w w'

def putN (n : Int) : List UInt8 × Bool := if okN n then (enc n.toNat, true) else ([], false)
def putB (b : Bool) : List UInt8 × Bool := (enc b.toNat, true)
def putT (most : Int) (s : ByteArray) : List UInt8 × Bool := if (s.size : Int) ≤ most then (enc s.size ++ s.data.toList, true) else ([], false)

def isI (v : Value) (n : Int) : Prop := v = .int .i64 n
def isB (v : Value) (b : Bool) : Prop := v = .bool b
def isS (v : Value) (s : ByteArray) : Prop := v = .string s

theorem wroteN {w : World} {p : Nat} {bs : List UInt8} {v : Value} {n : Int} (h : WAt w p bs 0) (hv : isI v n) (hl : ((bs ++ (putN n).1).length : Int) ≤ 1099511627776) :
    Calls Try.prog 54 #[.pointer (some ⟨p, 0, none⟩), v] w (wrote w p bs (putN n)) := by
  unfold isI at hv
  subst hv
  have hb : (bs.length : Int) ≤ 1099511627776 := by rw [List.length_append] at hl; omega
  refine (number_any h n hb).mono ?_
  rintro e w' ⟨rfl, h1, h2⟩
  unfold putN wrote
  cases hk : okN n <;> rw [hk] at h1 <;> simp at h1 ⊢ <;> exact ⟨h1, h2⟩

theorem wroteB {w : World} {p : Nat} {bs : List UInt8} {v : Value} {b : Bool} (h : WAt w p bs 0) (hv : isB v b) (hl : ((bs ++ (putB b).1).length : Int) ≤ 1099511627776) :
    Calls Try.prog 65 #[.pointer (some ⟨p, 0, none⟩), v] w (wrote w p bs (putB b)) := by
  unfold isB at hv
  subst hv
  have hb : (bs.length : Int) ≤ 1099511627776 := by rw [List.length_append] at hl; omega
  refine (putFlag h b hb).mono ?_
  rintro e w' ⟨rfl, h1, h2⟩
  exact ⟨rfl, h1, h2⟩

theorem wroteT {w : World} {p tb : Nat} {bs : List UInt8} {v : Value} {s : ByteArray} {most : Int} (h : WAt w p bs 0) (hm : w.cell? ⟨tb, 0, none⟩ = some (.int .i64 most)) (hv : isS v s) (hl : ((bs ++ (putT most s).1).length : Int) ≤ 1099511627776) :
    Calls Try.prog 68 #[.pointer (some ⟨p, 0, none⟩), v, .pointer (some ⟨tb, 0, none⟩)] w (wrote w p bs (putT most s)) := by
  unfold isS at hv
  subst hv
  unfold putT at hl ⊢
  by_cases hs : (s.size : Int) ≤ most
  · rw [if_pos hs] at hl ⊢
    rw [List.length_append, List.length_append] at hl
    have e1 : s.data.toList.length = s.size := rfl
    refine (putText_ok h most hm s hs (by omega) (by omega)).mono ?_
    rintro e w' ⟨rfl, h1, h2⟩
    exact ⟨rfl, h1, h2⟩
  · rw [if_neg hs] at hl ⊢
    refine (putText_big h most hm s (by omega)).mono ?_
    rintro e w' ⟨rfl, h1, h2⟩
    exact ⟨rfl, by simpa using h1, h2⟩

theorem encInt_any {fget v : Value} {x : List UInt8 × Bool} {w : World} (hin : ∀ w' p, Low w.heap.size w w' → w.heap.size ≤ p → WAt w' p [] 0 → Calls Try.prog 54 #[.pointer (some ⟨p, 0, none⟩), v] w' (wrote w' p [] x)) :
    Calls Try.prog 15 #[.agg #[.func (.func 54) #[] #[], fget], v] w (encoded w x) := by
  obtain ⟨out, ok⟩ := x
  cases ok
  · refine (encInt_no (w := w) (fget := fget) (v := v) fun w' p h1 h2 h3 => (hin w' p h1 h2 h3).mono ?_).mono ?_
    · rintro e w2 ⟨rfl, h4, h5⟩
      exact ⟨rfl, ⟨_, h4⟩, h5⟩
    · rintro e w' ⟨rfl, hb⟩
      exact ⟨rfl, hb⟩
  · refine (encInt_ok (w := w) (fget := fget) (v := v) (out := out) fun w' p h1 h2 h3 => (hin w' p h1 h2 h3).mono ?_).mono ?_
    · rintro e w2 ⟨rfl, h4, h5⟩
      exact ⟨rfl, h4, h5⟩
    · rintro e w' ⟨rfl, hb⟩
      exact ⟨rfl, hb⟩

theorem encBool_any {fget v : Value} {x : List UInt8 × Bool} {w : World} (hin : ∀ w' p, Low w.heap.size w w' → w.heap.size ≤ p → WAt w' p [] 0 → Calls Try.prog 65 #[.pointer (some ⟨p, 0, none⟩), v] w' (wrote w' p [] x)) :
    Calls Try.prog 51 #[.agg #[.func (.func 65) #[] #[], fget], v] w (encoded w x) := by
  obtain ⟨out, ok⟩ := x
  cases ok
  · refine (encBool_no (w := w) (fget := fget) (v := v) fun w' p h1 h2 h3 => (hin w' p h1 h2 h3).mono ?_).mono ?_
    · rintro e w2 ⟨rfl, h4, h5⟩
      exact ⟨rfl, ⟨_, h4⟩, h5⟩
    · rintro e w' ⟨rfl, hb⟩
      exact ⟨rfl, hb⟩
  · refine (encBool_ok (w := w) (fget := fget) (v := v) (out := out) fun w' p h1 h2 h3 => (hin w' p h1 h2 h3).mono ?_).mono ?_
    · rintro e w2 ⟨rfl, h4, h5⟩
      exact ⟨rfl, h4, h5⟩
    · rintro e w' ⟨rfl, hb⟩
      exact ⟨rfl, hb⟩

theorem encStr_any {tb : Nat} {fget v : Value} {x : List UInt8 × Bool} {w : World} (hin : ∀ w' p, Low w.heap.size w w' → w.heap.size ≤ p → WAt w' p [] 0 → Calls Try.prog 68 #[.pointer (some ⟨p, 0, none⟩), v, .pointer (some ⟨tb, 0, none⟩)] w' (wrote w' p [] x)) :
    Calls Try.prog 40 #[.agg #[.func (.func 68) #[] #[.pointer (some ⟨tb, 0, none⟩)], fget], v] w (encoded w x) := by
  obtain ⟨out, ok⟩ := x
  cases ok
  · refine (encStr_no (w := w) (fget := fget) (v := v) fun w' p h1 h2 h3 => (hin w' p h1 h2 h3).mono ?_).mono ?_
    · rintro e w2 ⟨rfl, h4, h5⟩
      exact ⟨rfl, ⟨_, h4⟩, h5⟩
    · rintro e w' ⟨rfl, hb⟩
      exact ⟨rfl, hb⟩
  · refine (encStr_ok (w := w) (fget := fget) (v := v) (out := out) fun w' p h1 h2 h3 => (hin w' p h1 h2 h3).mono ?_).mono ?_
    · rintro e w2 ⟨rfl, h4, h5⟩
      exact ⟨rfl, h4, h5⟩
    · rintro e w' ⟨rfl, hb⟩
      exact ⟨rfl, hb⟩

theorem encInts_any {mb cb : Nat} {fget v : Value} {x : List UInt8 × Bool} {w : World} (hin : ∀ w' p, Low w.heap.size w w' → w.heap.size ≤ p → WAt w' p [] 0 → Calls Try.prog 58 #[.pointer (some ⟨p, 0, none⟩), v, .pointer (some ⟨mb, 0, none⟩), .pointer (some ⟨cb, 0, none⟩)] w' (wrote w' p [] x)) :
    Calls Try.prog 17 #[.agg #[.func (.func 58) #[] #[.pointer (some ⟨mb, 0, none⟩), .pointer (some ⟨cb, 0, none⟩)], fget], v] w (encoded w x) := by
  obtain ⟨out, ok⟩ := x
  cases ok
  · refine (encInts_no (w := w) (fget := fget) (v := v) fun w' p h1 h2 h3 => (hin w' p h1 h2 h3).mono ?_).mono ?_
    · rintro e w2 ⟨rfl, h4, h5⟩
      exact ⟨rfl, ⟨_, h4⟩, h5⟩
    · rintro e w' ⟨rfl, hb⟩
      exact ⟨rfl, hb⟩
  · refine (encInts_ok (w := w) (fget := fget) (v := v) (out := out) fun w' p h1 h2 h3 => (hin w' p h1 h2 h3).mono ?_).mono ?_
    · rintro e w2 ⟨rfl, h4, h5⟩
      exact ⟨rfl, h4, h5⟩
    · rintro e w' ⟨rfl, hb⟩
      exact ⟨rfl, hb⟩

theorem encBools_any {mb cb : Nat} {fget v : Value} {x : List UInt8 × Bool} {w : World} (hin : ∀ w' p, Low w.heap.size w w' → w.heap.size ≤ p → WAt w' p [] 0 → Calls Try.prog 81 #[.pointer (some ⟨p, 0, none⟩), v, .pointer (some ⟨mb, 0, none⟩), .pointer (some ⟨cb, 0, none⟩)] w' (wrote w' p [] x)) :
    Calls Try.prog 37 #[.agg #[.func (.func 81) #[] #[.pointer (some ⟨mb, 0, none⟩), .pointer (some ⟨cb, 0, none⟩)], fget], v] w (encoded w x) := by
  obtain ⟨out, ok⟩ := x
  cases ok
  · refine (encBools_no (w := w) (fget := fget) (v := v) fun w' p h1 h2 h3 => (hin w' p h1 h2 h3).mono ?_).mono ?_
    · rintro e w2 ⟨rfl, h4, h5⟩
      exact ⟨rfl, ⟨_, h4⟩, h5⟩
    · rintro e w' ⟨rfl, hb⟩
      exact ⟨rfl, hb⟩
  · refine (encBools_ok (w := w) (fget := fget) (v := v) (out := out) fun w' p h1 h2 h3 => (hin w' p h1 h2 h3).mono ?_).mono ?_
    · rintro e w2 ⟨rfl, h4, h5⟩
      exact ⟨rfl, h4, h5⟩
    · rintro e w' ⟨rfl, hb⟩
      exact ⟨rfl, hb⟩

theorem encStrs_any {mb cb : Nat} {fget v : Value} {x : List UInt8 × Bool} {w : World} (hin : ∀ w' p, Low w.heap.size w w' → w.heap.size ≤ p → WAt w' p [] 0 → Calls Try.prog 75 #[.pointer (some ⟨p, 0, none⟩), v, .pointer (some ⟨mb, 0, none⟩), .pointer (some ⟨cb, 0, none⟩)] w' (wrote w' p [] x)) :
    Calls Try.prog 39 #[.agg #[.func (.func 75) #[] #[.pointer (some ⟨mb, 0, none⟩), .pointer (some ⟨cb, 0, none⟩)], fget], v] w (encoded w x) := by
  obtain ⟨out, ok⟩ := x
  cases ok
  · refine (encStrs_no (w := w) (fget := fget) (v := v) fun w' p h1 h2 h3 => (hin w' p h1 h2 h3).mono ?_).mono ?_
    · rintro e w2 ⟨rfl, h4, h5⟩
      exact ⟨rfl, ⟨_, h4⟩, h5⟩
    · rintro e w' ⟨rfl, hb⟩
      exact ⟨rfl, hb⟩
  · refine (encStrs_ok (w := w) (fget := fget) (v := v) (out := out) fun w' p h1 h2 h3 => (hin w' p h1 h2 h3).mono ?_).mono ?_
    · rintro e w2 ⟨rfl, h4, h5⟩
      exact ⟨rfl, h4, h5⟩
    · rintro e w' ⟨rfl, hb⟩
      exact ⟨rfl, hb⟩

theorem encStrss_any {mb cb : Nat} {fget v : Value} {x : List UInt8 × Bool} {w : World} (hin : ∀ w' p, Low w.heap.size w w' → w.heap.size ≤ p → WAt w' p [] 0 → Calls Try.prog 77 #[.pointer (some ⟨p, 0, none⟩), v, .pointer (some ⟨mb, 0, none⟩), .pointer (some ⟨cb, 0, none⟩)] w' (wrote w' p [] x)) :
    Calls Try.prog 35 #[.agg #[.func (.func 77) #[] #[.pointer (some ⟨mb, 0, none⟩), .pointer (some ⟨cb, 0, none⟩)], fget], v] w (encoded w x) := by
  obtain ⟨out, ok⟩ := x
  cases ok
  · refine (encStrss_no (w := w) (fget := fget) (v := v) fun w' p h1 h2 h3 => (hin w' p h1 h2 h3).mono ?_).mono ?_
    · rintro e w2 ⟨rfl, h4, h5⟩
      exact ⟨rfl, ⟨_, h4⟩, h5⟩
    · rintro e w' ⟨rfl, hb⟩
      exact ⟨rfl, hb⟩
  · refine (encStrss_ok (w := w) (fget := fget) (v := v) (out := out) fun w' p h1 h2 h3 => (hin w' p h1 h2 h3).mono ?_).mono ?_
    · rintro e w2 ⟨rfl, h4, h5⟩
      exact ⟨rfl, h4, h5⟩
    · rintro e w' ⟨rfl, hb⟩
      exact ⟨rfl, hb⟩

theorem decInt_any {α : Type} {rep : World → Value → α → Prop} {fput : Value} {s : ByteArray} {g : List UInt8 → Except Int (α × List UInt8)} {w : World} (hsz : (s.size : Int) ≤ 1099511627776) (hr1 : ∀ w v a, rep w v a → v.oneCell' = true) (hs1 : Stable rep 134) (hs2 : Stable rep 28) (hs3 : Stable rep 3)
    (hg0 : ∀ l er, g l = .error er → er ≠ 0) (hin : ∀ w' r l, Low w.heap.size w w' → w.heap.size ≤ r → ROk w' r l → Calls Try.prog 55 #[.pointer (some ⟨r, 0, none⟩)] w' (got rep w' r (g l))) :
    Calls Try.prog 19 #[.agg #[fput, .func (.func 55) #[] #[]], .string s] w (decoded rep (.int .i64 0) w (whole (g s.data.toList))) := by
  cases hx : g s.data.toList with
  | error er =>
    have her : er ≠ 0 := hg0 _ _ hx
    · refine (decInt_no (w := w) (fput := fput) hsz her fun w' r h1 h2 h3 => (hin w' r _ h1 h2 h3).mono ?_).mono ?_
      · intro e w2 hg
        rw [hx] at hg
        obtain ⟨v, rfl, hv, _, hb, hgr⟩ := hg
        exact ⟨v, rfl, hv, Or.inl hb, hgr⟩
      · rintro e w' ⟨rfl, hb⟩
        exact ⟨rfl, hb⟩
  | ok y =>
    obtain ⟨a, t⟩ := y
    cases t with
    | nil =>
      refine (decInt_ok (w := w) (fput := fput) (a := a) hsz hr1 hs1 hs2 hs3 fun w' r h1 h2 h3 => (hin w' r _ h1 h2 h3).mono ?_).mono ?_
      · intro e w2 hg
        rw [hx] at hg
        exact hg
      · rintro e w' ⟨h1, hb⟩
        exact ⟨h1, hb⟩
    | cons b t =>
      refine (decInt_no (w := w) (fput := fput) (er := 21) hsz (by decide) fun w' r h1 h2 h3 => (hin w' r _ h1 h2 h3).mono ?_).mono ?_
      · intro e w2 hg
        rw [hx] at hg
        obtain ⟨v, rfl, hv, hb, hgr⟩ := hg
        exact ⟨v, rfl, hr1 _ _ _ hv, Or.inr ⟨rfl, b, t, hb⟩, hgr⟩
      · rintro e w' ⟨rfl, hb⟩
        exact ⟨rfl, hb⟩

theorem decBool_any {α : Type} {rep : World → Value → α → Prop} {fput : Value} {s : ByteArray} {g : List UInt8 → Except Int (α × List UInt8)} {w : World} (hsz : (s.size : Int) ≤ 1099511627776) (hr1 : ∀ w v a, rep w v a → v.oneCell' = true) (hs1 : Stable rep 134) (hs2 : Stable rep 28) (hs3 : Stable rep 4)
    (hg0 : ∀ l er, g l = .error er → er ≠ 0) (hin : ∀ w' r l, Low w.heap.size w w' → w.heap.size ≤ r → ROk w' r l → Calls Try.prog 66 #[.pointer (some ⟨r, 0, none⟩)] w' (got rep w' r (g l))) :
    Calls Try.prog 21 #[.agg #[fput, .func (.func 66) #[] #[]], .string s] w (decoded rep (.bool false) w (whole (g s.data.toList))) := by
  cases hx : g s.data.toList with
  | error er =>
    have her : er ≠ 0 := hg0 _ _ hx
    · refine (decBool_no (w := w) (fput := fput) hsz her fun w' r h1 h2 h3 => (hin w' r _ h1 h2 h3).mono ?_).mono ?_
      · intro e w2 hg
        rw [hx] at hg
        obtain ⟨v, rfl, hv, _, hb, hgr⟩ := hg
        exact ⟨v, rfl, hv, Or.inl hb, hgr⟩
      · rintro e w' ⟨rfl, hb⟩
        exact ⟨rfl, hb⟩
  | ok y =>
    obtain ⟨a, t⟩ := y
    cases t with
    | nil =>
      refine (decBool_ok (w := w) (fput := fput) (a := a) hsz hr1 hs1 hs2 hs3 fun w' r h1 h2 h3 => (hin w' r _ h1 h2 h3).mono ?_).mono ?_
      · intro e w2 hg
        rw [hx] at hg
        exact hg
      · rintro e w' ⟨h1, hb⟩
        exact ⟨h1, hb⟩
    | cons b t =>
      refine (decBool_no (w := w) (fput := fput) (er := 21) hsz (by decide) fun w' r h1 h2 h3 => (hin w' r _ h1 h2 h3).mono ?_).mono ?_
      · intro e w2 hg
        rw [hx] at hg
        obtain ⟨v, rfl, hv, hb, hgr⟩ := hg
        exact ⟨v, rfl, hr1 _ _ _ hv, Or.inr ⟨rfl, b, t, hb⟩, hgr⟩
      · rintro e w' ⟨rfl, hb⟩
        exact ⟨rfl, hb⟩

theorem decStr_any {α : Type} {tb : Nat} {rep : World → Value → α → Prop} {fput : Value} {s : ByteArray} {g : List UInt8 → Except Int (α × List UInt8)} {w : World} (hsz : (s.size : Int) ≤ 1099511627776) (hr1 : ∀ w v a, rep w v a → v.oneCell' = true) (hs1 : Stable rep 134) (hs2 : Stable rep 28) (hs3 : Stable rep 9)
    (hg0 : ∀ l er, g l = .error er → er ≠ 0) (hin : ∀ w' r l, Low w.heap.size w w' → w.heap.size ≤ r → ROk w' r l → Calls Try.prog 70 #[.pointer (some ⟨r, 0, none⟩), .pointer (some ⟨tb, 0, none⟩)] w' (got rep w' r (g l))) :
    Calls Try.prog 23 #[.agg #[fput, .func (.func 70) #[] #[.pointer (some ⟨tb, 0, none⟩)]], .string s] w (decoded rep (.string ⟨#[]⟩) w (whole (g s.data.toList))) := by
  cases hx : g s.data.toList with
  | error er =>
    have her : er ≠ 0 := hg0 _ _ hx
    · refine (decStr_no (w := w) (fput := fput) hsz her fun w' r h1 h2 h3 => (hin w' r _ h1 h2 h3).mono ?_).mono ?_
      · intro e w2 hg
        rw [hx] at hg
        obtain ⟨v, rfl, hv, _, hb, hgr⟩ := hg
        exact ⟨v, rfl, hv, Or.inl hb, hgr⟩
      · rintro e w' ⟨rfl, hb⟩
        exact ⟨rfl, hb⟩
  | ok y =>
    obtain ⟨a, t⟩ := y
    cases t with
    | nil =>
      refine (decStr_ok (w := w) (fput := fput) (a := a) hsz hr1 hs1 hs2 hs3 fun w' r h1 h2 h3 => (hin w' r _ h1 h2 h3).mono ?_).mono ?_
      · intro e w2 hg
        rw [hx] at hg
        exact hg
      · rintro e w' ⟨h1, hb⟩
        exact ⟨h1, hb⟩
    | cons b t =>
      refine (decStr_no (w := w) (fput := fput) (er := 21) hsz (by decide) fun w' r h1 h2 h3 => (hin w' r _ h1 h2 h3).mono ?_).mono ?_
      · intro e w2 hg
        rw [hx] at hg
        obtain ⟨v, rfl, hv, hb, hgr⟩ := hg
        exact ⟨v, rfl, hr1 _ _ _ hv, Or.inr ⟨rfl, b, t, hb⟩, hgr⟩
      · rintro e w' ⟨rfl, hb⟩
        exact ⟨rfl, hb⟩

theorem decInts_any {α : Type} {mb cb : Nat} {rep : World → Value → α → Prop} {fput : Value} {s : ByteArray} {g : List UInt8 → Except Int (α × List UInt8)} {w : World} (hsz : (s.size : Int) ≤ 1099511627776) (hr1 : ∀ w v a, rep w v a → v.oneCell' = true) (hs1 : Stable rep 134) (hs2 : Stable rep 28) (hs3 : Stable rep 22)
    (hg0 : ∀ l er, g l = .error er → er ≠ 0) (hin : ∀ w' r l, Low w.heap.size w w' → w.heap.size ≤ r → ROk w' r l → Calls Try.prog 60 #[.pointer (some ⟨r, 0, none⟩), .pointer (some ⟨mb, 0, none⟩), .pointer (some ⟨cb, 0, none⟩)] w' (got rep w' r (g l))) :
    Calls Try.prog 26 #[.agg #[fput, .func (.func 60) #[] #[.pointer (some ⟨mb, 0, none⟩), .pointer (some ⟨cb, 0, none⟩)]], .string s] w (decoded rep (.slice none 0 0) w (whole (g s.data.toList))) := by
  cases hx : g s.data.toList with
  | error er =>
    have her : er ≠ 0 := hg0 _ _ hx
    · refine (decInts_no (w := w) (fput := fput) hsz her fun w' r h1 h2 h3 => (hin w' r _ h1 h2 h3).mono ?_).mono ?_
      · intro e w2 hg
        rw [hx] at hg
        obtain ⟨v, rfl, hv, _, hb, hgr⟩ := hg
        exact ⟨v, rfl, hv, Or.inl hb, hgr⟩
      · rintro e w' ⟨rfl, hb⟩
        exact ⟨rfl, hb⟩
  | ok y =>
    obtain ⟨a, t⟩ := y
    cases t with
    | nil =>
      refine (decInts_ok (w := w) (fput := fput) (a := a) hsz hr1 hs1 hs2 hs3 fun w' r h1 h2 h3 => (hin w' r _ h1 h2 h3).mono ?_).mono ?_
      · intro e w2 hg
        rw [hx] at hg
        exact hg
      · rintro e w' ⟨h1, hb⟩
        exact ⟨h1, hb⟩
    | cons b t =>
      refine (decInts_no (w := w) (fput := fput) (er := 21) hsz (by decide) fun w' r h1 h2 h3 => (hin w' r _ h1 h2 h3).mono ?_).mono ?_
      · intro e w2 hg
        rw [hx] at hg
        obtain ⟨v, rfl, hv, hb, hgr⟩ := hg
        exact ⟨v, rfl, hr1 _ _ _ hv, Or.inr ⟨rfl, b, t, hb⟩, hgr⟩
      · rintro e w' ⟨rfl, hb⟩
        exact ⟨rfl, hb⟩

theorem decBools_any {α : Type} {mb cb : Nat} {rep : World → Value → α → Prop} {fput : Value} {s : ByteArray} {g : List UInt8 → Except Int (α × List UInt8)} {w : World} (hsz : (s.size : Int) ≤ 1099511627776) (hr1 : ∀ w v a, rep w v a → v.oneCell' = true) (hs1 : Stable rep 134) (hs2 : Stable rep 28) (hs3 : Stable rep 89)
    (hg0 : ∀ l er, g l = .error er → er ≠ 0) (hin : ∀ w' r l, Low w.heap.size w w' → w.heap.size ≤ r → ROk w' r l → Calls Try.prog 82 #[.pointer (some ⟨r, 0, none⟩), .pointer (some ⟨mb, 0, none⟩), .pointer (some ⟨cb, 0, none⟩)] w' (got rep w' r (g l))) :
    Calls Try.prog 38 #[.agg #[fput, .func (.func 82) #[] #[.pointer (some ⟨mb, 0, none⟩), .pointer (some ⟨cb, 0, none⟩)]], .string s] w (decoded rep (.slice none 0 0) w (whole (g s.data.toList))) := by
  cases hx : g s.data.toList with
  | error er =>
    have her : er ≠ 0 := hg0 _ _ hx
    · refine (decBools_no (w := w) (fput := fput) hsz her fun w' r h1 h2 h3 => (hin w' r _ h1 h2 h3).mono ?_).mono ?_
      · intro e w2 hg
        rw [hx] at hg
        obtain ⟨v, rfl, hv, _, hb, hgr⟩ := hg
        exact ⟨v, rfl, hv, Or.inl hb, hgr⟩
      · rintro e w' ⟨rfl, hb⟩
        exact ⟨rfl, hb⟩
  | ok y =>
    obtain ⟨a, t⟩ := y
    cases t with
    | nil =>
      refine (decBools_ok (w := w) (fput := fput) (a := a) hsz hr1 hs1 hs2 hs3 fun w' r h1 h2 h3 => (hin w' r _ h1 h2 h3).mono ?_).mono ?_
      · intro e w2 hg
        rw [hx] at hg
        exact hg
      · rintro e w' ⟨h1, hb⟩
        exact ⟨h1, hb⟩
    | cons b t =>
      refine (decBools_no (w := w) (fput := fput) (er := 21) hsz (by decide) fun w' r h1 h2 h3 => (hin w' r _ h1 h2 h3).mono ?_).mono ?_
      · intro e w2 hg
        rw [hx] at hg
        obtain ⟨v, rfl, hv, hb, hgr⟩ := hg
        exact ⟨v, rfl, hr1 _ _ _ hv, Or.inr ⟨rfl, b, t, hb⟩, hgr⟩
      · rintro e w' ⟨rfl, hb⟩
        exact ⟨rfl, hb⟩

theorem decStrs_any {α : Type} {mb cb : Nat} {rep : World → Value → α → Prop} {fput : Value} {s : ByteArray} {g : List UInt8 → Except Int (α × List UInt8)} {w : World} (hsz : (s.size : Int) ≤ 1099511627776) (hr1 : ∀ w v a, rep w v a → v.oneCell' = true) (hs1 : Stable rep 134) (hs2 : Stable rep 28) (hs3 : Stable rep 67)
    (hg0 : ∀ l er, g l = .error er → er ≠ 0) (hin : ∀ w' r l, Low w.heap.size w w' → w.heap.size ≤ r → ROk w' r l → Calls Try.prog 76 #[.pointer (some ⟨r, 0, none⟩), .pointer (some ⟨mb, 0, none⟩), .pointer (some ⟨cb, 0, none⟩)] w' (got rep w' r (g l))) :
    Calls Try.prog 29 #[.agg #[fput, .func (.func 76) #[] #[.pointer (some ⟨mb, 0, none⟩), .pointer (some ⟨cb, 0, none⟩)]], .string s] w (decoded rep (.slice none 0 0) w (whole (g s.data.toList))) := by
  cases hx : g s.data.toList with
  | error er =>
    have her : er ≠ 0 := hg0 _ _ hx
    · refine (decStrs_no (w := w) (fput := fput) hsz her fun w' r h1 h2 h3 => (hin w' r _ h1 h2 h3).mono ?_).mono ?_
      · intro e w2 hg
        rw [hx] at hg
        obtain ⟨v, rfl, hv, _, hb, hgr⟩ := hg
        exact ⟨v, rfl, hv, Or.inl hb, hgr⟩
      · rintro e w' ⟨rfl, hb⟩
        exact ⟨rfl, hb⟩
  | ok y =>
    obtain ⟨a, t⟩ := y
    cases t with
    | nil =>
      refine (decStrs_ok (w := w) (fput := fput) (a := a) hsz hr1 hs1 hs2 hs3 fun w' r h1 h2 h3 => (hin w' r _ h1 h2 h3).mono ?_).mono ?_
      · intro e w2 hg
        rw [hx] at hg
        exact hg
      · rintro e w' ⟨h1, hb⟩
        exact ⟨h1, hb⟩
    | cons b t =>
      refine (decStrs_no (w := w) (fput := fput) (er := 21) hsz (by decide) fun w' r h1 h2 h3 => (hin w' r _ h1 h2 h3).mono ?_).mono ?_
      · intro e w2 hg
        rw [hx] at hg
        obtain ⟨v, rfl, hv, hb, hgr⟩ := hg
        exact ⟨v, rfl, hr1 _ _ _ hv, Or.inr ⟨rfl, b, t, hb⟩, hgr⟩
      · rintro e w' ⟨rfl, hb⟩
        exact ⟨rfl, hb⟩

theorem decStrss_any {α : Type} {mb cb : Nat} {rep : World → Value → α → Prop} {fput : Value} {s : ByteArray} {g : List UInt8 → Except Int (α × List UInt8)} {w : World} (hsz : (s.size : Int) ≤ 1099511627776) (hr1 : ∀ w v a, rep w v a → v.oneCell' = true) (hs1 : Stable rep 134) (hs2 : Stable rep 28) (hs3 : Stable rep 84)
    (hg0 : ∀ l er, g l = .error er → er ≠ 0) (hin : ∀ w' r l, Low w.heap.size w w' → w.heap.size ≤ r → ROk w' r l → Calls Try.prog 78 #[.pointer (some ⟨r, 0, none⟩), .pointer (some ⟨mb, 0, none⟩), .pointer (some ⟨cb, 0, none⟩)] w' (got rep w' r (g l))) :
    Calls Try.prog 34 #[.agg #[fput, .func (.func 78) #[] #[.pointer (some ⟨mb, 0, none⟩), .pointer (some ⟨cb, 0, none⟩)]], .string s] w (decoded rep (.slice none 0 0) w (whole (g s.data.toList))) := by
  cases hx : g s.data.toList with
  | error er =>
    have her : er ≠ 0 := hg0 _ _ hx
    · refine (decStrss_no (w := w) (fput := fput) hsz her fun w' r h1 h2 h3 => (hin w' r _ h1 h2 h3).mono ?_).mono ?_
      · intro e w2 hg
        rw [hx] at hg
        obtain ⟨v, rfl, hv, _, hb, hgr⟩ := hg
        exact ⟨v, rfl, hv, Or.inl hb, hgr⟩
      · rintro e w' ⟨rfl, hb⟩
        exact ⟨rfl, hb⟩
  | ok y =>
    obtain ⟨a, t⟩ := y
    cases t with
    | nil =>
      refine (decStrss_ok (w := w) (fput := fput) (a := a) hsz hr1 hs1 hs2 hs3 fun w' r h1 h2 h3 => (hin w' r _ h1 h2 h3).mono ?_).mono ?_
      · intro e w2 hg
        rw [hx] at hg
        exact hg
      · rintro e w' ⟨h1, hb⟩
        exact ⟨h1, hb⟩
    | cons b t =>
      refine (decStrss_no (w := w) (fput := fput) (er := 21) hsz (by decide) fun w' r h1 h2 h3 => (hin w' r _ h1 h2 h3).mono ?_).mono ?_
      · intro e w2 hg
        rw [hx] at hg
        obtain ⟨v, rfl, hv, hb, hgr⟩ := hg
        exact ⟨v, rfl, hr1 _ _ _ hv, Or.inr ⟨rfl, b, t, hb⟩, hgr⟩
      · rintro e w' ⟨rfl, hb⟩
        exact ⟨rfl, hb⟩

end Go.Proofs.Ytjajgllkbchapaa
