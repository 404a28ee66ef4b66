/-
  Records: Encode and Decode as functions on lists of bytes; what comes back, what a cut answers.
-/
import Derived.Test.YtjajgllkbchapaaRecM
import Derived.Test.YtjajgllkbchapaaRecD
import Derived.Test.YtjajgllkbchapaaCutW
import Derived.Test.YtjajgllkbchapaaBackW
namespace Go.Proofs.Ytjajgllkbchapaa
open Go.RowKit
set_option linter.unusedSimpArgs false
set_option linter.unusedVariables false

theorem encodeR (w : World) (fget : Value) {pb g k0 k1 k2 k3 q0 q1 q2 q3 tb mb cb cap : Nat} (C : RecC w.heap.size w pb g k0 k1 k2 k3 q0 q1 q2 q3 tb mb cb cap) (A : Int) (S : ByteArray) (va : Option Addr) (vn vc : Nat) (L : List Int) (F : Bool) (hL : LowList w.heap.size w isI (.slice va vn vc) L) (hlen : ((putRec A S L F).1.length : Int) ≤ 1099511627776) :
    Calls Try.prog 50 #[.agg #[.func (.func 88) #[] #[.pointer (some ⟨pb, 0, none⟩)], fget], .agg #[.int .i64 A, .string S, .slice va vn vc, .bool F]] w (encoded w (putRec A S L F)) := by
  have hin := fun w' p (h1 : Low w.heap.size w w') (h2 : w.heap.size ≤ p) (h3 : WAt w' p [] 0) => recPut C h1 h2 h3 A S (.slice va vn vc) L F hL (by simpa using hlen)
  generalize putRec A S L F = x at *
  obtain ⟨out, ok⟩ := x
  cases ok
  · refine (encRec_no (w := w) (fget := fget) fun w' p h1 h2 h3 => (hin w' p h1 h2 h3).mono ?_).mono ?_
    · rintro e w2 ⟨rfl, h4, h5⟩
      exact ⟨rfl, ⟨_, h4⟩, h5⟩
    · rintro e w' ⟨rfl, hb⟩
      exact ⟨rfl, hb⟩
  · refine (encRec_ok (w := w) (fget := fget) (out := out) fun w' p h1 h2 h3 => (hin w' p h1 h2 h3).mono ?_).mono ?_
    · rintro e w2 ⟨rfl, h4, h5⟩
      exact ⟨rfl, h4, h5⟩
    · rintro e w' ⟨rfl, hb⟩
      exact ⟨rfl, hb⟩

theorem getRec_err0 (l : List UInt8) (er : Int) (h : getRec l = .error er) : er ≠ 0 := by
  unfold getRec at h
  cases h1 : getN l with
  | error e => rw [h1] at h; simp at h; rw [← h]; exact getN_err0 _ _ h1
  | ok y =>
    obtain ⟨n, t⟩ := y
    rw [h1] at h
    simp only [getRec1] at h
    cases h2 : getText 100 t with
    | error e => rw [h2] at h; simp at h; rw [← h]; exact getText_err0 _ _ _ h2
    | ok y =>
      obtain ⟨S, t⟩ := y
      rw [h2] at h
      simp only [getRec2] at h
      cases h3 : getList 100 getN t with
      | error e => rw [h3] at h; simp at h; rw [← h]; exact getList_err0 getN_err0 _ _ _ h3
      | ok y =>
        obtain ⟨L, t⟩ := y
        rw [h3] at h
        simp only [getRec3] at h
        cases h4 : getFlag t with
        | error e => rw [h4] at h; simp at h; rw [← h]; exact getFlag_err0 _ _ h4
        | ok y => obtain ⟨F, t⟩ := y; rw [h4] at h; simp at h

def decodedR (w : World) (x : Except Int (Nat × ByteArray × List Nat × Bool)) (e : Ending) (w' : World) : Prop :=
  (match x with
   | .ok (n, S, L, F) => ∃ vL, e = .returned (.tuple #[.agg #[.int .i64 n, .string S, vL, .bool F], .int .i64 0]) ∧ Row isNat 3 0 w' vL L
   | .error er => e = .returned (.tuple #[.agg #[.int .i64 0, .string ⟨#[]⟩, .slice none 0 0, .bool false], .int .i64 er])) ∧ Below w.heap.size w w'

theorem decodeR (w : World) (fput : Value) {pb g k0 k1 k2 k3 q0 q1 q2 q3 tb mb cb cap : Nat} (C : RecC w.heap.size w pb g k0 k1 k2 k3 q0 q1 q2 q3 tb mb cb cap) (s : ByteArray) (hs : (s.size : Int) ≤ 1099511627776) :
    Calls Try.prog 52 #[.agg #[fput, .func (.func 89) #[] #[.pointer (some ⟨pb, 0, none⟩)]], .string s] w (decodedR w (whole (getRec s.data.toList))) := by
  have hin := fun w' r (h1 : Low w.heap.size w w') (h2 : w.heap.size ≤ r) (h3 : ROk w' r s.data.toList) => recGet C h1 h2 h3
  cases hx : getRec s.data.toList with
  | error er =>
    refine (decRec_no (er := er) hs (getRec_err0 _ _ hx) fun w' r h1 h2 h3 => (hin w' r h1 h2 h3).mono ?_).mono ?_
    · intro e w2 hh
      rw [hx] at hh
      obtain ⟨a, b, c, d, he, ha, hb, hc, hd, _, hR, hg⟩ := hh
      exact ⟨a, b, c, d, he, ha, hb, hc, hd, Or.inl hR, hg⟩
    · rintro e w' ⟨rfl, hb⟩
      exact ⟨rfl, hb⟩
  | ok y =>
    obtain ⟨⟨n, S, L, F⟩, t⟩ := y
    cases t with
    | nil =>
      refine (decRec_ok (n := n) (S := S) (L := L) (F := F) hs fun w' r h1 h2 h3 => (hin w' r h1 h2 h3).mono ?_).mono ?_
      · intro e w2 hh
        rw [hx] at hh
        obtain ⟨vL, he, hr, hR, hg⟩ := hh
        exact ⟨vL, he, hr, hR, hg⟩
      · rintro e w' ⟨hv, hb⟩
        exact ⟨hv, hb⟩
    | cons b t =>
      refine (decRec_no (er := 21) hs (by decide) fun w' r h1 h2 h3 => (hin w' r h1 h2 h3).mono ?_).mono ?_
      · intro e w2 hh
        rw [hx] at hh
        obtain ⟨vL, he, hr, hR, hg⟩ := hh
        exact ⟨_, _, _, _, he, rfl, rfl, hr.one, rfl, Or.inr ⟨rfl, b, t, hR⟩, hg⟩
      · rintro e w' ⟨rfl, hb⟩
        exact ⟨rfl, hb⟩

theorem putRec_ok {A : Int} {S : ByteArray} {L : List Int} {F : Bool} (h : (putRec A S L F).2 = true) : (putN A).2 = true ∧ (putT 100 S).2 = true ∧ (putList 100 putN L).2 = true ∧ (putRec A S L F).1 = (putN A).1 ++ ((putT 100 S).1 ++ ((putList 100 putN L).1 ++ (putB F).1)) := by
  unfold putRec outs at *
  simp only [puts] at *
  cases h1 : (putN A).2 <;> simp [h1] at h ⊢
  cases h2 : (putT 100 S).2 <;> simp [h2] at h ⊢
  cases h3 : (putList 100 putN L).2 <;> simp [h3] at h ⊢
  have h4 : (putB F).2 = true := rfl
  simp [h4]

theorem putRec_no {A : Int} {S : ByteArray} {L : List Int} {F : Bool} (h : (putRec A S L F).2 = false) : ((putN A).2 && (putT 100 S).2 && (putList 100 putN L).2) = false := by
  unfold putRec outs at *
  simp only [puts] at *
  cases h1 : (putN A).2 <;> simp [h1] at h ⊢
  cases h2 : (putT 100 S).2 <;> simp [h2] at h ⊢
  cases h3 : (putList 100 putN L).2 <;> simp [h3] at h ⊢
  have h4 : (putB F).2 = true := rfl
  simp [h4] at h

theorem rec_back {n : Nat} {S : ByteArray} {L : List Nat} {F : Bool} (h1 : (putN (Int.ofNat n)).2 = true) (h2 : (putT 100 S).2 = true) (h3 : (putList 100 putN (L.map Int.ofNat)).2 = true) (t : List UInt8) :
    getRec ((putN (Int.ofNat n)).1 ++ ((putT 100 S).1 ++ ((putList 100 putN (L.map Int.ofNat)).1 ++ ((putB F).1 ++ t)))) = .ok ((n, S, L, F), t) := by
  unfold getRec
  rw [goodN.back n _ h1]
  simp only [getRec1]
  rw [show getText 100 ((putT 100 S).1 ++ ((putList 100 putN (L.map Int.ofNat)).1 ++ ((putB F).1 ++ t))) = _ from (goodT 100 (by decide)).back S _ h2]
  simp only [getRec2]
  rw [(goodL goodN 100 (by decide)).back L _ h3]
  simp only [getRec3]
  rw [show getFlag ((putB F).1 ++ t) = _ from goodB.back F t rfl]

theorem seq_cut {α β : Type} {f : α → List UInt8 × Bool} {g : List UInt8 → Except Int (β × List UInt8)} {c : β → α} (hg : Good f g c) (b : β) (h : (f (c b)).2 = true) (rest : List UInt8) (k : Nat) (hk : k < ((f (c b)).1 ++ rest).length) :
    g (((f (c b)).1 ++ rest).take k) = .error 20 ∨ ∃ j, j < rest.length ∧ g (((f (c b)).1 ++ rest).take k) = .ok (b, rest.take j) := by
  by_cases h1 : k < (f (c b)).1.length
  · left
    rw [List.take_append_of_le_length (by omega)]
    exact hg.cut b k h h1
  · right
    rw [List.length_append] at hk
    refine ⟨k - (f (c b)).1.length, by omega, ?_⟩
    rw [List.take_append, List.take_of_length_le (by omega)]
    exact hg.back b _ h

theorem rec_cut {n : Nat} {S : ByteArray} {L : List Nat} {F : Bool} (h1 : (putN (Int.ofNat n)).2 = true) (h2 : (putT 100 S).2 = true) (h3 : (putList 100 putN (L.map Int.ofNat)).2 = true) (k : Nat)
    (hk : k < ((putN (Int.ofNat n)).1 ++ ((putT 100 S).1 ++ ((putList 100 putN (L.map Int.ofNat)).1 ++ (putB F).1))).length) :
    getRec (((putN (Int.ofNat n)).1 ++ ((putT 100 S).1 ++ ((putList 100 putN (L.map Int.ofNat)).1 ++ (putB F).1))).take k) = .error 20 := by
  unfold getRec
  rcases seq_cut goodN n h1 _ k hk with h | ⟨k1, hk1, h⟩
  · rw [h]
  · rw [h]
    simp only [getRec1]
    rcases seq_cut (goodT 100 (by decide)) S h2 _ k1 hk1 with h | ⟨k2, hk2, h⟩
    · rw [show getText 100 (((putT 100 S).1 ++ ((putList 100 putN (L.map Int.ofNat)).1 ++ (putB F).1)).take k1) = _ from h]
    · rw [show getText 100 (((putT 100 S).1 ++ ((putList 100 putN (L.map Int.ofNat)).1 ++ (putB F).1)).take k1) = _ from h]
      simp only [getRec2]
      rcases seq_cut (goodL goodN 100 (by decide)) L h3 _ k2 hk2 with h | ⟨k3, hk3, h⟩
      · rw [h]
      · rw [h]
        simp only [getRec3]
        rw [show getFlag ((putB F).1.take k3) = _ from goodB.cut F k3 rfl hk3]

end Go.Proofs.Ytjajgllkbchapaa
