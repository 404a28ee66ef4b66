/-
  The document's example begins as it says.
-/
import Derived.Test.YtddjihlmlfchdaaTermF
namespace Go.Proofs.Ytddjihlmlfchdaa
open Go.RowKit
set_option linter.unusedSimpArgs false
set_option linter.unusedVariables false

/-- A store that the call itself made: it and all of its blocks are new since w0. -/
structure Mine (w0 : World) (s : Nat) (w : World) (ns : List Nd) (dr : Int) : Prop where
  st : StoreAt w s ns dr
  below : Below w0.heap.size w0 w
  own : ∀ k, Own w s k → w0.heap.size ≤ k

theorem Mine.moved {w0 w w' : World} {s : Nat} {ns ns' : List Nd} {dr dr' : Int} (h : Mine w0 s w ns dr) (hs : StoreAt w' s ns' dr') (hm : Moved s w w') : Mine w0 s w' ns' dr' := by
  have hsz := h.below.size
  refine ⟨hs, h.below.trans ⟨hm.os, hm.tape, hm.output, hm.size, fun k hk => hm.block k (by omega) (fun ho => by have := h.own k ho; omega)⟩, fun k hk => ?_⟩
  rcases hm.own k hk with ho | hge
  · exact h.own k ho
  · omega

theorem Mine.grow {w0 w w' : World} {s : Nat} {ns : List Nd} {dr : Int} (h : Mine w0 s w ns dr) (hb : Below w.heap.size w w') : Mine w0 s w' ns dr :=
  h.moved (h.st.below hb) (.ofBelow h.st.lt hb)

theorem text_mine {w0 w : World} {s : Nat} {ns ns' : List Nd} {dr t er : Int} (h : Mine w0 s w ns dr) (l : ByteArray) (hk : makeF ns ⟨2, l, 0, 0⟩ = (t, er, ns')) :
    Calls Try.prog 16 #[.pointer (some ⟨s, 0, none⟩), .string l] w fun e w' => e = .returned (.int .i64 t) ∧ Mine w0 s w' ns' dr := by
  refine (text_any h.st l).mono ?_
  rw [hk]
  rintro e w' ⟨rfl, hst, hmv⟩
  exact ⟨rfl, h.moved hst hmv⟩

theorem pub_mine {w0 w : World} {s : Nat} {ns ns' : List Nd} {dr t er : Int} (h : Mine w0 s w ns dr) (a : Int) (hk : makeF ns ⟨6, ⟨#[]⟩, a, 0⟩ = (t, er, ns')) :
    Calls Try.prog 17 #[.pointer (some ⟨s, 0, none⟩), .int .i64 a] w fun e w' => e = .returned (.int .i64 t) ∧ Mine w0 s w' ns' dr := by
  refine (pub_any h.st a).mono ?_
  rw [hk]
  rintro e w' ⟨rfl, hst, hmv⟩
  exact ⟨rfl, h.moved hst hmv⟩

theorem seal_mine {w0 w : World} {s : Nat} {ns ns' : List Nd} {dr t er : Int} (h : Mine w0 s w ns dr) (a b : Int) (hk : makeF ns ⟨7, ⟨#[]⟩, a, b⟩ = (t, er, ns')) :
    Calls Try.prog 18 #[.pointer (some ⟨s, 0, none⟩), .int .i64 a, .int .i64 b] w fun e w' => e = .returned (.int .i64 t) ∧ Mine w0 s w' ns' dr := by
  refine (seal_any h.st a b).mono ?_
  rw [hk]
  rintro e w' ⟨rfl, hst, hmv⟩
  exact ⟨rfl, h.moved hst hmv⟩

theorem box_mine {w0 w : World} {s : Nat} {ns ns' : List Nd} {dr t er : Int} (h : Mine w0 s w ns dr) (a b : Int) (hk : makeF ns ⟨8, ⟨#[]⟩, a, b⟩ = (t, er, ns')) :
    Calls Try.prog 19 #[.pointer (some ⟨s, 0, none⟩), .int .i64 a, .int .i64 b] w fun e w' => e = .returned (.int .i64 t) ∧ Mine w0 s w' ns' dr := by
  refine (box_any h.st a b).mono ?_
  rw [hk]
  rintro e w' ⟨rfl, hst, hmv⟩
  exact ⟨rfl, h.moved hst hmv⟩

theorem sign_mine {w0 w : World} {s : Nat} {ns ns' : List Nd} {dr t er : Int} (h : Mine w0 s w ns dr) (a b : Int) (hk : makeF ns ⟨9, ⟨#[]⟩, a, b⟩ = (t, er, ns')) :
    Calls Try.prog 20 #[.pointer (some ⟨s, 0, none⟩), .int .i64 a, .int .i64 b] w fun e w' => e = .returned (.int .i64 t) ∧ Mine w0 s w' ns' dr := by
  refine (sign_any h.st a b).mono ?_
  rw [hk]
  rintro e w' ⟨rfl, hst, hmv⟩
  exact ⟨rfl, h.moved hst hmv⟩

theorem pair_mine {w0 w : World} {s : Nat} {ns ns' : List Nd} {dr t er : Int} (h : Mine w0 s w ns dr) (a b : Int) (hk : makeF ns ⟨3, ⟨#[]⟩, a, b⟩ = (t, er, ns')) :
    Calls Try.prog 27 #[.pointer (some ⟨s, 0, none⟩), .int .i64 a, .int .i64 b] w fun e w' => e = .returned (.int .i64 t) ∧ Mine w0 s w' ns' dr := by
  refine (pair_any h.st a b).mono ?_
  rw [hk]
  rintro e w' ⟨rfl, hst, hmv⟩
  exact ⟨rfl, h.moved hst hmv⟩

theorem fresh_mine {w0 w : World} {s : Nat} {ns ns' : List Nd} {dr t er : Int} (h : Mine w0 s w ns dr) (d0 : 0 ≤ dr) (d1 : dr ≤ 1099511627776) (hk : makeF ns (atom (dr + 1)) = (t, er, ns')) :
    Calls Try.prog 15 #[.pointer (some ⟨s, 0, none⟩)] w fun e w' => e = .returned (.int .i64 t) ∧ Mine w0 s w' ns' (if t = 0 then dr else dr + 1) := by
  refine (fresh_any h.st d0 d1).mono ?_
  unfold freshD
  rw [hk]
  rintro e w' ⟨rfl, hst, hmv⟩
  exact ⟨rfl, h.moved hst hmv⟩

theorem make_mine {w0 w : World} {s : Nat} {ns ns' : List Nd} {dr t er : Int} (h : Mine w0 s w ns dr) (n : Nd) (hk : makeF ns n = (t, er, ns')) :
    Calls Try.prog 13 #[.pointer (some ⟨s, 0, none⟩), .agg #[.int .i64 n.kind, .string n.label, .int .i64 n.a, .int .i64 n.b]] w fun e w' => e = .returned (.tuple #[.int .i64 t, .int .i64 er]) ∧ Mine w0 s w' ns' dr := by
  refine (make_any h.st n).mono ?_
  rw [hk]
  rintro e w' ⟨rfl, hst, hmv⟩
  exact ⟨rfl, h.moved hst hmv⟩

theorem new_mine (w0 w : World) (hb0 : Below w0.heap.size w0 w) :
    Calls Try.prog 11 #[] w fun e w' => ∃ s, e = .returned (.pointer (some ⟨s, 0, none⟩)) ∧ Mine w0 s w' [] 0 := by
  refine (new_any _).mono ?_
  rintro e w1 ⟨s, rfl, hs, hst, hb, hown⟩
  exact ⟨s, rfl, hst, hb0.trans (hb.mono hb0.size), fun k hk => Nat.le_trans hb0.size (hown k hk)⟩

theorem len_mine {w0 w : World} {s : Nat} {ns : List Nd} {dr : Int} (h : Mine w0 s w ns dr) :
    Calls Try.prog 12 #[.pointer (some ⟨s, 0, none⟩)] w fun e w' => e = .returned (.int .i64 ns.length) ∧ w' = w := len_any h.st

def nText (l : ByteArray) : Nd := ⟨2, l, 0, 0⟩
def nPub (a : Int) : Nd := ⟨6, ⟨#[]⟩, a, 0⟩
def nPair (a b : Int) : Nd := ⟨3, ⟨#[]⟩, a, b⟩
def nBox (a b : Int) : Nd := ⟨8, ⟨#[]⟩, a, b⟩

theorem bytes_self (a : ByteArray) : (a == a) = true := (bytes_beq a a).2 rfl

theorem mk1 : makeF [] (atom 1) = (1, 0, [atom 1]) := by simp [makeF, fitsB, atom, emptyB, findN]
theorem mk2 : makeF [atom 1] (nText ⟨#[97]⟩) = (2, 0, [atom 1, nText ⟨#[97]⟩]) := by simp [makeF, fitsB, atom, nText, emptyB, findN, Nd.beq, bytes_self, ByteArray.size]
theorem mk3 : makeF [atom 1, nText ⟨#[97]⟩] (nPub 1) = (3, 0, [atom 1, nText ⟨#[97]⟩, nPub 1]) := by simp [makeF, fitsB, atom, nText, nPub, emptyB, findN, Nd.beq, bytes_self, ByteArray.size, hasB]
theorem mk4 : makeF [atom 1, nText ⟨#[97]⟩, nPub 1] (nBox 3 2) = (4, 0, [atom 1, nText ⟨#[97]⟩, nPub 1, nBox 3 2]) := by simp [makeF, fitsB, atom, nText, nPub, nBox, emptyB, findN, Nd.beq, bytes_self, ByteArray.size, hasB, nodeF]
theorem mk5 : makeF [atom 1, nText ⟨#[97]⟩, nPub 1, nBox 3 2] (nPair 1 2) = (5, 0, [atom 1, nText ⟨#[97]⟩, nPub 1, nBox 3 2, nPair 1 2]) := by simp [makeF, fitsB, atom, nText, nPub, nBox, nPair, emptyB, findN, Nd.beq, bytes_self, ByteArray.size, hasB, nodeF]
theorem mk6 : makeF [atom 1, nText ⟨#[97]⟩, nPub 1, nBox 3 2, nPair 1 2] (nPair 1 2) = (5, 0, [atom 1, nText ⟨#[97]⟩, nPub 1, nBox 3 2, nPair 1 2]) := by simp [makeF, fitsB, atom, nText, nPub, nBox, nPair, emptyB, findN, Nd.beq, bytes_self, ByteArray.size, hasB, nodeF]
theorem mk7 : makeF [atom 1, nText ⟨#[97]⟩, nPub 1, nBox 3 2, nPair 1 2] (nBox 2 2) = (0, 10, [atom 1, nText ⟨#[97]⟩, nPub 1, nBox 3 2, nPair 1 2]) := by simp [makeF, fitsB, atom, nText, nPub, nBox, nPair, emptyB, findN, Nd.beq, bytes_self, ByteArray.size, hasB, nodeF]
theorem ub4 : unboxF [atom 1, nText ⟨#[97]⟩, nPub 1, nBox 3 2] 1 4 = 2 ∧ unboxB [atom 1, nText ⟨#[97]⟩, nPub 1, nBox 3 2] 1 4 = true := by simp [unboxF, unboxB, pubB, atom, nText, nPub, nBox, nPair, Nd.beq, bytes_self, hasB, nodeF]

set_option maxRecDepth 100000 in
set_option maxHeartbeats 1000000 in
theorem anchor_any (w : World) : Calls Try.prog 10 #[] w fun e w' => e = .returned (.bool true) ∧ Below w.heap.size w w' := by
  go_enter Try.func10, Try.ntmps10
  go_wp2_with fail
  refine (new_mine w w (Below.refl _ _)).mono ?_
  rintro e w1 ⟨s, rfl, m1⟩
  go_wp2_with fail
  refine (fresh_mine m1 (by omega) (by omega) mk1).mono ?_
  rintro e w2 ⟨rfl, m2⟩
  go_wp2_with fail
  refine (text_mine m2 _ mk2).mono ?_
  rintro e w3 ⟨rfl, m3⟩
  go_wp2_with fail
  refine (pub_mine m3 _ mk3).mono ?_
  rintro e w4 ⟨rfl, m4⟩
  go_wp2_with fail
  refine (box_mine m4 _ _ mk4).mono ?_
  rintro e w5 ⟨rfl, m5⟩
  go_wp2_with fail
  refine (unbox_any m5.st _ _).mono ?_
  rw [ub4.1, ub4.2]
  rintro e w6 ⟨rfl, hb6⟩
  have m6 := m5.grow hb6
  clear m1 m2 m3 m4 m5 hb6
  go_wp2_with fail
  refine (pair_mine m6 _ _ mk5).mono ?_
  rintro e w7 ⟨rfl, m7⟩
  clear m6
  go_wp2_with fail
  refine (pair_mine m7 _ _ mk6).mono ?_
  rintro e w8 ⟨rfl, m8⟩
  clear m7
  go_wp2_with fail
  refine (box_mine m8 _ _ mk7).mono ?_
  rintro e w9 ⟨rfl, m9⟩
  clear m8
  go_wp2_with fail
  refine (len_mine m9).mono ?_
  rintro e w10 ⟨rfl, rfl⟩
  go_wp2
  go_ret
  exact ⟨rfl, m9.below⟩

end Go.Proofs.Ytddjihlmlfchdaa
