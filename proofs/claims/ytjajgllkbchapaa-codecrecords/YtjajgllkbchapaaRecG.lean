/-
  A record's codec: how it reads, a part at a time.
-/
import Derived.Test.YtjajgllkbchapaaRecB
namespace Go.Proofs.Ytjajgllkbchapaa
open Go.RowKit
set_option linter.unusedSimpArgs false
set_option linter.unusedVariables false

theorem store_one {w : World} {b o : Nat} {arr : Array Value} {T : Nat} {v : Value} (hb : w.heap[b]? = some (.cells arr T)) (ho : o < arr.size) (hv : v.oneCell' = true) : (store ⟨b, o, none⟩ v).run Try.prog w = .ok () (w.setCell ⟨b, o, none⟩ v) := by
  have hc : w.cell? ⟨b, o, none⟩ = some arr[o] := by rw [cell_of_heap hb]; simp [ho]
  rw [run_store _ _ _ _ _ hv, hc]
  simp [frozen_of_heap hb o]

set_option maxRecDepth 100000 in
set_option maxHeartbeats 1000000 in
theorem fgetA {w : World} {r b k q : Nat} {arr : Array Value} {P : Value → World → Prop} (hk : w.cell? ⟨k, 1, none⟩ = some (.func (.func 55) #[] #[])) (hq : w.cell? ⟨q, 0, none⟩ = some (.func (.func 43) #[] #[])) (hb : w.heap[b]? = some (.cells arr 103)) (harr : arr.size = 4) (hbr : b ≠ r) (hbq : b ≠ q) (hkr : k ≠ r) (hqr : q ≠ r) (hkl : k < w.heap.size) (hql : q < w.heap.size)
    (hin : Calls Try.prog 55 #[.pointer (some ⟨r, 0, none⟩)] w.drew fun e w2 => ∃ v, e = .returned v ∧ v.oneCell' = true ∧ P v w2 ∧ w.drew.grownBy w2 (some r)) :
    Calls Try.prog 91 #[.pointer (some ⟨r, 0, none⟩), .pointer (some ⟨b, 0, none⟩), .pointer (some ⟨k, 0, none⟩), .pointer (some ⟨q, 0, none⟩)] w fun e w' => e = .returned (.tuple #[]) ∧ ∃ v w2, v.oneCell' = true ∧ P v w2 ∧ w.grownBy w2 (some r) ∧ w' = w2.setCell ⟨b, 0, none⟩ v := by
  have hbl : b < w.heap.size := (Array.getElem?_eq_some_iff.1 hb).1
  go_enter Try.func91, Try.ntmps91
  go_wp2_with fail
  go_region_with (first | (go_at_call 43; refine (partA _ _).mono ?_; rintro e w1 ⟨rfl, hw1⟩; subst hw1) | (go_at_call 55; refine hin.mono ?_; intro e w3 hw3; obtain ⟨v, he3, hv1, hP, g3⟩ := hw3; subst he3; have hvc := cells_one hv1; unfold Value.cells at hvc; have hb3 := (g3.block b hbl (by simpa using hbr)).trans hb; have hst := store_one (o := 0) hb3 (by omega) hv1; have hq3 := ((gcell g3 (b := q) hql (by simpa using hqr)).1 0).trans hq; have hk3 := ((gcell g3 (b := k) hkl (by simpa using hkr)).1 1).trans hk))
  all_goals
    go_wp2_with fail
    go_end0
    exact ⟨rfl, v, _, hv1, hP, ⟨g3.os, g3.tape, g3.output, g3.size, g3.block⟩, rfl⟩

set_option maxRecDepth 100000 in
set_option maxHeartbeats 1000000 in
theorem fgetS {tb : Nat} {w : World} {r b k q : Nat} {arr : Array Value} {P : Value → World → Prop} (hk : w.cell? ⟨k, 1, none⟩ = some (.func (.func 70) #[] #[.pointer (some ⟨tb, 0, none⟩)])) (hq : w.cell? ⟨q, 0, none⟩ = some (.func (.func 45) #[] #[])) (hb : w.heap[b]? = some (.cells arr 103)) (harr : arr.size = 4) (hbr : b ≠ r) (hbq : b ≠ q) (hkr : k ≠ r) (hqr : q ≠ r) (hkl : k < w.heap.size) (hql : q < w.heap.size)
    (hin : Calls Try.prog 70 #[.pointer (some ⟨r, 0, none⟩), .pointer (some ⟨tb, 0, none⟩)] w.drew fun e w2 => ∃ v, e = .returned v ∧ v.oneCell' = true ∧ P v w2 ∧ w.drew.grownBy w2 (some r)) :
    Calls Try.prog 93 #[.pointer (some ⟨r, 0, none⟩), .pointer (some ⟨b, 0, none⟩), .pointer (some ⟨k, 0, none⟩), .pointer (some ⟨q, 0, none⟩)] w fun e w' => e = .returned (.tuple #[]) ∧ ∃ v w2, v.oneCell' = true ∧ P v w2 ∧ w.grownBy w2 (some r) ∧ w' = w2.setCell ⟨b, 1, none⟩ v := by
  have hbl : b < w.heap.size := (Array.getElem?_eq_some_iff.1 hb).1
  go_enter Try.func93, Try.ntmps93
  go_wp2_with fail
  go_region_with (first | (go_at_call 45; refine (partS _ _).mono ?_; rintro e w1 ⟨rfl, hw1⟩; subst hw1) | (go_at_call 70; refine hin.mono ?_; intro e w3 hw3; obtain ⟨v, he3, hv1, hP, g3⟩ := hw3; subst he3; have hvc := cells_one hv1; unfold Value.cells at hvc; have hb3 := (g3.block b hbl (by simpa using hbr)).trans hb; have hst := store_one (o := 1) hb3 (by omega) hv1; have hq3 := ((gcell g3 (b := q) hql (by simpa using hqr)).1 0).trans hq; have hk3 := ((gcell g3 (b := k) hkl (by simpa using hkr)).1 1).trans hk))
  all_goals
    go_wp2_with fail
    go_end0
    exact ⟨rfl, v, _, hv1, hP, ⟨g3.os, g3.tape, g3.output, g3.size, g3.block⟩, rfl⟩

set_option maxRecDepth 100000 in
set_option maxHeartbeats 1000000 in
theorem fgetL {mb cb : Nat} {w : World} {r b k q : Nat} {arr : Array Value} {P : Value → World → Prop} (hk : w.cell? ⟨k, 1, none⟩ = some (.func (.func 60) #[] #[.pointer (some ⟨mb, 0, none⟩), .pointer (some ⟨cb, 0, none⟩)])) (hq : w.cell? ⟨q, 0, none⟩ = some (.func (.func 47) #[] #[])) (hb : w.heap[b]? = some (.cells arr 103)) (harr : arr.size = 4) (hbr : b ≠ r) (hbq : b ≠ q) (hkr : k ≠ r) (hqr : q ≠ r) (hkl : k < w.heap.size) (hql : q < w.heap.size)
    (hin : Calls Try.prog 60 #[.pointer (some ⟨r, 0, none⟩), .pointer (some ⟨mb, 0, none⟩), .pointer (some ⟨cb, 0, none⟩)] w.drew fun e w2 => ∃ v, e = .returned v ∧ v.oneCell' = true ∧ P v w2 ∧ w.drew.grownBy w2 (some r)) :
    Calls Try.prog 95 #[.pointer (some ⟨r, 0, none⟩), .pointer (some ⟨b, 0, none⟩), .pointer (some ⟨k, 0, none⟩), .pointer (some ⟨q, 0, none⟩)] w fun e w' => e = .returned (.tuple #[]) ∧ ∃ v w2, v.oneCell' = true ∧ P v w2 ∧ w.grownBy w2 (some r) ∧ w' = w2.setCell ⟨b, 2, none⟩ v := by
  have hbl : b < w.heap.size := (Array.getElem?_eq_some_iff.1 hb).1
  go_enter Try.func95, Try.ntmps95
  go_wp2_with fail
  go_region_with (first | (go_at_call 47; refine (partL _ _).mono ?_; rintro e w1 ⟨rfl, hw1⟩; subst hw1) | (go_at_call 60; refine hin.mono ?_; intro e w3 hw3; obtain ⟨v, he3, hv1, hP, g3⟩ := hw3; subst he3; have hvc := cells_one hv1; unfold Value.cells at hvc; have hb3 := (g3.block b hbl (by simpa using hbr)).trans hb; have hst := store_one (o := 2) hb3 (by omega) hv1; have hq3 := ((gcell g3 (b := q) hql (by simpa using hqr)).1 0).trans hq; have hk3 := ((gcell g3 (b := k) hkl (by simpa using hkr)).1 1).trans hk))
  all_goals
    go_wp2_with fail
    go_end0
    exact ⟨rfl, v, _, hv1, hP, ⟨g3.os, g3.tape, g3.output, g3.size, g3.block⟩, rfl⟩

set_option maxRecDepth 100000 in
set_option maxHeartbeats 1000000 in
theorem fgetF {w : World} {r b k q : Nat} {arr : Array Value} {P : Value → World → Prop} (hk : w.cell? ⟨k, 1, none⟩ = some (.func (.func 66) #[] #[])) (hq : w.cell? ⟨q, 0, none⟩ = some (.func (.func 49) #[] #[])) (hb : w.heap[b]? = some (.cells arr 103)) (harr : arr.size = 4) (hbr : b ≠ r) (hbq : b ≠ q) (hkr : k ≠ r) (hqr : q ≠ r) (hkl : k < w.heap.size) (hql : q < w.heap.size)
    (hin : Calls Try.prog 66 #[.pointer (some ⟨r, 0, none⟩)] w.drew fun e w2 => ∃ v, e = .returned v ∧ v.oneCell' = true ∧ P v w2 ∧ w.drew.grownBy w2 (some r)) :
    Calls Try.prog 97 #[.pointer (some ⟨r, 0, none⟩), .pointer (some ⟨b, 0, none⟩), .pointer (some ⟨k, 0, none⟩), .pointer (some ⟨q, 0, none⟩)] w fun e w' => e = .returned (.tuple #[]) ∧ ∃ v w2, v.oneCell' = true ∧ P v w2 ∧ w.grownBy w2 (some r) ∧ w' = w2.setCell ⟨b, 3, none⟩ v := by
  have hbl : b < w.heap.size := (Array.getElem?_eq_some_iff.1 hb).1
  go_enter Try.func97, Try.ntmps97
  go_wp2_with fail
  go_region_with (first | (go_at_call 49; refine (partF _ _).mono ?_; rintro e w1 ⟨rfl, hw1⟩; subst hw1) | (go_at_call 66; refine hin.mono ?_; intro e w3 hw3; obtain ⟨v, he3, hv1, hP, g3⟩ := hw3; subst he3; have hvc := cells_one hv1; unfold Value.cells at hvc; have hb3 := (g3.block b hbl (by simpa using hbr)).trans hb; have hst := store_one (o := 3) hb3 (by omega) hv1; have hq3 := ((gcell g3 (b := q) hql (by simpa using hqr)).1 0).trans hq; have hk3 := ((gcell g3 (b := k) hkl (by simpa using hkr)).1 1).trans hk))
  all_goals
    go_wp2_with fail
    go_end0
    exact ⟨rfl, v, _, hv1, hP, ⟨g3.os, g3.tape, g3.output, g3.size, g3.block⟩, rfl⟩


def getRec3 (n : Nat) (S : ByteArray) (L : List Nat) (l : List UInt8) : Except Int ((Nat × ByteArray × List Nat × Bool) × List UInt8) :=
  match getFlag l with
  | .ok (F, t) => .ok ((n, S, L, F), t)
  | .error e => .error e
def getRec2 (n : Nat) (S : ByteArray) (l : List UInt8) : Except Int ((Nat × ByteArray × List Nat × Bool) × List UInt8) :=
  match getList 100 getN l with
  | .ok (L, t) => getRec3 n S L t
  | .error e => .error e
def getRec1 (n : Nat) (l : List UInt8) : Except Int ((Nat × ByteArray × List Nat × Bool) × List UInt8) :=
  match getText 100 l with
  | .ok (S, t) => getRec2 n S t
  | .error e => .error e
def getRec (l : List UInt8) : Except Int ((Nat × ByteArray × List Nat × Bool) × List UInt8) :=
  match getN l with
  | .ok (n, t) => getRec1 n t
  | .error e => .error e

/-- What reading a part ends in, told without the cases. -/
def gotP {α : Type} (rep : World → Value → α → Prop) (r : Nat) (X : Except Int (α × List UInt8)) (v : Value) (w' : World) : Prop :=
  match X with
  | .ok (a, l) => rep w' v a ∧ ROk w' r l
  | .error er => er ≠ 0 ∧ RBad w' r er

theorem got_form {α : Type} {rep : World → Value → α → Prop} {w : World} {r : Nat} {X : Except Int (α × List UInt8)} (hr1 : ∀ w v a, rep w v a → v.oneCell' = true) {e : Ending} {w' : World} (h : got rep w r X e w') :
    ∃ v, e = .returned v ∧ v.oneCell' = true ∧ gotP rep r X v w' ∧ w.grownBy w' (some r) := by
  unfold got at h
  match X with
  | .ok (a, l) =>
    obtain ⟨v, he, hv, hR, hg⟩ := h
    exact ⟨v, he, hr1 _ _ _ hv, ⟨hv, hR⟩, hg⟩
  | .error er =>
    obtain ⟨v, he, hv, hn, hR, hg⟩ := h
    exact ⟨v, he, hv, ⟨hn, hR⟩, hg⟩

end Go.Proofs.Ytjajgllkbchapaa
