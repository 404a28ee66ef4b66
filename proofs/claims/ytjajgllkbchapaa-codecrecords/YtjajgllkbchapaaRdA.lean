/-
  Where a Reader lies, and its take.
-/
import Derived.Test.YtjajgllkbchapaaWrA
import Derived.Deep.QuietTactic
import Derived.BigQuiet
import Derived.BigGuardPart
namespace Go.Proofs.Ytjajgllkbchapaa
open Go.RowKit
set_option linter.unusedSimpArgs false
set_option linter.unusedVariables false

theorem grown_below {a w w' : World} {row : Option Nat} (h : a.grownBy w row) (hb : Below w.heap.size w w') : a.grownBy w' row :=
  h.trans ⟨hb.os, hb.tape, hb.output, hb.size, fun k hk _ => hb.block k hk⟩
theorem grown_set {a w : World} {b : Nat} (h : a.grownBy w (some b)) (i : Nat) (v : Value) : a.grownBy (w.setCell ⟨b, i, none⟩ v) (some b) :=
  h.trans (Lib.grownBy_setCell w b i v)
theorem grown_drew {a w : World} {row : Option Nat} (h : a.grownBy w row) : a.grownBy w.drew row := ⟨h.os, h.tape, h.output, h.size, h.block⟩

/-- The Reader at r is at the place k of s. -/
def RAt (w : World) (r : Nat) (s : ByteArray) (k : Nat) (er : Int) : Prop :=
  w.heap[r]? = some (.cells #[.string s, .int .i64 k, .int .i64 er] 134) ∧ k ≤ s.size ∧ (s.size : Int) ≤ 1099511627776

/-- It has just the bytes l before it, and no error. -/
def ROk (w : World) (r : Nat) (l : List UInt8) : Prop := ∃ s k, RAt w r s k 0 ∧ s.data.toList.drop k = l
/-- It has the error e. -/
def RBad (w : World) (r : Nat) (e : Int) : Prop := ∃ s k, RAt w r s k e

theorem RAt.lt {w : World} {r : Nat} {s : ByteArray} {k : Nat} {er : Int} (h : RAt w r s k er) : r < w.heap.size := (Array.getElem?_eq_some_iff.1 h.1).1
theorem ROk.lt {w : World} {r : Nat} {l : List UInt8} (h : ROk w r l) : r < w.heap.size := by
  obtain ⟨s, k, h, _⟩ := h
  exact h.lt
theorem RBad.lt {w : World} {r : Nat} {e : Int} (h : RBad w r e) : r < w.heap.size := by
  obtain ⟨s, k, h⟩ := h
  exact h.lt
theorem RAt.cells {w : World} {r : Nat} {s : ByteArray} {k : Nat} {er : Int} (h : RAt w r s k er) : w.cell? ⟨r, 0, none⟩ = some (.string s) ∧ w.cell? ⟨r, 1, none⟩ = some (.int .i64 k) ∧ w.cell? ⟨r, 2, none⟩ = some (.int .i64 er) ∧ (∀ o, w.frozen? ⟨r, o, none⟩ = false) ∧ r < w.heap.size :=
  ⟨by rw [cell_of_heap h.1]; rfl, by rw [cell_of_heap h.1]; rfl, by rw [cell_of_heap h.1]; rfl, fun o => frozen_of_heap h.1 o, h.lt⟩
theorem RAt.fail {w : World} {r : Nat} {s : ByteArray} {k : Nat} {er : Int} (h : RAt w r s k er) (x : Int) : RAt (w.setCell ⟨r, 2, none⟩ (.int .i64 x)) r s k x :=
  ⟨by rw [heap_setCell_at h.1]; simp, h.2⟩
theorem RAt.move {w : World} {r : Nat} {s : ByteArray} {k : Nat} {er : Int} (h : RAt w r s k er) (n : Nat) (hn : n ≤ s.size) (x : Int) (hx : x = n) : RAt (w.setCell ⟨r, 1, none⟩ (.int .i64 x)) r s n er :=
  ⟨by rw [heap_setCell_at h.1]; simp [hx], hn, h.2.2⟩
theorem RAt.below {w w' : World} {r : Nat} {s : ByteArray} {k : Nat} {er : Int} (h : RAt w r s k er) (hb : Below w.heap.size w w') : RAt w' r s k er :=
  ⟨(hb.block r h.lt).trans h.1, h.2⟩
theorem ROk.below {w w' : World} {r : Nat} {l : List UInt8} (h : ROk w r l) (hb : Below w.heap.size w w') : ROk w' r l := by
  obtain ⟨s, k, h, hd⟩ := h
  exact ⟨s, k, h.below hb, hd⟩
theorem RBad.below {w w' : World} {r : Nat} {e : Int} (h : RBad w r e) (hb : Below w.heap.size w w') : RBad w' r e := by
  obtain ⟨s, k, h⟩ := h
  exact ⟨s, k, h.below hb⟩
theorem RAt.drew {w : World} {r : Nat} {s : ByteArray} {k : Nat} {er : Int} (h : RAt w r s k er) : RAt w.drew r s k er := h

set_option maxHeartbeats 400000 in
theorem take_err {w : World} {r : Nat} {s : ByteArray} {k : Nat} {er : Int} (h : RAt w r s k er) (he : (er == 0) = false) (he2 : (er != 0) = true) (n : Int) :
    Calls Try.prog 72 #[.pointer (some ⟨r, 0, none⟩), .int .i64 n] w fun e w' => e = .returned (.string ⟨#[]⟩) ∧ RAt w' r s k er ∧ w.grownBy w' (some r) := by
  obtain ⟨c0, c1, c2, cf, hlt⟩ := h.cells
  go_enter Try.func72, Try.ntmps72
  go_wp2_with fail
  go_region
  all_goals
    go_wp2_with fail
    go_ret
    exact ⟨rfl, h, grown_drew (World.grownBy.refl _ _)⟩

set_option maxHeartbeats 400000 in
theorem take_end {w : World} {r : Nat} {s : ByteArray} {k : Nat} (h : RAt w r s k 0) (n : Int) (hn : (s.size : Int) - k < n) :
    Calls Try.prog 72 #[.pointer (some ⟨r, 0, none⟩), .int .i64 n] w fun e w' => e = .returned (.string ⟨#[]⟩) ∧ RAt w' r s k 20 ∧ w.grownBy w' (some r) := by
  obtain ⟨c0, c1, c2, cf, hlt⟩ := h.cells
  have hk : (k : Int) ≤ s.size := by have := h.2.1; omega
  have hs := h.2.2
  go_enter Try.func72, Try.ntmps72
  go_wp2_with fail
  go_region
  all_goals
    go_wp2_with fail
    go_ret
    exact ⟨rfl, (h.fail 20).drew, grown_drew (grown_set (World.grownBy.refl _ _) _ _)⟩

set_option maxHeartbeats 400000 in
theorem take_raw {w : World} {r : Nat} {s : ByteArray} {k : Nat} (h : RAt w r s k 0) (n : Nat) (hn : (n : Int) ≤ (s.size : Int) - k) :
    Calls Try.prog 72 #[.pointer (some ⟨r, 0, none⟩), .int .i64 n] w fun e w' => e = .returned (.string (s.extract k (k + n))) ∧ RAt w' r s (k + n) 0 ∧ w.grownBy w' (some r) := by
  obtain ⟨c0, c1, c2, cf, hlt⟩ := h.cells
  have hk : (k : Int) ≤ s.size := by have := h.2.1; omega
  have hs := h.2.2
  have hd : ¬ (s.size : Int) - k < (n : Int) := by omega
  have hmv := h.move (k + n) (by omega) ((k : Int) + n) (by omega)
  have hgr := grown_set (World.grownBy.refl w (some r)) 1 (.int .i64 ((k : Int) + n))
  obtain ⟨d0, d1, d2, df, dlt⟩ := hmv.cells
  go_enter Try.func72, Try.ntmps72
  go_wp2_with fail
  go_region
  all_goals
    go_wp2_with fail
    generalize w.setCell ⟨r, 1, none⟩ (.int .i64 ((k : Int) + n)) = w1 at *
    go_region
  all_goals
    go_wp2_with fail
    go_ret
    exact ⟨rfl, hmv.drew.drew, grown_drew (grown_drew hgr)⟩

theorem ROk.bad {w : World} {r : Nat} {s : ByteArray} {k : Nat} {e : Int} (h : RAt w r s k e) : RBad w r e := ⟨s, k, h⟩

theorem take_short {w : World} {r : Nat} {l : List UInt8} (h : ROk w r l) (n : Int) (hn : (l.length : Int) < n) :
    Calls Try.prog 72 #[.pointer (some ⟨r, 0, none⟩), .int .i64 n] w fun e w' => e = .returned (.string ⟨#[]⟩) ∧ RBad w' r 20 ∧ w.grownBy w' (some r) := by
  obtain ⟨s, k, h, rfl⟩ := h
  have hk := h.2.1
  have hl : (s.data.toList.drop k).length = s.size - k := by rw [List.length_drop]; rfl
  refine (take_end h n (by omega)).mono ?_
  rintro e w' ⟨rfl, h1, h2⟩
  exact ⟨rfl, ⟨s, k, h1⟩, h2⟩

theorem take_ok {w : World} {r : Nat} {l : List UInt8} (h : ROk w r l) (n : Nat) (hn : n ≤ l.length) :
    Calls Try.prog 72 #[.pointer (some ⟨r, 0, none⟩), .int .i64 n] w fun e w' => e = .returned (.string ⟨(l.take n).toArray⟩) ∧ ROk w' r (l.drop n) ∧ w.grownBy w' (some r) := by
  obtain ⟨s, k, h, rfl⟩ := h
  have hk := h.2.1
  have hl : (s.data.toList.drop k).length = s.size - k := by rw [List.length_drop]; rfl
  refine (take_raw h n (by omega)).mono ?_
  rintro e w' ⟨rfl, h1, h2⟩
  refine ⟨?_, ⟨s, k + n, h1, by rw [List.drop_drop]⟩, h2⟩
  congr 2
  apply ByteArray.ext
  apply Array.ext'
  rw [Lib.extract_data]
  simp [List.take_drop]

theorem take_bad {w : World} {r : Nat} {er : Int} (h : RBad w r er) (he : er ≠ 0) (n : Int) :
    Calls Try.prog 72 #[.pointer (some ⟨r, 0, none⟩), .int .i64 n] w fun e w' => e = .returned (.string ⟨#[]⟩) ∧ RBad w' r er ∧ w.grownBy w' (some r) := by
  obtain ⟨s, k, h⟩ := h
  refine (take_err h (by simpa using he) (by simpa using he) n).mono ?_
  rintro e w' ⟨rfl, h1, h2⟩
  exact ⟨rfl, ⟨s, k, h1⟩, h2⟩

end Go.Proofs.Ytjajgllkbchapaa
