/-
  The arithmetic of trees in an array, as functions on numbers; facts of the few trees that there are, by reckoning each · The calls of package heap that only reckon, and the document's: which trees and places there are, levels, roots · Levels by the document, parents, siblings, children, roots: as the calls answer them · The way up from a place to the root, as package heap's iterator yields it · Whether a place is below another: package heap's Under · The path of a place: package heap's Path · The siblings along a path: package heap's Copath · The document's answers: widths, what is below what, parents, siblings, the common place · The document's paths and copaths, as lists that are made; whether two lists are the same · The document's paths and copaths, as lists that are made.
-/
import Derived.Test.YtmcjincgppddeaaDoorRows
import Derived.Lib.TrailingZeros
import Derived.BigGuardPart
import Derived.WalkKit
import Derived.WalkSpells
import Derived.WalkLawsBesides
import Derived.Laws.Bits64b
import Derived.RangeFuncNested
import Derived.RangeFuncBound
import Derived.RangeFuncCalls
import Derived.RangeFuncLeaves
import Derived.RangeFuncBox
import Derived.Shelf.Abstract
import Derived.Shelf.RegionOpen
import Derived.OwnWalkIn
import Derived.TacticsInMore
import Derived.LoopNIn
import Derived.LoopIn
import Derived.Maps.AppendAt
import Derived.Deep.Onto
import Derived.Laws.AppendOwn
namespace Go.Proofs.YtmcjincgppddeaaDoor
open Go.RowKit 
set_option linter.unusedSimpArgs false
set_option linter.unusedVariables false

def sizes : List Int := [1, 2, 4, 8, 16, 32]

def rightB (n : Int) : Bool := n == 1 || n == 2 || n == 4 || n == 8 || n == 16 || n == 32

def inB (x n : Int) : Bool := rightB n && decide (0 ≤ x) && decide (x < 2 * n - 1)

def leafB (i n : Int) : Bool := rightB n && decide (0 ≤ i) && decide (i < n)

/-- How many ones a number ends with. -/
def levN : Nat → Nat → Nat
  | 0, _ => 0
  | f + 1, x => if x % 2 = 1 then levN f (x / 2) + 1 else 0

def lev (x : Int) : Int := (levN 64 x.toNat : Nat)

def bitN (x : Int) : Nat := 2 ^ levN 64 x.toNat

def parI (x : Int) : Int := (((x.toNat ||| bitN x) - (if (x.toNat / (2 * bitN x)) % 2 = 1 then 2 * bitN x else 0) : Nat) : Int)

def sibI (x : Int) : Int := ((x.toNat ^^^ (2 * bitN x) : Nat) : Int)

/-- From a place up to the root. -/
def upF : Nat → Int → Int → List Int
  | 0, x, _ => [x]
  | f + 1, x, n => if x == n - 1 then [x] else x :: upF f (parI x) n

def upOk : Nat → Int → Int → Bool
  | 0, x, n => x == n - 1
  | f + 1, x, n => x == n - 1 || upOk f (parI x) n

def up (x n : Int) : List Int := upF 6 x n

def pathI (x n : Int) : List Int := (up x n).filter fun y => y != x

def copathI (x n : Int) : List Int := ((up x n).filter fun y => y != n - 1).map sibI

def underB (x y n : Int) : Bool := inB x n && inB y n && (up x n).contains y

theorem rightB_mem {n : Int} (h : rightB n = true) : n ∈ sizes := by
  simp [rightB] at h; simp [sizes]; omega

theorem inB_right {x n : Int} (h : inB x n = true) : rightB n = true := by
  simp [inB] at h; exact h.1.1

theorem inB_bounds {x n : Int} (h : inB x n = true) : 0 ≤ x ∧ x < 2 * n - 1 := by
  simp [inB] at h; exact ⟨h.1.2, h.2⟩

theorem rightB_bounds {n : Int} (h : rightB n = true) : 1 ≤ n ∧ n ≤ 32 := by
  simp [rightB] at h; omega

theorem inB_lt {x n : Int} (h : inB x n = true) : 0 ≤ x ∧ x < 63 := by
  have h1 := inB_bounds h; have h2 := rightB_bounds (inB_right h); omega

theorem leafB_in {i n : Int} (h : leafB i n = true) : inB (2 * i) n = true := by
  simp [leafB] at h; simp [inB, h.1.1]; omega

theorem forall_lt (k : Nat) (P : Int → Bool) (h : ((List.range k).all fun x => P (x : Int)) = true) (x : Int) (h0 : 0 ≤ x) (h1 : x < k) : P x = true := by
  rw [List.all_eq_true] at h
  have := h x.toNat (List.mem_range.2 (by omega))
  rwa [Int.toNat_of_nonneg h0] at this

theorem forall_in (P : Int → Int → Bool) (h : (sizes.all fun n => (List.range 63).all fun x => !inB (x : Int) n || P (x : Int) n) = true) (x n : Int) (hx : inB x n = true) : P x n = true := by
  rw [List.all_eq_true] at h
  have h1 := h n (rightB_mem (inB_right hx))
  have h2 := forall_lt 63 (fun x => !inB x n || P x n) h1 x (inB_lt hx).1 (inB_lt hx).2
  simpa [hx] using h2

theorem up_ok {x n : Int} (h : inB x n = true) : upOk 6 x n = true := forall_in (fun x n => upOk 6 x n) (by decide +kernel) x n h

theorem par_in {x n : Int} (h : inB x n = true) (hr : (x == n - 1) = false) : inB (parI x) n = true := by
  have := forall_in (fun x n => x == n - 1 || inB (parI x) n) (by decide +kernel) x n h
  simpa [hr] using this

theorem up_len (f : Nat) : ∀ x n : Int, (upF f x n).length ≤ f + 1 := by
  induction f with
  | zero => intro x n; simp [upF]
  | succ f ih => intro x n; unfold upF; split <;> simp; have := ih (parI x) n; omega

/-- The level by the lowest zero bit. -/
theorem ctzFrom_lev (f : Nat) : ∀ (k x : Nat), f ≤ k → x < 2 ^ k → Lib.ctzFrom f (2 ^ k - 1 - x) = levN f x := by
  induction f with
  | zero => intro k x _ _; rfl
  | succ f ih =>
    intro k x hk hx
    obtain ⟨k, rfl⟩ : ∃ j, k = j + 1 := ⟨k - 1, by omega⟩
    have hp : 2 ^ (k + 1) = 2 * 2 ^ k := by rw [Nat.pow_succ]; omega
    have h0 : 0 < 2 ^ k := Nat.pow_pos (by decide)
    unfold Lib.ctzFrom levN
    by_cases hx1 : x % 2 = 1
    · rw [if_neg (by omega), if_pos hx1]
      have e : (2 ^ (k + 1) - 1 - x) / 2 = 2 ^ k - 1 - x / 2 := by omega
      rw [e, ih k (x / 2) (by omega) (by omega)]; omega
    · rw [if_pos (by omega), if_neg hx1]

theorem ctz_lev (x : Nat) (hx : x < 9223372036854775808) : Lib.ctz 64 (18446744073709551615 - x) = levN 64 x := by
  have e : Lib.ctz 64 (18446744073709551615 - x) = Lib.ctzFrom 64 (18446744073709551615 - x) := by
    unfold Lib.ctz; rw [if_neg (by omega)]
  rw [e]
  exact ctzFrom_lev 64 64 x (Nat.le_refl _) (by omega)

end Go.Proofs.YtmcjincgppddeaaDoor

namespace Go.Proofs.YtmcjincgppddeaaDoor
open Go.RowKit
set_option linter.unusedSimpArgs false
set_option linter.unusedVariables false

/-- The table of math/bits as it is laid. -/
def Tab (w : World) : Prop := ∀ j, j < 64 → w.cell? ⟨2, j, none⟩ = some (.int .u8 (Lib.deBruijn64tab.getD j 0 : Nat))

theorem Tab.size {w : World} (h : Tab w) : 2 < w.heap.size := by
  have := h 0 (by decide)
  by_cases hs : 2 < w.heap.size
  · exact hs
  · exfalso
    have hn : w.heap[2]? = none := Array.getElem?_eq_none (by omega)
    simp [World.cell?, hn] at this

theorem Tab.below {n : Nat} {w w' : World} (h : Tab w) (hb : Below n w w') (hn : 2 < n) : Tab w' := fun j hj =>
  (hb.cell (p := ⟨2, j, none⟩) hn).trans (h j hj)

set_option maxHeartbeats 400000 in
theorem right_any (n : Int) (w : World) :
    Calls Tryd.prog 73 #[.int .i64 n] w fun e w' => e = .returned (.bool (rightB n)) ∧ w' = w := by
  have key : ∀ n : Int, 1 ≤ n → n ≤ 32 → (bits BinOp.and IntKind.i64 n (n - 1) == 0) = rightB n := by
    intro n h1 h2
    have := forall_lt 33 (fun n => decide (n < 1) || ((bits BinOp.and IntKind.i64 n (n - 1) == 0) == rightB n)) (by decide +kernel) n (by omega) (by omega)
    simp only [Bool.or_eq_true, decide_eq_true_eq] at this
    rcases this with h | h
    · omega
    · exact eq_of_beq h
  have no : ∀ n : Int, ¬ (1 ≤ n ∧ n ≤ 32) → rightB n = false := by
    intro n h; simp [rightB]; omega
  go_enter Tryd.func73, Tryd.ntmps73
  go_wp2
  all_goals go_ret
  all_goals first | exact ⟨rfl, rfl⟩ | exact ⟨by rw [no n (by omega)]; rfl, rfl⟩

set_option maxHeartbeats 400000 in
theorem refRight_any (n : Int) (w : World) :
    Calls Tryd.prog 61 #[.int .i64 n] w fun e w' => e = .returned (.bool (rightB n)) ∧ w' = w := by
  go_enter Tryd.func61, Tryd.ntmps61
  go_wp2
  all_goals go_ret
  all_goals exact ⟨by simp [rightB, *], rfl⟩

theorem wrap_two {n : Int} (h : rightB n = true) (k : Int) (hk0 : 0 ≤ k) (hk : k ≤ 2) : wrap64 (wrap64 (2 * n) - k) = 2 * n - k := by
  have := rightB_bounds h
  rw [IntWalk.wrap64_in (2 * n) (by omega), IntWalk.wrap64_in _ (by omega)]

set_option maxHeartbeats 400000 in
theorem isPlace_any (x n : Int) (w : World) :
    Calls Tryd.prog 88 #[.int .i64 x, .int .i64 n] w fun e w' => e = .returned (.bool (inB x n)) ∧ w' = w := by
  go_enter Tryd.func88, Tryd.ntmps88
  go_wp2_with (go_at_call 73; refine (right_any _ _).mono ?_; rintro e w' ⟨rfl, rfl⟩)
  all_goals go_ret
  · rename_i h0 h1
    have hr : rightB n = true := by assumption
    rw [wrap_two hr 2 (by omega) (by omega)]
    refine ⟨?_, rfl⟩
    simp [inB, *]
    omega
  all_goals exact ⟨by simp [inB, *] <;> omega, rfl⟩

set_option maxHeartbeats 400000 in
theorem refIn_any (x n : Int) (w : World) :
    Calls Tryd.prog 57 #[.int .i64 x, .int .i64 n] w fun e w' => e = .returned (.bool (inB x n)) ∧ w' = w := by
  go_enter Tryd.func57, Tryd.ntmps57
  go_wp2_with (go_at_call 61; refine (refRight_any _ _).mono ?_; rintro e w' ⟨rfl, rfl⟩)
  all_goals go_ret
  · have hr : rightB n = true := by assumption
    rw [wrap_two hr 1 (by omega) (by omega)]
    refine ⟨?_, rfl⟩
    simp [inB, *]
  all_goals exact ⟨by simp [inB, *] <;> omega, rfl⟩

set_option maxHeartbeats 400000 in
theorem root_any (n : Int) (w : World) :
    Calls Tryd.prog 74 #[.int .i64 n] w fun e w' => e = .returned (.int .i64 (wrap64 (n - 1))) ∧ w' = w := by
  go_enter Tryd.func74, Tryd.ntmps74
  go_wp2
  go_ret
  exact ⟨rfl, rfl⟩

theorem root_right {n : Int} (h : rightB n = true) (w : World) :
    Calls Tryd.prog 74 #[.int .i64 n] w fun e w' => e = .returned (.int .i64 (n - 1)) ∧ w' = w := by
  have := rightB_bounds h
  have := root_any n w
  rwa [IntWalk.wrap64_in _ (by omega)] at this

theorem tz_key (x a : Nat) (hx : x < 18446744073709551616) (hx0 : x ≠ 0) (hlow : x &&& (18446744073709551616 - x) = a) :
    IntKind.u64.wrap (bits BinOp.and IntKind.u64 (x : Int) (IntKind.u64.wrap (-(x : Int))) * 285870213051353865) / 288230376151711744 = ((a * 285870213051353865 % 18446744073709551616 / 288230376151711744 : Nat) : Int) := by
  have e1 : IntKind.u64.wrap (-(x : Int)) = ((18446744073709551616 - x : Nat) : Int) := by rw [IntKind.wrap_u64]; omega
  rw [e1, bits_and_u64_nat x _ hx (by omega), hlow, IntKind.wrap_u64]
  omega

set_option maxHeartbeats 1000000 in
theorem tz64_core (x k idx : Nat) (w : World) (hx0 : ((x : Int) == 0) = false)
    (key : IntKind.u64.wrap (bits BinOp.and IntKind.u64 (x : Int) (IntKind.u64.wrap (-(x : Int))) * 285870213051353865) / 288230376151711744 = (idx : Int))
    (hi : idx < 64) (hk : k < 64) (hcell : w.cell? ⟨2, idx, none⟩ = some (.int .u8 k)) :
    Calls Tryd.prog 113 #[.int .u64 x] w fun e w' => e = .returned (.int .i64 k) ∧ w' = w := by
  go_enter Tryd.func113, Tryd.ntmps113
  go_wp2_with (simp only [key])
  go_ret
  exact ⟨rfl, rfl⟩

theorem tz64 (x : Nat) (hx : x < 18446744073709551616) (hx0 : x ≠ 0) {w : World} (hT : Tab w) :
    Calls Tryd.prog 113 #[.int .u64 x] w fun e w' => e = .returned (.int .i64 (Lib.ctz 64 x)) ∧ w' = w := by
  obtain ⟨hlow, hk⟩ := Lib.lowest_bit 64 x hx0 hx
  obtain ⟨hi, htab⟩ := Lib.deBruijn64_at _ hk
  have hcell := hT _ hi
  rw [htab] at hcell
  exact tz64_core x _ _ w (by simp; omega) (tz_key x _ hx hx0 hlow) hi hk hcell

set_option maxHeartbeats 400000 in
theorem tz (x : Nat) (hx : x < 18446744073709551616) (hx0 : x ≠ 0) {w : World} (hT : Tab w) :
    Calls Tryd.prog 105 #[.int .u64 x] w fun e w' => e = .returned (.int .i64 (Lib.ctz 64 x)) ∧ w' = w := by
  go_enter Tryd.func105, Tryd.ntmps105
  go_wp2_with (go_at_call 113; refine (tz64 x hx hx0 hT).mono ?_; rintro e w' ⟨rfl, rfl⟩)
  go_ret
  exact ⟨rfl, rfl⟩

set_option maxHeartbeats 400000 in
theorem level_neg (x : Int) (h : x < 0) (w : World) :
    Calls Tryd.prog 91 #[.int .i64 x] w fun e w' => e = .returned (.int .i64 0) ∧ w' = w := by
  go_enter Tryd.func91, Tryd.ntmps91
  go_wp2
  go_ret
  exact ⟨rfl, rfl⟩

theorem xor_max (x : Nat) (h : x < 18446744073709551616) : bits BinOp.xor IntKind.u64 IntKind.u64.max (x : Int) = ((18446744073709551615 - x : Nat) : Int) := by
  have h1 : (BitVec.ofInt 64 (x : Int)).toNat = x := by
    rw [BitVec.ofInt_natCast, BitVec.toNat_ofNat]; exact Nat.mod_eq_of_lt (by omega)
  have h2 : BitVec.ofInt 64 IntKind.u64.max = BitVec.allOnes 64 := by decide
  show IntKind.u64.wrap ((BitVec.ofInt 64 IntKind.u64.max ^^^ BitVec.ofInt 64 (x : Int)).toNat : Int) = _
  rw [h2, BitVec.allOnes_xor, BitVec.toNat_not, h1, IntKind.wrap_u64]
  omega

set_option maxHeartbeats 400000 in
theorem level_nat (x : Nat) (h : x < 9223372036854775808) {w : World} (hT : Tab w) :
    Calls Tryd.prog 91 #[.int .i64 x] w fun e w' => e = .returned (.int .i64 (levN 64 x : Nat)) ∧ w' = w := by
  have hx := tz (18446744073709551615 - x) (by omega) (by omega) hT
  rw [ctz_lev x h] at hx
  have hs : IntKind.u64.signed = false := rfl
  have hk := xor_max x (by omega)
  go_enter Tryd.func91, Tryd.ntmps91
  go_wp2_with first
    | simp only [hk]
    | (go_at_call 105; refine hx.mono ?_; rintro e w' ⟨rfl, rfl⟩)
  all_goals go_ret
  all_goals exact ⟨rfl, rfl⟩

end Go.Proofs.YtmcjincgppddeaaDoor

namespace Go.Proofs.YtmcjincgppddeaaDoor
open Go.RowKit
set_option linter.unusedSimpArgs false
set_option linter.unusedVariables false

theorem level_any (x : Int) (hb : x < 9223372036854775808) {w : World} (hT : Tab w) :
    Calls Tryd.prog 91 #[.int .i64 x] w fun e w' => e = .returned (.int .i64 (lev x)) ∧ w' = w := by
  by_cases hx : x < 0
  · have := level_neg x hx w
    rwa [show (0 : Int) = lev x by simp [lev, show x.toNat = 0 by omega, levN]] at this
  · have := level_nat x.toNat (by omega) hT
    rwa [Int.toNat_of_nonneg (by omega)] at this

set_option maxHeartbeats 1000000 in
theorem refLevel_nat (x : Nat) (h : x < 9223372036854775808) {w : World} :
    Calls Tryd.prog 37 #[.int .i64 x] w fun e w' => e = .returned (.int .i64 (levN 64 x : Nat)) ∧ w' = w := by
  go_enter Tryd.func37, Tryd.ntmps37
  go_wp2
  go_loop [0, 3] (fun c k => ∃ f a j : Nat, c = .int .i64 a ∧ k = .int .i64 j ∧ Hid (levN 64 x = j + levN f a) ∧ Hid (a < 2 ^ f) ∧ a < 9223372036854775808 ∧ f + j = 64) (fun c _ => (intOf c).toNat)
  case atStart => exact ⟨64, x, 0, rfl, rfl, (by rw [Nat.zero_add] : levN 64 x = 0 + levN 64 x), (by omega : x < 2 ^ 64), h, rfl⟩
  case round =>
    obtain ⟨f, a, j, rfl, rfl, HL, HA, ha, hf⟩ := hrel
    by_cases hodd : a % 2 = 1
    · have hodd' : ((a : Int) % 2 == 1) = true := by rw [beq_iff_eq]; omega
      have hpos : decide ((0 : Int) < a) = true := by rw [decide_eq_true_eq]; omega
      have hfp : ∃ g, f = g + 1 := by
        cases f with
        | zero => have := HA.out; simp at this; omega
        | succ g => exact ⟨g, rfl⟩
      obtain ⟨g, rfl⟩ := hfp
      go_wp2
      case roundEnd =>
        refine ⟨⟨g, a / 2, j + 1, by go_num, by go_num, ?_, ?_, by omega, by omega⟩, by simp [intOf]; omega⟩
        · have := HL.out
          rw [show levN (g + 1) a = levN g (a / 2) + 1 by simp [levN, hodd]] at this
          show levN 64 x = j + 1 + levN g (a / 2)
          omega
        · have := HA.out
          show a / 2 < 2 ^ g
          rw [Nat.pow_succ] at this; omega
      all_goals (exfalso; omega)
    · have hodd' : ((a : Int) % 2 == 1) = false := by rw [beq_eq_false_iff_ne]; omega
      have hz : levN f a = 0 := by cases f <;> simp [levN, hodd]
      have hL : levN 64 x = j := by have := HL.out; omega
      rw [hL]
      go_wp2
      all_goals go_ret
      all_goals exact ⟨rfl, rfl⟩

theorem refLevel_any (x : Int) (hb : x < 9223372036854775808) {w : World} :
    Calls Tryd.prog 37 #[.int .i64 x] w fun e w' => e = .returned (.int .i64 (lev x)) ∧ w' = w := by
  by_cases hx : x < 0
  · have e : lev x = 0 := by simp [lev, show x.toNat = 0 by omega, levN]
    rw [e]
    go_enter Tryd.func37, Tryd.ntmps37
    go_wp2
    go_loop [0, 3] (fun c k => c = .int .i64 x ∧ k = .int .i64 0) (fun _ _ => 0)
    case atStart => exact ⟨rfl, rfl⟩
    case round =>
      obtain ⟨rfl, rfl⟩ := hrel
      go_wp2
      all_goals first | (exfalso; omega) | (go_ret; exact ⟨rfl, rfl⟩)
  · have := refLevel_nat x.toNat (by omega) (w := w)
    rwa [Int.toNat_of_nonneg (by omega)] at this

theorem lev_small {x : Int} (h0 : 0 ≤ x) (h1 : x < 63) : 0 ≤ lev x ∧ lev x ≤ 5 := by
  have := forall_lt 63 (fun x => decide (0 ≤ lev x ∧ lev x ≤ 5)) (by decide +kernel) x h0 h1
  simpa using this

set_option maxHeartbeats 400000 in
theorem parent_any (x : Int) (h0 : 0 ≤ x) (h1 : x < 63) {w : World} (hT : Tab w) :
    Calls Tryd.prog 104 #[.int .i64 x] w fun e w' => e = .returned (.int .i64 (parI x)) ∧ w' = w := by
  have hl := lev_small h0 h1
  go_enter Tryd.func104, Tryd.ntmps104
  go_wp2_with (go_at_call 91; refine (level_any x (by omega) hT).mono ?_; rintro e w' ⟨rfl, rfl⟩)
  go_ret
  refine ⟨?_, rfl⟩
  have := forall_lt 63 (fun x => bits BinOp.andNot IntKind.i64 (bits BinOp.or IntKind.i64 x (wrap64 (2 ^ (lev x).toNat))) (wrap64 (2 * wrap64 (2 ^ (lev x).toNat))) == parI x) (by decide +kernel) x h0 h1
  rw [← eq_of_beq this]; rfl

set_option maxHeartbeats 400000 in
theorem sibling_any (x : Int) (h0 : 0 ≤ x) (h1 : x < 63) {w : World} (hT : Tab w) :
    Calls Tryd.prog 96 #[.int .i64 x] w fun e w' => e = .returned (.int .i64 (sibI x)) ∧ w' = w := by
  have hl := lev_small h0 h1
  go_enter Tryd.func96, Tryd.ntmps96
  go_wp2_with (go_at_call 91; refine (level_any x (by omega) hT).mono ?_; rintro e w' ⟨rfl, rfl⟩)
  go_ret
  refine ⟨?_, rfl⟩
  have := forall_lt 63 (fun x => bits BinOp.xor IntKind.i64 x (wrap64 (2 * 2 ^ (lev x).toNat)) == sibI x) (by decide +kernel) x h0 h1
  rw [← eq_of_beq this]; rfl

def errIf (b : Bool) : Int := if b then 0 else 30

def innerB (x n : Int) : Bool := inB x n && (lev x != 0)

def halfI (x : Int) : Int := 2 ^ (lev x - 1).toNat

set_option maxHeartbeats 1000000 in
theorem Children_any (x n : Int) {w : World} (hT : Tab w) :
    Calls Tryd.prog 70 #[.int .i64 x, .int .i64 n] w fun e w' => e = .returned (.tuple #[.int .i64 (if innerB x n then x - halfI x else 0), .int .i64 (if innerB x n then x + halfI x else 0), .int .i64 (errIf (innerB x n))]) ∧ w' = w := by
  cases hp : inB x n with
  | false =>
    have hr : innerB x n = false := by simp [innerB, hp]
    rw [hr]
    go_enter Tryd.func70, Tryd.ntmps70
    go_wp2_with (go_at_call 88; refine (isPlace_any _ _ _).mono ?_; rintro e w' ⟨rfl, rfl⟩; rw [hp])
    go_ret3
    exact ⟨rfl, rfl⟩
  | true =>
    have hb := inB_lt hp
    have hl := lev_small hb.1 hb.2
    cases hz : (lev x == 0) with
    | true =>
      have hr : innerB x n = false := by simp [innerB, hp]; simpa using hz
      rw [hr]
      go_enter Tryd.func70, Tryd.ntmps70
      go_wp2_with first
        | (go_at_call 88; refine (isPlace_any _ _ _).mono ?_; rintro e w' ⟨rfl, rfl⟩; rw [hp])
        | (go_at_call 91; refine (level_any _ (by omega) hT).mono ?_; rintro e w' ⟨rfl, rfl⟩)
      go_ret3
      exact ⟨rfl, rfl⟩
    | false =>
      have hr : innerB x n = true := by simp [innerB, hp]; simpa using hz
      have hz' : lev x ≠ 0 := by simpa using hz
      have hq : wrap64 (2 ^ ((lev x).toNat - 1)) = halfI x := by
        have := forall_lt 63 (fun x => wrap64 (2 ^ ((lev x).toNat - 1)) == halfI x || lev x == 0) (by decide +kernel) x hb.1 hb.2
        simpa [hz'] using this
      have hq2 : 1 ≤ halfI x ∧ halfI x ≤ 16 := by
        have := forall_lt 63 (fun x => lev x == 0 || decide (1 ≤ halfI x ∧ halfI x ≤ 16)) (by decide +kernel) x hb.1 hb.2
        simpa [hz'] using this
      rw [hr]
      go_enter Tryd.func70, Tryd.ntmps70
      go_wp2_with first
        | (go_at_call 88; refine (isPlace_any _ _ _).mono ?_; rintro e w' ⟨rfl, rfl⟩; rw [hp])
        | (go_at_call 91; refine (level_any _ (by omega) hT).mono ?_; rintro e w' ⟨rfl, rfl⟩)
      all_goals go_ret3
      all_goals exact ⟨rfl, rfl⟩

end Go.Proofs.YtmcjincgppddeaaDoor

namespace Go.Proofs.YtmcjincgppddeaaDoor
open Go.RowKit Go.Shelf
set_option linter.unusedSimpArgs false
set_option linter.unusedVariables false
attribute [local go_sem] Oper.semAt_some

/-- What a round keeps: what lay below n0, and the cell of n. -/
def Kp (n0 Bn : Nat) (v : Value) (W W' : World) : Prop := Below n0 W W' ∧ (W.cell? ⟨Bn, 0, none⟩ = some v → W'.cell? ⟨Bn, 0, none⟩ = some v)

theorem cell_new (W : World) (v : Value) (t : TypeId) : (W.alloc (.cells #[v] t)).cell? ⟨W.heap.size, 0, none⟩ = some v ∧ (W.alloc (.cells #[v] t)).frozen? ⟨W.heap.size, 0, none⟩ = false :=
  ⟨(Boxed.new W t v).cell, (Boxed.new W t v).frozen⟩

theorem cell_al {W : World} {a : Addr} {v : Value} (o : Obj) (h : W.cell? a = some v) : (W.alloc o).cell? a = some v := cell_kept h (World.grownBy_alloc W o none) (fun r e => by cases e)

theorem frozen_al {W : World} {a : Addr} {v : Value} (o : Obj) (h : W.cell? a = some v) (hf : W.frozen? a = false) : (W.alloc o).frozen? a = false := (frozen_kept h (World.grownBy_alloc W o none) (fun r e => by cases e)).trans hf

theorem lev_par {x n : Int} (h : inB x n = true) (hr : (x == n - 1) = false) : 0 ≤ lev x ∧ lev (parI x) = lev x + 1 ∧ lev x < 5 := by
  have := forall_in (fun x n => x == n - 1 || decide (0 ≤ lev x ∧ lev (parI x) = lev x + 1 ∧ lev x < 5)) (by decide +kernel) x n h
  simpa [hr] using this

theorem upF_ok {f : Nat} {a n : Int} (h : upOk f a n = true) (hr : (a == n - 1) = false) : ∃ g, f = g + 1 ∧ upF f a n = a :: upF g (parI a) n ∧ upOk g (parI a) n = true := by
  cases f with
  | zero => simp [upOk] at h; simp [h] at hr
  | succ g => exact ⟨g, rfl, by simp [upF, hr], by simpa [upOk, hr] using h⟩

theorem upF_root {f : Nat} {a n : Int} (hr : (a == n - 1) = true) : upF f a n = [a] := by
  cases f <;> simp [upF, hr]

theorem upF_head (f : Nat) (a n : Int) : ∃ r, upF f a n = a :: r := by
  cases f with
  | zero => exact ⟨[], rfl⟩
  | succ f => unfold upF; split <;> exact ⟨_, rfl⟩

theorem Kp.t {n0 Bn : Nat} {v : Value} {A B C : World} (h : Kp n0 Bn v A B) (k : Kp n0 Bn v B C) : Kp n0 Bn v A C := ⟨h.1.trans k.1, fun e => k.2 (h.2 e)⟩

theorem Kp.b {n0 Bn : Nat} {v : Value} {w : World} (hn : n0 ≤ w.heap.size) (hb : Bn < w.heap.size) (W : World) (l : Nat) (o o' : Obj) (hl : w.heap.size ≤ l) (h : W.heap[l]? = some o) (h1 : o.isCells = false) (h2 : o.isWalk = false) : Kp n0 Bn v W (W.putObj l o') :=
  ⟨belowK_b hn W l o o' hl h h1 h2, fun e => ((belowK_b (n₀ := Bn + 1) (w := w) (by omega) W l o o' hl h h1 h2).cell (p := ⟨Bn, 0, none⟩) (by simp)).trans e⟩

set_option maxRecDepth 100000 in
set_option maxHeartbeats 1000000 in
theorem up1_in (n1 : Nat) (hn1 : 1 ≤ n1) (l Bx Bn n0 : Nat) (x n : Int) (hx : inB x n = true) (hn0 : 2 < n0) (J Jx : List Int → World → Prop)
    (hY : ∀ pre x W, J pre W → pre.length < 7 → YieldAt Fence.wide (n1 - 1) Tryd.prog l #[.int .i64 x] W fun e W' =>
      (e = .returned (.bool true) ∧ J (pre ++ [x]) W' ∧ Kp n0 Bn (.int .i64 n) W W') ∨ (e = .returned (.bool false) ∧ Jx (pre ++ [x]) W'))
    (W : World) (hT : Tab W) (hBx : W.cell? ⟨Bx, 0, none⟩ = some (.int .i64 x)) (hBn : W.cell? ⟨Bn, 0, none⟩ = some (.int .i64 n)) (h0 : J [] W) :
    CallsIn Fence.wide n1 Tryd.prog 103 #[.func (.yield l) #[] #[], .pointer (some ⟨Bx, 0, none⟩), .pointer (some ⟨Bn, 0, none⟩)] W fun e W' => (∃ v, e = .returned v) ∧
      ((∃ ys, ys = up x n ∧ J ys W') ∨ (∃ pre, pre <+: up x n ∧ Jx pre W')) := by
  have hr := inB_right hx
  refine callsIn_of_wp Tryd.func103 rfl trivial ?_ rfl
  simp only [Tryd.ntmps103, List.size_toArray, List.length_cons, List.length_nil, Nat.reduceAdd, Nat.reduceSub, Array.replicate_succ, Array.replicate_zero, List.push_toArray, List.append_toArray, List.nil_append, List.cons_append]
  gi_wp2
  gi_loopw [4] (fun p wr => ∃ (pre : List Int) (a : Int) (f : Nat), p = .int .i64 a ∧ up x n = pre ++ upF f a n ∧ upOk f a n = true ∧ inB a n = true ∧ pre.length + f = 6 ∧ Tab wr ∧ wr.cell? ⟨Bn, 0, none⟩ = some (.int .i64 n) ∧ J pre wr)
    (fun p _ => 6 - (lev (intOf p)).toNat)
  case atStart => exact ⟨[], x, 6, rfl, rfl, up_ok hx, hx, rfl, hT, hBn, h0⟩
  case round =>
    obtain ⟨pre, a, f, rfl, hu, hok, ha, hf, hTr, hBr, hJ⟩ := hrel
    obtain ⟨fn, tmps, assign, body, hy, hR⟩ := hY pre a wr hJ (by omega)
    gi_wp2
    refine hR.mono ?_
    rintro e W3 (⟨rfl, hJ3, hk3⟩ | ⟨rfl, hJx3⟩)
    · have hT3 : Tab W3 := hTr.below hk3.1 hn0
      have hB3 := hk3.2 hBr
      have hal := inB_lt ha
      cases hroot : (a == n - 1) with
      | true =>
        have hroot' : (a != n - 1) = false := by simpa using hroot
        gi_wp2_with (refine ⟨trivial, ?_⟩; gi_at_call 74; refine (callsIn_wide.2 (root_right hr _)).mono ?_; rintro e w' ⟨rfl, rfl⟩)
        go_end0
        exact ⟨⟨_, rfl⟩, .inl ⟨_, by rw [hu, upF_root hroot], hJ3⟩⟩
      | false =>
      have hroot' : (a != n - 1) = true := by simpa using hroot
      obtain ⟨g, rfl, hug, hokg⟩ := upF_ok hok hroot
      have hlp := lev_par ha hroot
      gi_wp2_with first
        | (refine ⟨trivial, ?_⟩; gi_at_call 74; refine (callsIn_wide.2 (root_right hr _)).mono ?_; rintro e w' ⟨rfl, rfl⟩)
        | (refine ⟨trivial, ?_⟩; gi_at_call 104; refine (callsIn_wide.2 (parent_any a hal.1 hal.2 hT3)).mono ?_; rintro e w' ⟨rfl, rfl⟩)
      go_roundw
      case rel => exact ⟨pre ++ [a], parI a, g, rfl, by rw [hu, hug]; simp, hokg, par_in ha hroot, by simp; omega, hT3, hB3, hJ3⟩
      case measure => simp [intOf]; omega
    · gi_wp2
      refine ⟨trivial, ?_⟩
      gi_wp2
      go_end0
      obtain ⟨r, hr'⟩ := upF_head f a n
      exact ⟨⟨_, rfl⟩, .inr ⟨pre ++ [a], ⟨r, by rw [hu, hr']; simp⟩, hJx3⟩⟩

theorem up_stops (n1 : Nat) (hn1 : 1 ≤ n1) (Bx Bn n0 : Nat) (x n : Int) (hx : inB x n = true) (hn0 : 2 < n0) (w : World) (hT : Tab w) (hbx : Bx < w.heap.size) (hbn : Bn < w.heap.size)
    (hBx : w.cell? ⟨Bx, 0, none⟩ = some (.int .i64 x)) (hBn : w.cell? ⟨Bn, 0, none⟩ = some (.int .i64 n)) :
    SeqStopsK Fence.wide n1 Tryd.prog 103 #[.pointer (some ⟨Bx, 0, none⟩), .pointer (some ⟨Bn, 0, none⟩)] (fun x : Int => #[Value.int .i64 x]) (Kp n0 Bn (.int .i64 n)) (fun ys => ys = up x n) (fun pre => pre <+: up x n) 7 w := fun l J Jx W hW _ _ hY h0 =>
  up1_in n1 hn1 l Bx Bn n0 x n hx hn0 J Jx hY W (hT.below hW hT.size) ((hW.cell (p := ⟨Bx, 0, none⟩) hbx).trans hBx) ((hW.cell (p := ⟨Bn, 0, none⟩) hbn).trans hBn) h0

/-- The places that there may be. -/
abbrev Pl := { z : Int // 0 ≤ z ∧ z < 63 }

def vals (l : List Pl) : List Int := l.map fun z => z.1

theorem vals_snoc (l : List Pl) (z : Pl) : vals (l ++ [z]) = vals l ++ [z.1] := by simp [vals]

theorem vals_len (l : List Pl) : (vals l).length = l.length := by simp [vals]

set_option maxRecDepth 100000 in
set_option maxHeartbeats 1000000 in
theorem up1p_in (n1 : Nat) (hn1 : 1 ≤ n1) (l Bx Bn n0 : Nat) (x n : Int) (hx : inB x n = true) (hn0 : 2 < n0) (J Jx : List Pl → World → Prop)
    (hY : ∀ pre (x : Pl) W, J pre W → pre.length < 7 → YieldAt Fence.wide (n1 - 1) Tryd.prog l #[.int .i64 x.1] W fun e W' =>
      (e = .returned (.bool true) ∧ J (pre ++ [x]) W' ∧ Kp n0 Bn (.int .i64 n) W W') ∨ (e = .returned (.bool false) ∧ Jx (pre ++ [x]) W'))
    (W : World) (hT : Tab W) (hBx : W.cell? ⟨Bx, 0, none⟩ = some (.int .i64 x)) (hBn : W.cell? ⟨Bn, 0, none⟩ = some (.int .i64 n)) (h0 : J [] W) :
    CallsIn Fence.wide n1 Tryd.prog 103 #[.func (.yield l) #[] #[], .pointer (some ⟨Bx, 0, none⟩), .pointer (some ⟨Bn, 0, none⟩)] W fun e W' => (∃ v, e = .returned v) ∧
      ((∃ ys : List Pl, vals ys = up x n ∧ J ys W') ∨ (∃ pre : List Pl, vals pre <+: up x n ∧ Jx pre W')) := by
  have hr := inB_right hx
  refine callsIn_of_wp Tryd.func103 rfl trivial ?_ rfl
  simp only [Tryd.ntmps103, List.size_toArray, List.length_cons, List.length_nil, Nat.reduceAdd, Nat.reduceSub, Array.replicate_succ, Array.replicate_zero, List.push_toArray, List.append_toArray, List.nil_append, List.cons_append]
  gi_wp2
  gi_loopw [4] (fun p wr => ∃ (pre : List Pl) (a : Int) (f : Nat), p = .int .i64 a ∧ up x n = vals pre ++ upF f a n ∧ upOk f a n = true ∧ inB a n = true ∧ pre.length + f = 6 ∧ Tab wr ∧ wr.cell? ⟨Bn, 0, none⟩ = some (.int .i64 n) ∧ J pre wr)
    (fun p _ => 6 - (lev (intOf p)).toNat)
  case atStart => exact ⟨[], x, 6, rfl, rfl, up_ok hx, hx, rfl, hT, hBn, h0⟩
  case round =>
    obtain ⟨pre, a, f, rfl, hu, hok, ha, hf, hTr, hBr, hJ⟩ := hrel
    obtain ⟨fn, tmps, assign, body, hy, hR⟩ := hY pre ⟨a, inB_lt ha⟩ wr hJ (by omega)
    gi_wp2
    refine hR.mono ?_
    rintro e W3 (⟨rfl, hJ3, hk3⟩ | ⟨rfl, hJx3⟩)
    · have hT3 : Tab W3 := hTr.below hk3.1 hn0
      have hB3 := hk3.2 hBr
      have hal := inB_lt ha
      cases hroot : (a == n - 1) with
      | true =>
        have hroot' : (a != n - 1) = false := by simpa using hroot
        gi_wp2_with (refine ⟨trivial, ?_⟩; gi_at_call 74; refine (callsIn_wide.2 (root_right hr _)).mono ?_; rintro e w' ⟨rfl, rfl⟩)
        go_end0
        exact ⟨⟨_, rfl⟩, .inl ⟨_, by rw [hu, upF_root hroot, vals_snoc], hJ3⟩⟩
      | false =>
      have hroot' : (a != n - 1) = true := by simpa using hroot
      obtain ⟨g, rfl, hug, hokg⟩ := upF_ok hok hroot
      have hlp := lev_par ha hroot
      gi_wp2_with first
        | (refine ⟨trivial, ?_⟩; gi_at_call 74; refine (callsIn_wide.2 (root_right hr _)).mono ?_; rintro e w' ⟨rfl, rfl⟩)
        | (refine ⟨trivial, ?_⟩; gi_at_call 104; refine (callsIn_wide.2 (parent_any a hal.1 hal.2 hT3)).mono ?_; rintro e w' ⟨rfl, rfl⟩)
      go_roundw
      case rel => exact ⟨pre ++ [⟨a, inB_lt ha⟩], parI a, g, rfl, by rw [hu, hug, vals_snoc]; simp, hokg, par_in ha hroot, by simp; omega, hT3, hB3, hJ3⟩
      case measure => simp [intOf]; omega
    · gi_wp2
      refine ⟨trivial, ?_⟩
      gi_wp2
      go_end0
      obtain ⟨r, hr'⟩ := upF_head f a n
      exact ⟨⟨_, rfl⟩, .inr ⟨pre ++ [⟨a, inB_lt ha⟩], ⟨r, by rw [hu, hr', vals_snoc]; simp⟩, hJx3⟩⟩

theorem upp_stops (n1 : Nat) (hn1 : 1 ≤ n1) (Bx Bn n0 : Nat) (x n : Int) (hx : inB x n = true) (hn0 : 2 < n0) (w : World) (hT : Tab w) (hbx : Bx < w.heap.size) (hbn : Bn < w.heap.size)
    (hBx : w.cell? ⟨Bx, 0, none⟩ = some (.int .i64 x)) (hBn : w.cell? ⟨Bn, 0, none⟩ = some (.int .i64 n)) :
    SeqStopsK Fence.wide n1 Tryd.prog 103 #[.pointer (some ⟨Bx, 0, none⟩), .pointer (some ⟨Bn, 0, none⟩)] (fun x : Pl => #[Value.int .i64 x.1]) (Kp n0 Bn (.int .i64 n)) (fun ys => vals ys = up x n) (fun pre => vals pre <+: up x n) 7 w := fun l J Jx W hW _ _ hY h0 =>
  up1p_in n1 hn1 l Bx Bn n0 x n hx hn0 J Jx hY W (hT.below hW hT.size) ((hW.cell (p := ⟨Bx, 0, none⟩) hbx).trans hBx) ((hW.cell (p := ⟨Bn, 0, none⟩) hbn).trans hBn) h0

set_option maxHeartbeats 1000000 in
theorem upward_any (x n : Int) (w : World) :
    Calls Tryd.prog 89 #[.int .i64 x, .int .i64 n] w fun e w' => e = .returned (.func (.func 103) #[] #[.pointer (some ⟨w.heap.size, 0, none⟩), .pointer (some ⟨w.heap.size + 1, 0, none⟩)]) ∧ w' = (w.alloc (.cells #[.int .i64 x] 3)).alloc (.cells #[.int .i64 n] 3) := by
  go_enter Tryd.func89, Tryd.ntmps89
  go_wp2
  go_ret
  exact ⟨by simp, rfl⟩

end Go.Proofs.YtmcjincgppddeaaDoor

namespace Go.Proofs.YtmcjincgppddeaaDoor
open Go.RowKit Go.Shelf
set_option linter.unusedSimpArgs false
set_option linter.unusedVariables false
attribute [local go_sem] Oper.semAt_some

set_option maxRecDepth 100000 in
set_option maxHeartbeats 2000000 in
theorem under_yes (x y n : Int) (hx : inB x n = true) (hy : inB y n = true) {w : World} (hT : Tab w) :
    CallsIn Fence.wide 3 Tryd.prog 68 #[.int .i64 x, .int .i64 y, .int .i64 n] w fun e W' => e = .returned (.bool ((up x n).contains y)) ∧ Below w.heap.size w W' := by
  have hts := hT.size
  refine callsIn_of_wp_marks Tryd.func68 rfl trivial ?_ rfl
  simp only [Tryd.ntmps68, List.size_toArray, List.length_cons, List.length_nil, Nat.reduceAdd, Nat.reduceSub, Array.replicate_succ, Array.replicate_zero, List.push_toArray, List.append_toArray, List.nil_append, List.cons_append]
  gi_wp2_with first
    | (refine ⟨trivial, ?_⟩; gi_at_call 88; refine (callsIn_wide.2 (isPlace_any _ _ _)).mono ?_; rintro e w' ⟨rfl, rfl⟩; simp only [hx, hy])
    | (refine ⟨trivial, ?_⟩; gi_at_call 89; refine (callsIn_wide.2 (upward_any _ _ _)).mono ?_; rintro e w' ⟨rfl, rfl⟩)
  have c0 := cell_new w (.int .i64 y) 3
  have c1 := cell_new (w.alloc (.cells #[.int .i64 y] 3)) (.bool false) 4
  have c2 := cell_new ((w.alloc (.cells #[.int .i64 y] 3)).alloc (.cells #[.bool false] 4)) (.int .i64 x) 3
  have c3 := cell_new (((w.alloc (.cells #[.int .i64 y] 3)).alloc (.cells #[.bool false] 4)).alloc (.cells #[.int .i64 x] 3)) (.int .i64 n) 3
  simp only [World.size_alloc] at c1 c2 c3
  have hB0 : Below w.heap.size w ((((w.alloc (.cells #[.int .i64 y] 3)).alloc (.cells #[.bool false] 4)).alloc (.cells #[.int .i64 x] 3)).alloc (.cells #[.int .i64 n] 3)) := ((((Below.refl _ w).alloc (Nat.le_refl _) _).alloc (by simp) _).alloc (by simp; omega) _).alloc (by simp; omega) _
  refine wpIn_rangeFunc_ownF rfl (by omega) (gf := 103) (lb := #[.pointer (some ⟨w.heap.size + 1 + 1, 0, none⟩), .pointer (some ⟨w.heap.size + 1 + 1 + 1, 0, none⟩)]) rfl trivial (enters_of Tryd.func103 (by kernel_rfl) rfl)
    (up_stops 2 (by omega) (w.heap.size + 1 + 1) (w.heap.size + 1 + 1 + 1) w.heap.size x n hx hts _ (hT.below hB0 hts) (by simp) (by simp) (cell_al _ c2.1) c3.1) Kp.t (Kp.b (by simp; omega) (by simp)) (Below.refl _ _) (fun _ => rfl)
    (fun pre W => (pre.contains y = false ∧ W.cell? ⟨w.heap.size, 0, none⟩ = some (.int .i64 y) ∧ W.cell? ⟨w.heap.size + 1, 0, none⟩ = some (.bool false) ∧ W.frozen? ⟨w.heap.size + 1, 0, none⟩ = false) ∧ Below w.heap.size w W)
    (fun c pre W => (c = .ret ∧ pre.contains y = true ∧ W.cell? ⟨w.heap.size + 1, 0, none⟩ = some (.bool true)) ∧ Below w.heap.size w W)
    (OwnFrom.and (Own.from (fun s A B row hs hg hr => ⟨hs.1, cell_kept hs.2.1 hg hr, cell_kept hs.2.2.1 hg hr, (frozen_kept hs.2.2.1 hg hr).trans hs.2.2.2⟩) _) (ownFrom_below (Nat.le_refl _) (by simp; omega)))
    (fun c => OwnFrom.and (Own.from (fun s A B row hs hg hr => ⟨hs.1, hs.2.1, cell_kept hs.2.2 hg hr⟩) _) (ownFrom_below (Nat.le_refl _) (by simp; omega)))
    ⟨⟨by simp, cell_al _ (cell_al _ (cell_al _ c0.1)), cell_al _ (cell_al _ c1.1), frozen_al _ (cell_al _ c1.1) (frozen_al _ c1.1 c1.2)⟩, hB0⟩
    (fun z => { tmps := #[.int .i64 x, .int .i64 y, .int .i64 n, undef, .pointer (some ⟨w.heap.size, 0, none⟩), undef, .pointer (some ⟨w.heap.size + 1, 0, none⟩), .int .i64 z, .int .i64 x, .int .i64 n, .bool true, .bool false, .bool false, .int .i64 y, .int .i64 n, .bool true, .bool false, .bool false, .int .i64 x, .int .i64 n, .func (.func 103) #[] #[.pointer (some ⟨w.heap.size + 1 + 1, 0, none⟩), .pointer (some ⟨w.heap.size + 1 + 1 + 1, 0, none⟩)], .int .i64 z, undef, undef, undef], defers := [] }) ?assign ?body ?done ?stop
  case assign =>
    intro l z W K hK
    gi_wp2
    exact hK
  case body =>
    rintro l pre z W ⟨⟨hp, hcw, hcr, hfr⟩, hB⟩ _
    gi_wp2
    · rename_i hz
      obtain rfl : z = y := eq_of_beq hz
      exact ⟨KeepsOthers.setCell _ _ _, ⟨rfl, by simp, World.cell?_setCell_same' _ _ _ (by rw [hcr]; rfl)⟩, hB.setCell (p := ⟨w.heap.size + 1, 0, none⟩) (by simp) _⟩
    · rename_i hz
      exact ⟨KeepsOthers.refl _, ⟨Below.refl _ _, id⟩, ⟨by simp at hz hp ⊢; exact ⟨hp, fun e => hz e.symm⟩, hcw, hcr, hfr⟩, hB⟩
  case done =>
    rintro D ys W hD rfl ⟨⟨hne, _, hcr, hfr⟩, hB⟩ hK
    gi_wp2
    have hK' := (KeepsOthers.setCell W ⟨w.heap.size + 1, 0, none⟩ (.bool false)).same D _ hK rfl
    refine ⟨by simp, .inl ⟨_, _, rfl, run_takeDeferred hK', ?_⟩⟩
    have hc5 := cell_kept (World.cell?_setCell_same' W ⟨w.heap.size + 1, 0, none⟩ (.bool false) (by rw [hcr]; rfl)) (grownBy_putObj' _ D (.deferred none)) (fun r e => by cases e; exact ⟨_, hK', rfl⟩)
    refine ⟨.bool false, ?_, by rw [hne], (hB.setCell (p := ⟨w.heap.size + 1, 0, none⟩) (by simp) _).trans (belowK_b (w := w) (Nat.le_refl _) _ D _ _ (by simp at hD; omega) hK' rfl rfl)⟩
    simp [results, Tryd.f68, go_sem, hc5]
  case stop =>
    rintro D c pre W hD hpre ⟨⟨rfl, hin, hcr⟩, hB⟩ hK
    gi_wp2
    refine ⟨by simp, .inl ⟨_, _, rfl, run_takeDeferred hK, ?_⟩⟩
    have hc5 := cell_kept hcr (grownBy_putObj' _ D (.deferred none)) (fun r e => by cases e; exact ⟨_, hK, rfl⟩)
    have hin' : (up x n).contains y = true := by simp at hin ⊢; exact hpre.subset hin
    refine ⟨.bool true, ?_, by rw [hin'], hB.trans (belowK_b (w := w) (Nat.le_refl _) W D _ _ (by simp at hD; omega) hK rfl rfl)⟩
    simp [results, Tryd.f68, go_sem, hc5]

set_option maxHeartbeats 1000000 in
theorem under_no (x y n : Int) (h : (inB x n && inB y n) = false) {w : World} :
    Calls Tryd.prog 68 #[.int .i64 x, .int .i64 y, .int .i64 n] w fun e W' => e = .returned (.bool false) ∧ Below w.heap.size w W' := by
  cases hx : inB x n with
  | true =>
    have hy : inB y n = false := by simpa [hx] using h
    go_enter Tryd.func68, Tryd.ntmps68
    go_wp2_with (go_at_call 88; refine (isPlace_any _ _ _).mono ?_; rintro e w' ⟨rfl, rfl⟩; simp only [hx, hy])
    exact bodyPost_ret (v := .bool false) (by have := (cell_new (w.alloc (Obj.cells #[Value.int IntKind.i64 y] 3)) (.bool false) 4).1; rw [World.size_alloc] at this; simp [results, Tryd.results68, go_sem, this]) rfl ⟨rfl, ((Below.refl _ w).alloc (Nat.le_refl _) _).alloc (by simp) _⟩
  | false =>
    go_enter Tryd.func68, Tryd.ntmps68
    go_wp2_with (go_at_call 88; refine (isPlace_any _ _ _).mono ?_; rintro e w' ⟨rfl, rfl⟩; simp only [hx])
    exact bodyPost_ret (v := .bool false) (by have := (cell_new (w.alloc (Obj.cells #[Value.int IntKind.i64 y] 3)) (.bool false) 4).1; rw [World.size_alloc] at this; simp [results, Tryd.results68, go_sem, this]) rfl ⟨rfl, ((Below.refl _ w).alloc (Nat.le_refl _) _).alloc (by simp) _⟩

theorem Under_any (x y n : Int) {w : World} (hT : Tab w) :
    Calls Tryd.prog 68 #[.int .i64 x, .int .i64 y, .int .i64 n] w fun e W' => e = .returned (.bool (underB x y n)) ∧ Below w.heap.size w W' := by
  cases h : inB x n && inB y n with
  | true =>
    have h' := h
    simp only [Bool.and_eq_true] at h
    have := (callsIn_wide (n := 3)).1 (under_yes x y n h.1 h.2 hT)
    rwa [show (up x n).contains y = underB x y n by simp [underB, h.1, h.2]] at this
  | false =>
    have := under_no x y n h (w := w)
    rwa [show false = underB x y n by simp [underB, h]] at this

end Go.Proofs.YtmcjincgppddeaaDoor

namespace Go.Proofs.YtmcjincgppddeaaDoor
open Go.RowKit Go.Shelf
set_option linter.unusedSimpArgs false
set_option linter.unusedVariables false
attribute [local go_sem] Oper.semAt_some

theorem Tryd.infoI : (Tryd.prog.info? 3).map (fun i => (i.zero, i.size, i.bytes)) = some (some (.int .i64 0), 1, 8) := by kernel_rfl

/-- A list of numbers that a call has made. -/
def Made (b : Nat) (W : World) (v : Value) (l : List Int) : Prop := W.ownsRow b 3 1 v l.length (l.map (Value.int .i64)) ∧ (v = .slice none 0 0 ↔ l = [])

def pf (x : Int) (l : List Int) : List Int := l.filter fun y => y != x

theorem pf_hit {x y : Int} (pre : List Int) (h : (y != x) = true) : pf x (pre ++ [y]) = pf x pre ++ [y] := by simp [pf, List.filter_append, h]

theorem pf_miss {x y : Int} (pre : List Int) (h : (y != x) = false) : pf x (pre ++ [y]) = pf x pre := by simp [pf, List.filter_append, h]

/-- A box below the row's base, other than the row's own, stays behind an append. -/
theorem Boxed.stays {W w1 : World} {M B b : Nat} {t' e : TypeId} {size k : Nat} {v v' u : Value} {xs : List Value} {tmp : Obj}
    (hu : Boxed W b t' u) (hb : b < M) (hne : b ≠ B) (hrow : W.ownsRow M e size v k xs) (hgrow : (W.alloc tmp).grownBy w1 v.ownBlock) :
    Boxed (w1.setCell ⟨B, 0, none⟩ v') b t' u := by
  refine Boxed.other ((hu.alloc tmp).kept hgrow (fun e' => ?_)) hne v'
  rcases hrow.2 with ⟨rfl, _⟩ | ⟨g, cap, cur, rfl, hg, _, _⟩
  · simp [Value.ownBlock] at e'
  · have : b = g := by simpa [Value.ownBlock] using e'
    omega

set_option maxRecDepth 100000 in
set_option maxHeartbeats 2000000 in
theorem path_yes (x n : Int) (hx : inB x n = true) {w : World} (hT : Tab w) :
    CallsIn Fence.wide 3 Tryd.prog 95 #[.int .i64 x, .int .i64 n] w fun e W' => ∃ v, e = .returned (.tuple #[v, .int .i64 0]) ∧ Made w.heap.size W' v (pathI x n) ∧ Below w.heap.size w W' := by
  have hts := hT.size
  obtain ⟨i0, hi, hz0, hz1, hz2⟩ := info_parts Tryd.infoI
  refine callsIn_of_wp_marks Tryd.func95 rfl trivial ?_ rfl
  simp only [Tryd.ntmps95, List.size_toArray, List.length_cons, List.length_nil, Nat.reduceAdd, Nat.reduceSub, Array.replicate_succ, Array.replicate_zero, List.push_toArray, List.append_toArray, List.nil_append, List.cons_append]
  gi_wp2_with first
    | (refine ⟨trivial, ?_⟩; gi_at_call 88; refine (callsIn_wide.2 (isPlace_any _ _ _)).mono ?_; rintro e w' ⟨rfl, rfl⟩; simp only [hx])
    | (refine ⟨trivial, ?_⟩; gi_at_call 89; refine (callsIn_wide.2 (upward_any _ _ _)).mono ?_; rintro e w' ⟨rfl, rfl⟩)
  have bX := Boxed.new w 3 (.int .i64 x)
  have bO := Boxed.new (w.alloc (.cells #[.int .i64 x] 3)) 30 (.slice none 0 0)
  have c2 := cell_new ((w.alloc (.cells #[.int .i64 x] 3)).alloc (.cells #[.slice none 0 0] 30)) (.int .i64 x) 3
  have c3 := cell_new (((w.alloc (.cells #[.int .i64 x] 3)).alloc (.cells #[.slice none 0 0] 30)).alloc (.cells #[.int .i64 x] 3)) (.int .i64 n) 3
  simp only [World.size_alloc] at bO c2 c3
  have hB0 : Below w.heap.size w ((((w.alloc (.cells #[.int .i64 x] 3)).alloc (.cells #[.slice none 0 0] 30)).alloc (.cells #[.int .i64 x] 3)).alloc (.cells #[.int .i64 n] 3)) := ((((Below.refl _ w).alloc (Nat.le_refl _) _).alloc (by simp) _).alloc (by simp; omega) _).alloc (by simp; omega) _
  refine wpIn_rangeFunc_ownG rfl (by omega) (gf := 103) (lb := #[.pointer (some ⟨w.heap.size + 1 + 1, 0, none⟩), .pointer (some ⟨w.heap.size + 1 + 1 + 1, 0, none⟩)]) rfl trivial (enters_of Tryd.func103 (by kernel_rfl) rfl)
    (up_stops 2 (by omega) (w.heap.size + 1 + 1) (w.heap.size + 1 + 1 + 1) w.heap.size x n hx hts _ (hT.below hB0 hts) (by simp) (by simp) (cell_al _ c2.1) c3.1) Kp.t (Kp.b (by simp; omega) (by simp)) (Below.refl _ _) (fun _ => rfl)
    (fun pre W => (∃ v, Boxed W (w.heap.size + 1) 30 v ∧ W.ownsRow (w.heap.size + 1 + 1 + 1 + 1) 3 1 v (pf x pre).length ((pf x pre).map (Value.int .i64)) ∧ (v = .slice none 0 0 ↔ pf x pre = [])) ∧ Boxed W w.heap.size 3 (.int .i64 x) ∧ Boxed W (w.heap.size + 1 + 1 + 1) 3 (.int .i64 n) ∧ Below w.heap.size w W)
    (fun _ _ _ => False)
    (OwnFrom.and (Own.from (holdsRow_own (w.heap.size + 1 + 1 + 1 + 1) (w.heap.size + 1) 30 3 1 (fun pre => (pf x pre).length) (fun pre => (pf x pre).map (Value.int .i64)) (fun pre v => v = .slice none 0 0 ↔ pf x pre = [])) _) (OwnFrom.and (Own.from (boxed_own _ _ (fun _ => _)) _) (OwnFrom.and (Own.from (boxed_own _ _ (fun _ => _)) _) (ownFrom_below (Nat.le_refl _) (by simp; omega)))))
    (fun _ _ _ _ _ hs _ _ => hs)
    ⟨⟨_, (bO.alloc _).alloc _, World.ownsRow_nil _ _ _ _, by simp [pf]⟩, ((bX.alloc _).alloc _).alloc _, by have := Boxed.new (((w.alloc (.cells #[.int .i64 x] 3)).alloc (.cells #[.slice none 0 0] 30)).alloc (.cells #[.int .i64 x] 3)) 3 (.int .i64 n); simpa using this, hB0⟩
    (fun z => { tmps := #[.int .i64 x, .int .i64 n, .pointer (some ⟨w.heap.size, 0, none⟩), undef, .slice none 0 0, .int .i64 0, .pointer (some ⟨w.heap.size + 1, 0, none⟩), .int .i64 z, .int .i64 x, .int .i64 n, .bool true, .bool false, .int .i64 x, .int .i64 n, .func (.func 103) #[] #[.pointer (some ⟨w.heap.size + 1 + 1, 0, none⟩), .pointer (some ⟨w.heap.size + 1 + 1 + 1, 0, none⟩)], .int .i64 z, undef, undef, undef, undef, undef, undef, undef, undef], defers := [] }) ?assign ?body ?done ?stop
  case assign =>
    intro l z W K hK
    gi_wp2
    exact hK
  case body =>
    rintro l pre z W ⟨⟨v, hv, hrow, hnil⟩, hbx, hbn, hB⟩ hlt
    have hc := hv.cell
    have hcx := hbx.cell
    have hsz : w.heap.size + 1 + 1 + 1 + 1 ≤ W.heap.size := by have := hbn.lt; omega
    have hpl : (pf x pre).length ≤ pre.length := List.length_filter_le _ _
    have hm8 : 8 ≤ maxLen := by decide
    gi_wp2_with (gi_at_builtin; refine wpListIn_append_own _ rfl _ _ 30 rfl (w.heap.size + 1 + 1 + 1 + 1) 3 i0 (.int .i64 0) 1 8 Tryd.underlying30 hi hz0 hz1 hz2 rfl (by decide) _ _ _ rfl (hrow.alloc _) ⟨W.heap.size, 0, none⟩ 1 1 [.int .i64 z] rfl rfl (cell_one_new _ _ _) (by simp [Value.oneCell']) (by omega) (by omega) (by simp; omega) ?_; intro v' w1 hown' hgrow _; obtain ⟨g', cap', rfl⟩ := ownsRow_succ hown'; obtain ⟨hv1, hv2, hr2, hk2, hb2⟩ := hv.appended (by decide) (hrow.mono (base' := w.heap.size) (by omega)) hB.size (by omega) (hown'.mono (base' := w.heap.size) (by omega)) hgrow; have hc1 := hv1.cell; have hf1 := hv1.frozen)
    · have hz : (z != x) = true := by assumption
      have sx := Boxed.stays (v' := .slice (some ⟨g', 0, none⟩) ((pf x pre).length + 1) cap') (B := w.heap.size + 1) hbx (by omega) (by omega) hrow hgrow
      have sn := Boxed.stays (v' := .slice (some ⟨g', 0, none⟩) ((pf x pre).length + 1) cap') (B := w.heap.size + 1) hbn (by omega) (by omega) hrow hgrow
      exact ⟨hk2.from _, ⟨hb2, fun _ => sn.cell⟩, ⟨_, hv2, by rw [pf_hit pre hz]; simpa using hown'.kept (grownBy_setCell' w1 (w.heap.size + 1) _) (.inr (hv1.not_row (by decide) hown').symm), by rw [pf_hit pre hz]; simp⟩, sx, sn, hB.trans hb2⟩
    · have hz : (z != x) = false := by assumption
      exact ⟨KeepsFrom.refl _ _, ⟨Below.refl _ _, id⟩, ⟨v, hv, by rw [pf_miss pre hz]; exact hrow, by rw [pf_miss pre hz]; exact hnil⟩, hbx, hbn, hB⟩
  case done =>
    rintro D ys W hD rfl ⟨⟨v, hv, hrow, hnil⟩, hbx, hbn, hB⟩ hK
    have hc := hv.cell
    gi_wp2
    refine ⟨by simp, .inl ⟨_, _, rfl, run_takeDeferred hK, ?_⟩⟩
    exact ⟨_, results_tmp2 rfl _ _ _, v, rfl, ⟨ownsRow_putObj (hrow.mono (by omega)) _ hK rfl, hnil⟩, hB.trans (belowK_b (w := w) (Nat.le_refl _) W D _ _ (by simp at hD; omega) hK rfl rfl)⟩
  case stop =>
    rintro D c pre W _ _ h _
    exact h.elim

set_option maxHeartbeats 1000000 in
theorem path_no (x n : Int) (hx : inB x n = false) {w : World} :
    Calls Tryd.prog 95 #[.int .i64 x, .int .i64 n] w fun e W' => e = .returned (.tuple #[.slice none 0 0, .int .i64 30]) ∧ Below w.heap.size w W' := by
  go_enter Tryd.func95, Tryd.ntmps95
  go_wp2_with (go_at_call 88; refine (isPlace_any _ _ _).mono ?_; rintro e w' ⟨rfl, rfl⟩; simp only [hx])
  go_ret2
  exact ⟨rfl, (Below.refl _ w).alloc (Nat.le_refl _) _⟩

set_option maxHeartbeats 1000000 in
theorem copath_no (x n : Int) (hx : inB x n = false) {w : World} :
    Calls Tryd.prog 80 #[.int .i64 x, .int .i64 n] w fun e W' => e = .returned (.tuple #[.slice none 0 0, .int .i64 30]) ∧ Below w.heap.size w W' := by
  go_enter Tryd.func80, Tryd.ntmps80
  go_wp2_with (go_at_call 88; refine (isPlace_any _ _ _).mono ?_; rintro e w' ⟨rfl, rfl⟩; simp only [hx])
  go_ret2
  exact ⟨rfl, (Below.refl _ w).alloc (Nat.le_refl _) _⟩

def listIf (b : Bool) (l : List Int) : List Int := if b then l else []

theorem Path_any (x n : Int) {w : World} (hT : Tab w) :
    Calls Tryd.prog 95 #[.int .i64 x, .int .i64 n] w fun e W' => ∃ v, e = .returned (.tuple #[v, .int .i64 (errIf (inB x n))]) ∧ Made w.heap.size W' v (listIf (inB x n) (pathI x n)) ∧ Below w.heap.size w W' := by
  cases hx : inB x n with
  | true => exact (callsIn_wide (n := 3)).1 (path_yes x n hx hT)
  | false => exact (path_no x n hx).mono fun e W' ⟨he, hb⟩ => ⟨_, he, ⟨World.ownsRow_nil _ _ _ _, by simp [listIf]⟩, hb⟩

end Go.Proofs.YtmcjincgppddeaaDoor

namespace Go.Proofs.YtmcjincgppddeaaDoor
open Go.RowKit Go.Shelf
set_option linter.unusedSimpArgs false
set_option linter.unusedVariables false
attribute [local go_sem] Oper.semAt_some

def cf (n : Int) (l : List Int) : List Int := (l.filter fun y => y != n - 1).map sibI

theorem cf_hit {n y : Int} (pre : List Int) (h : (y != n - 1) = true) : cf n (pre ++ [y]) = cf n pre ++ [sibI y] := by simp [cf, List.filter_append, h]

theorem cf_miss {n y : Int} (pre : List Int) (h : (y != n - 1) = false) : cf n (pre ++ [y]) = cf n pre := by simp [cf, List.filter_append, h]

/-- In a region that draws its order: an append whose run is known. -/
theorem ready_append {F : Fence} {n : Nat} {P : Program} {ops : Array Oper} {Q : Exit → Act → World → Prop} {md : Region.Mode} {fuel : Nat} {listed : Array Bool} {a : Act} {w w' : World} {i : Nat} {o : Oper} {rs : List Nat} {s x : Operand} {t : TypeId} {v' : Value}
    (ho : ops[i]? = some o) (hg : o.guard = none) (hop : o.op = Op.call { callee := Callee.builtin Builtin.append, args := #[s, x], argTypes := #[t, t] })
    (hrun : (Builtin.append_ #[t, t] o.type #[a.eval s, a.eval x]).run P w = .ok v' w')
    (h : wpAnyIn F n P md ops Q fuel (listed.setIfInBounds i true) (a.put o.dst v') w')
    (hs : AllReadyIn F n P md ops Q fuel listed a w rs) : AllReadyIn F n P md ops Q fuel listed a w (i :: rs) := by
  refine AllReadyIn.cons ho (fun K hK => ?_) hs
  rw [if_pos (by simp [Region.wanted, hg])]
  unfold Oper.wpIn
  refine ⟨?_, ?_⟩
  · simp [Oper.about, hop, resolve, Target.leads, Sem.run_pure]
  · rw [Oper.semAt_plain F _ _ (by rw [hop]; intro c hc'; cases hc')]
    simp [execOp, hop, resolve, invoke, builtin, hrun, Result.andThen]
    exact hK _ _ h

set_option maxRecDepth 100000 in
set_option maxHeartbeats 2000000 in
theorem copath_yes (x n : Int) (hx : inB x n = true) {w : World} (hT : Tab w) :
    CallsIn Fence.wide 3 Tryd.prog 80 #[.int .i64 x, .int .i64 n] w fun e W' => ∃ v, e = .returned (.tuple #[v, .int .i64 0]) ∧ Made w.heap.size W' v (copathI x n) ∧ Below w.heap.size w W' := by
  have hts := hT.size
  obtain ⟨i0, hi, hz0, hz1, hz2⟩ := info_parts Tryd.infoI
  refine callsIn_of_wp_marks Tryd.func80 rfl trivial ?_ rfl
  simp only [Tryd.ntmps80, List.size_toArray, List.length_cons, List.length_nil, Nat.reduceAdd, Nat.reduceSub, Array.replicate_succ, Array.replicate_zero, List.push_toArray, List.append_toArray, List.nil_append, List.cons_append]
  gi_wp2_with first
    | (refine ⟨trivial, ?_⟩; gi_at_call 88; refine (callsIn_wide.2 (isPlace_any _ _ _)).mono ?_; rintro e w' ⟨rfl, rfl⟩; simp only [hx])
    | (refine ⟨trivial, ?_⟩; gi_at_call 89; refine (callsIn_wide.2 (upward_any _ _ _)).mono ?_; rintro e w' ⟨rfl, rfl⟩)
  have bX := Boxed.new w 3 (.int .i64 n)
  have bO := Boxed.new (w.alloc (.cells #[.int .i64 n] 3)) 30 (.slice none 0 0)
  have c2 := cell_new ((w.alloc (.cells #[.int .i64 n] 3)).alloc (.cells #[.slice none 0 0] 30)) (.int .i64 x) 3
  have c3 := cell_new (((w.alloc (.cells #[.int .i64 n] 3)).alloc (.cells #[.slice none 0 0] 30)).alloc (.cells #[.int .i64 x] 3)) (.int .i64 n) 3
  simp only [World.size_alloc] at bO c2 c3
  have hB0 : Below w.heap.size w ((((w.alloc (.cells #[.int .i64 n] 3)).alloc (.cells #[.slice none 0 0] 30)).alloc (.cells #[.int .i64 x] 3)).alloc (.cells #[.int .i64 n] 3)) := ((((Below.refl _ w).alloc (Nat.le_refl _) _).alloc (by simp) _).alloc (by simp; omega) _).alloc (by simp; omega) _
  refine wpIn_rangeFunc_ownG rfl (by omega) (gf := 103) (lb := #[.pointer (some ⟨w.heap.size + 1 + 1, 0, none⟩), .pointer (some ⟨w.heap.size + 1 + 1 + 1, 0, none⟩)]) rfl trivial (enters_of Tryd.func103 (by kernel_rfl) rfl)
    (upp_stops 2 (by omega) (w.heap.size + 1 + 1) (w.heap.size + 1 + 1 + 1) w.heap.size x n hx hts _ (hT.below hB0 hts) (by simp) (by simp) (cell_al _ c2.1) c3.1) Kp.t (Kp.b (by simp; omega) (by simp)) (Below.refl _ _) (fun _ => rfl)
    (fun (pre : List Pl) W => (∃ v, Boxed W (w.heap.size + 1) 30 v ∧ W.ownsRow (w.heap.size + 1 + 1 + 1 + 1) 3 1 v (cf n (vals pre)).length ((cf n (vals pre)).map (Value.int .i64)) ∧ (v = .slice none 0 0 ↔ cf n (vals pre) = [])) ∧ Boxed W w.heap.size 3 (.int .i64 n) ∧ Boxed W (w.heap.size + 1 + 1 + 1) 3 (.int .i64 n) ∧ Below w.heap.size w W)
    (fun _ _ _ => False)
    (OwnFrom.and (Own.from (holdsRow_own (w.heap.size + 1 + 1 + 1 + 1) (w.heap.size + 1) 30 3 1 (fun pre : List Pl => (cf n (vals pre)).length) (fun pre : List Pl => (cf n (vals pre)).map (Value.int .i64)) (fun (pre : List Pl) v => v = .slice none 0 0 ↔ cf n (vals pre) = [])) _) (OwnFrom.and (Own.from (boxed_own _ _ (fun _ => _)) _) (OwnFrom.and (Own.from (boxed_own _ _ (fun _ => _)) _) (ownFrom_below (Nat.le_refl _) (by simp; omega)))))
    (fun _ _ _ _ _ hs _ _ => hs)
    ⟨⟨_, (bO.alloc _).alloc _, World.ownsRow_nil _ _ _ _, by simp [cf, vals]⟩, ((bX.alloc _).alloc _).alloc _, by have := Boxed.new (((w.alloc (.cells #[.int .i64 n] 3)).alloc (.cells #[.slice none 0 0] 30)).alloc (.cells #[.int .i64 x] 3)) 3 (.int .i64 n); simpa using this, hB0⟩
    (fun z : Pl => { tmps := #[.int .i64 x, .int .i64 n, undef, .pointer (some ⟨w.heap.size, 0, none⟩), .slice none 0 0, .int .i64 0, .pointer (some ⟨w.heap.size + 1, 0, none⟩), .int .i64 z.1, .int .i64 x, .int .i64 n, .bool true, .bool false, .int .i64 x, .int .i64 n, .func (.func 103) #[] #[.pointer (some ⟨w.heap.size + 1 + 1, 0, none⟩), .pointer (some ⟨w.heap.size + 1 + 1 + 1, 0, none⟩)], .int .i64 z.1, undef, undef, undef, undef, undef, undef, undef, undef, undef, undef], defers := [] }) ?assign ?body ?done ?stop
  case assign =>
    intro l z W K hK
    gi_wp2
    exact hK
  case body =>
    rintro l pre ⟨z, hzb⟩ W ⟨⟨v, hv, hrow, hnil⟩, hbx, hbn, hB⟩ hlt
    have hc := hv.cell
    have hcx := hbx.cell
    have hsz : w.heap.size + 1 + 1 + 1 + 1 ≤ W.heap.size := by have := hbn.lt; omega
    have hpl : (cf n (vals pre)).length ≤ pre.length := by simp only [cf, List.length_map]; exact Nat.le_trans (List.length_filter_le _ _) (Nat.le_of_eq (vals_len pre))
    have hm8 : 8 ≤ maxLen := by decide
    gi_wp2_with (refine ⟨trivial, ?_⟩; gi_at_call 74; refine (CallsIn.inRound l (callsIn_wide.2 (root_right (inB_right hx) _))).mono ?_; rintro e w' ⟨rfl, rfl⟩)
    · have hz : (z != n - 1) = true := by assumption
      have hTw : Tab w'.drew := fun j hj => hT.below hB hts j hj
      have hd : 1 ≤ 3 - 1 - 1 := by omega
      have hmx : Tryd.prog.follows .mixedOrders = true := by kernel_rfl
      have hownd : (w'.drew.alloc (.cells #[.int .i64 (sibI z)] 3)).ownsRow (w.heap.size + 1 + 1 + 1 + 1) 3 1 v (cf n (vals pre)).length ((cf n (vals pre)).map (Value.int .i64)) := World.ownsRow.alloc (w := w'.drew) hrow _
      obtain ⟨v', w1, hrun, hown', hgrow, _⟩ := run_append_own (P := Tryd.prog) (w'.drew.alloc (.cells #[.int .i64 (sibI z)] 3)) (w.heap.size + 1 + 1 + 1 + 1) 30 30 3 i0 (.int .i64 0) 1 8 Tryd.underlying30 hi hz0 hz1 hz2 rfl (by decide) v _ _ hownd ⟨w'.heap.size, 0, none⟩ 1 1 [.int .i64 (sibI z)] rfl (cell_one_new w'.drew _ _) (by simp [Value.oneCell']) (by omega) (by omega) (by simp; omega)
      obtain ⟨g', cap', rfl⟩ := ownsRow_succ hown'
      obtain ⟨hv1, hv2, hr2, hk2, hb2⟩ := Boxed.appended (W := w'.drew) hv (by decide) (World.ownsRow.mono (w := w'.drew) (base' := w.heap.size) hrow (by omega)) hB.size (by omega) (hown'.mono (base' := w.heap.size) (by omega)) hgrow
      have hcA := (hv.alloc (.cells #[.int .i64 (sibI z)] 3)).cell
      have hc1 := hv1.cell; have hf1 := hv1.frozen
      have e := cf_hit (n := n) (y := z) (vals pre) hz
      have sx := Boxed.stays (W := w'.drew) (v' := .slice (some ⟨g', 0, none⟩) ((cf n (vals pre)).length + 1) cap') (B := w.heap.size + 1) hbx (by omega) (by omega) hrow hgrow
      have sn := Boxed.stays (W := w'.drew) (v' := .slice (some ⟨g', 0, none⟩) ((cf n (vals pre)).length + 1) cap') (B := w.heap.size + 1) hbn (by omega) (by omega) hrow hgrow
      have hb3 : Below w.heap.size w' (w1.setCell ⟨w.heap.size + 1, 0, none⟩ (.slice (some ⟨g', 0, none⟩) ((cf n (vals pre)).length + 1) cap')) := ((Below.refl _ w').drew).trans hb2
      have hlast : (w1.setCell ⟨w.heap.size + 1, 0, none⟩ (.slice (some ⟨g', 0, none⟩) ((cf n (vals pre)).length + 1) cap')).ownsRow (w.heap.size + 1 + 1 + 1 + 1) 3 1 (.slice (some ⟨g', 0, none⟩) ((cf n (vals pre)).length + 1) cap') (cf n (vals pre ++ [z])).length ((cf n (vals pre ++ [z])).map (Value.int .i64)) := by
        rw [e]; simpa using hown'.kept (grownBy_setCell' w1 (w.heap.size + 1) _) (.inr (hv1.not_row (by decide) hown').symm)
      have hkf : KeepsFrom ((((w.alloc (.cells #[.int .i64 n] 3)).alloc (.cells #[.slice none 0 0] 30)).alloc (.cells #[.int .i64 x] 3)).alloc (.cells #[.int .i64 n] 3)).heap.size w' (w1.setCell ⟨w.heap.size + 1, 0, none⟩ (.slice (some ⟨g', 0, none⟩) ((cf n (vals pre)).length + 1) cap')) := ((KeepsOthers.drew w').trans hk2).from _
      have hnl : Value.slice (some ⟨g', 0, none⟩) ((cf n (vals pre)).length + 1) cap' = .slice none 0 0 ↔ cf n (vals pre ++ [z]) = [] := by rw [e]; simp
      refine wpIn_region_any hmx ?_
      change wpAnyIn _ _ _ _ _ _ _ _ _ (World.drew _)
      refine wpAnyIn_ready (rs := [0, 1]) (by kernel_rfl) (by simp) ?_
      refine AllReadyIn.cons rfl (fun K hK => ?_) ?_
      · go_simp
        refine hK _ _ ?_
        clear hK K
        refine wpAnyIn_ready (rs := [1]) (by kernel_rfl) (by simp) ?_
        refine AllReadyIn.cons rfl (fun K hK => ?_) ?_
        · go_simp
          refine hK _ _ ?_
          clear hK K
          refine wpAnyIn_ready (rs := [2]) (by kernel_rfl) (by simp) ?_
          refine AllReadyIn.cons rfl (fun K hK => ?_) ?_
          · go_simp
            gi_wp2_with (refine ⟨trivial, ?_⟩; gi_at_call 96; refine (CallsIn.inRound l (callsIn_wide.2 (sibling_any z hzb.1 hzb.2 hTw))).mono ?_; rintro e w2 ⟨rfl, rfl⟩)
            refine wpAnyIn_ready (rs := [3]) (by kernel_rfl) (by simp) ?_
            refine AllReadyIn.cons rfl (fun K hK => ?_) ?_
            · go_simp
              refine hK _ _ ?_
              clear hK K
              refine wpAnyIn_ready (rs := [4]) (by kernel_rfl) (by simp) ?_
              refine ready_append (s := .tmp 20) (x := .tmp 23) (t := 30) rfl rfl rfl hrun ?_ ?_
              · skip
                refine wpAnyIn_ready (rs := [5]) (by kernel_rfl) (by simp) ?_
                refine AllReadyIn.cons rfl (fun K hK => ?_) ?_
                · go_simp
                  refine hK _ _ ?_
                  clear hK K
                  refine wpAnyIn_done (by kernel_rfl) ?_ _
                  gi_wp2; exact ⟨hkf, ⟨hb3, fun _ => sn.cell⟩, ⟨_, hv2, by rw [vals_snoc]; exact hlast, by rw [vals_snoc]; exact hnl⟩, sx, sn, hB.trans hb3⟩
                exact AllReadyIn.nil
              exact AllReadyIn.nil
            exact AllReadyIn.nil
          exact AllReadyIn.nil
        exact AllReadyIn.nil
      refine AllReadyIn.cons rfl (fun K hK => ?_) ?_
      · go_simp
        refine hK _ _ ?_
        clear hK K
        refine wpAnyIn_ready (rs := [0, 2]) (by kernel_rfl) (by simp) ?_
        refine AllReadyIn.cons rfl (fun K hK => ?_) ?_
        · go_simp
          refine hK _ _ ?_
          clear hK K
          refine wpAnyIn_ready (rs := [2]) (by kernel_rfl) (by simp) ?_
          refine AllReadyIn.cons rfl (fun K hK => ?_) ?_
          · go_simp
            gi_wp2_with (refine ⟨trivial, ?_⟩; gi_at_call 96; refine (CallsIn.inRound l (callsIn_wide.2 (sibling_any z hzb.1 hzb.2 hTw))).mono ?_; rintro e w2 ⟨rfl, rfl⟩)
            refine wpAnyIn_ready (rs := [3]) (by kernel_rfl) (by simp) ?_
            refine AllReadyIn.cons rfl (fun K hK => ?_) ?_
            · go_simp
              refine hK _ _ ?_
              clear hK K
              refine wpAnyIn_ready (rs := [4]) (by kernel_rfl) (by simp) ?_
              refine ready_append (s := .tmp 20) (x := .tmp 23) (t := 30) rfl rfl rfl hrun ?_ ?_
              · skip
                refine wpAnyIn_ready (rs := [5]) (by kernel_rfl) (by simp) ?_
                refine AllReadyIn.cons rfl (fun K hK => ?_) ?_
                · go_simp
                  refine hK _ _ ?_
                  clear hK K
                  refine wpAnyIn_done (by kernel_rfl) ?_ _
                  gi_wp2; exact ⟨hkf, ⟨hb3, fun _ => sn.cell⟩, ⟨_, hv2, by rw [vals_snoc]; exact hlast, by rw [vals_snoc]; exact hnl⟩, sx, sn, hB.trans hb3⟩
                exact AllReadyIn.nil
              exact AllReadyIn.nil
            exact AllReadyIn.nil
          exact AllReadyIn.nil
        refine AllReadyIn.cons rfl (fun K hK => ?_) ?_
        · go_simp
          gi_wp2_with (refine ⟨trivial, ?_⟩; gi_at_call 96; refine (CallsIn.inRound l (callsIn_wide.2 (sibling_any z hzb.1 hzb.2 hTw))).mono ?_; rintro e w2 ⟨rfl, rfl⟩)
          refine wpAnyIn_ready (rs := [0, 3]) (by kernel_rfl) (by simp) ?_
          refine AllReadyIn.cons rfl (fun K hK => ?_) ?_
          · go_simp
            refine hK _ _ ?_
            clear hK K
            refine wpAnyIn_ready (rs := [3]) (by kernel_rfl) (by simp) ?_
            refine AllReadyIn.cons rfl (fun K hK => ?_) ?_
            · go_simp
              refine hK _ _ ?_
              clear hK K
              refine wpAnyIn_ready (rs := [4]) (by kernel_rfl) (by simp) ?_
              refine ready_append (s := .tmp 20) (x := .tmp 23) (t := 30) rfl rfl rfl hrun ?_ ?_
              · skip
                refine wpAnyIn_ready (rs := [5]) (by kernel_rfl) (by simp) ?_
                refine AllReadyIn.cons rfl (fun K hK => ?_) ?_
                · go_simp
                  refine hK _ _ ?_
                  clear hK K
                  refine wpAnyIn_done (by kernel_rfl) ?_ _
                  gi_wp2; exact ⟨hkf, ⟨hb3, fun _ => sn.cell⟩, ⟨_, hv2, by rw [vals_snoc]; exact hlast, by rw [vals_snoc]; exact hnl⟩, sx, sn, hB.trans hb3⟩
                exact AllReadyIn.nil
              exact AllReadyIn.nil
            exact AllReadyIn.nil
          refine AllReadyIn.cons rfl (fun K hK => ?_) ?_
          · go_simp
            refine hK _ _ ?_
            clear hK K
            refine wpAnyIn_ready (rs := [0]) (by kernel_rfl) (by simp) ?_
            refine AllReadyIn.cons rfl (fun K hK => ?_) ?_
            · go_simp
              refine hK _ _ ?_
              clear hK K
              refine wpAnyIn_ready (rs := [4]) (by kernel_rfl) (by simp) ?_
              refine ready_append (s := .tmp 20) (x := .tmp 23) (t := 30) rfl rfl rfl hrun ?_ ?_
              · skip
                refine wpAnyIn_ready (rs := [5]) (by kernel_rfl) (by simp) ?_
                refine AllReadyIn.cons rfl (fun K hK => ?_) ?_
                · go_simp
                  refine hK _ _ ?_
                  clear hK K
                  refine wpAnyIn_done (by kernel_rfl) ?_ _
                  gi_wp2; exact ⟨hkf, ⟨hb3, fun _ => sn.cell⟩, ⟨_, hv2, by rw [vals_snoc]; exact hlast, by rw [vals_snoc]; exact hnl⟩, sx, sn, hB.trans hb3⟩
                exact AllReadyIn.nil
              exact AllReadyIn.nil
            exact AllReadyIn.nil
          exact AllReadyIn.nil
        exact AllReadyIn.nil
      exact AllReadyIn.nil
    · have hz : (z != n - 1) = false := by assumption
      have e := cf_miss (n := n) (y := z) (vals pre) hz
      exact ⟨KeepsFrom.refl _ _, ⟨Below.refl _ _, id⟩, ⟨v, hv, by rw [vals_snoc, e]; exact hrow, by rw [vals_snoc, e]; exact hnil⟩, hbx, hbn, hB⟩
  case done =>
    rintro D ys W hD hys ⟨⟨v, hv, hrow, hnil⟩, hbx, hbn, hB⟩ hK
    rw [hys] at hrow hnil
    have hc := hv.cell
    gi_wp2
    refine ⟨by simp, .inl ⟨_, _, rfl, run_takeDeferred hK, ?_⟩⟩
    exact ⟨_, results_tmp2 rfl _ _ _, v, rfl, ⟨ownsRow_putObj (hrow.mono (by omega)) _ hK rfl, hnil⟩, hB.trans (belowK_b (w := w) (Nat.le_refl _) W D _ _ (by simp at hD; omega) hK rfl rfl)⟩
  case stop =>
    rintro D c pre W _ _ h _
    exact h.elim

theorem Copath_any (x n : Int) {w : World} (hT : Tab w) :
    Calls Tryd.prog 80 #[.int .i64 x, .int .i64 n] w fun e W' => ∃ v, e = .returned (.tuple #[v, .int .i64 (errIf (inB x n))]) ∧ Made w.heap.size W' v (listIf (inB x n) (copathI x n)) ∧ Below w.heap.size w W' := by
  cases hx : inB x n with
  | true => exact (callsIn_wide (n := 3)).1 (copath_yes x n hx hT)
  | false => exact (copath_no x n hx).mono fun e W' ⟨he, hb⟩ => ⟨_, he, ⟨World.ownsRow_nil _ _ _ _, by simp [listIf]⟩, hb⟩

end Go.Proofs.YtmcjincgppddeaaDoor

namespace Go.Proofs.YtmcjincgppddeaaDoor
open Go.RowKit
set_option linter.unusedSimpArgs false
set_option linter.unusedVariables false

def pw (j : Nat) : Int := (2 ^ j : Nat)

def widthI (y : Int) : Int := pw (lev y).toNat - 1

theorem pw_next (j : Nat) (h : j < 6) : 2 * pw j = pw (j + 1) ∧ pw j < 64 ∧ 0 < pw j := by
  have : ∀ j : Fin 6, 2 * pw j.1 = pw (j.1 + 1) ∧ pw j.1 < 64 ∧ 0 < pw j.1 := by decide +kernel
  exact this ⟨j, h⟩

set_option maxHeartbeats 1000000 in
theorem width_any (y : Int) (h0 : 0 ≤ y) (h1 : y < 63) {w : World} :
    Calls Tryd.prog 58 #[.int .i64 y] w fun e w' => e = .returned (.int .i64 (widthI y)) ∧ w' = w := by
  have hl := lev_small h0 h1
  go_enter Tryd.func58, Tryd.ntmps58
  go_wp2_with (go_at_call 37; refine (refLevel_any y (by omega)).mono ?_; rintro e w' ⟨rfl, rfl⟩)
  go_loop [3, 4] (fun c k => ∃ j m : Nat, j + m = (lev y).toNat ∧ c = .int .i64 (pw j) ∧ k = .int .i64 m) (fun _ k => (intOf k).toNat)
  case atStart => exact ⟨0, (lev y).toNat, by omega, rfl, by rw [Int.toNat_of_nonneg hl.1]⟩
  case round =>
    obtain ⟨j, m, hj, rfl, rfl⟩ := hrel
    obtain ⟨hp, hp1, hp2⟩ := pw_next j (by omega)
    by_cases hm : m = 0
    · subst hm
      have hw : widthI y = pw j - 1 := by simp [widthI, ← hj]
      go_wp2
      all_goals go_ret
      all_goals exact ⟨by first | rfl | rw [hw], rfl⟩
    · go_wp2
      case roundEnd => exact ⟨⟨j + 1, m - 1, by omega, by rw [← hp], by go_num⟩, by simp [intOf]; omega⟩

def refUnderB (x y n : Int) : Bool := inB x n && inB y n && decide (y - widthI y ≤ x) && decide (x ≤ y + widthI y)

theorem forall_in2 (P : Int → Int → Int → Bool) (h : (sizes.all fun n => (List.range 63).all fun x => !inB (x : Int) n || (List.range 63).all fun y => !inB (y : Int) n || P (x : Int) (y : Int) n) = true) (x y n : Int) (hx : inB x n = true) (hy : inB y n = true) : P x y n = true := by
  have h1 := forall_in (fun x n => (List.range 63).all fun y => !inB (y : Int) n || P x (y : Int) n) h x n hx
  have h2 := forall_lt 63 (fun y => !inB y n || P x y n) h1 y (inB_lt hy).1 (inB_lt hy).2
  simpa [hy] using h2

theorem refUnder_eq (x y n : Int) : refUnderB x y n = underB x y n := by
  cases hx : inB x n
  · simp [refUnderB, underB, hx]
  cases hy : inB y n
  · simp [refUnderB, underB, hx, hy]
  exact eq_of_beq (forall_in2 (fun x y n => refUnderB x y n == underB x y n) (by decide +kernel) x y n hx hy)

set_option maxHeartbeats 1000000 in
theorem refUnder_any (x y n : Int) {w : World} :
    Calls Tryd.prog 28 #[.int .i64 x, .int .i64 y, .int .i64 n] w fun e w' => e = .returned (.bool (underB x y n)) ∧ w' = w := by
  rw [← refUnder_eq]
  cases hx : inB x n with
  | false =>
    have e : refUnderB x y n = false := by simp [refUnderB, hx]
    rw [e]
    go_enter Tryd.func28, Tryd.ntmps28
    go_wp2_with (go_at_call 57; refine (refIn_any _ _ _).mono ?_; rintro e w' ⟨rfl, rfl⟩; simp only [hx])
    all_goals go_ret
    all_goals exact ⟨rfl, rfl⟩
  | true =>
    cases hy : inB y n with
    | false =>
      have e : refUnderB x y n = false := by simp [refUnderB, hy]
      rw [e]
      go_enter Tryd.func28, Tryd.ntmps28
      go_wp2_with (go_at_call 57; refine (refIn_any _ _ _).mono ?_; rintro e w' ⟨rfl, rfl⟩; simp only [hx, hy])
      all_goals go_ret
      all_goals exact ⟨rfl, rfl⟩
    | true =>
      have hxl := inB_lt hx
      have hyl := inB_lt hy
      have hw : 0 ≤ widthI y ∧ widthI y < 64 := by
        have := forall_lt 63 (fun y => decide (0 ≤ widthI y ∧ widthI y < 64)) (by decide +kernel) y hyl.1 hyl.2
        simpa using this
      go_enter Tryd.func28, Tryd.ntmps28
      go_wp2_with first
        | (go_at_call 57; refine (refIn_any _ _ _).mono ?_; rintro e w' ⟨rfl, rfl⟩; simp only [hx, hy])
        | (go_at_call 58; refine (width_any y hyl.1 hyl.2).mono ?_; rintro e w' ⟨rfl, rfl⟩)
      all_goals go_ret
      all_goals exact ⟨by simp [refUnderB, hx, hy]; omega, rfl⟩

/-- The document's search for the lowest place above. -/
def bestI (x n : Int) : Nat → Int
  | 0 => -1
  | k + 1 => if ((k : Int) != x) && underB x k n && (decide (bestI x n k < 0) || decide (lev k < lev (bestI x n k))) then k else bestI x n k

def parR (x n : Int) : Int := if x == n - 1 then -1 else parI x

theorem best_le (x n : Int) : ∀ k : Nat, bestI x n k < k + 1
  | 0 => by simp [bestI]
  | k + 1 => by
    have := best_le x n k
    unfold bestI
    split <;> omega

theorem best_end {x n : Int} (h : inB x n = true) : bestI x n (2 * n - 1).toNat = parR x n :=
  eq_of_beq (forall_in (fun x n => bestI x n (2 * n - 1).toNat == parR x n) (by decide +kernel) x n h)

set_option maxHeartbeats 2000000 in
theorem refParent_any (x n : Int) (hx : inB x n = true) {w : World} :
    Calls Tryd.prog 76 #[.int .i64 x, .int .i64 n] w fun e w' => e = .returned (.int .i64 (parR x n)) ∧ w' = w := by
  have hn := rightB_bounds (inB_right hx)
  have hxl := inB_lt hx
  go_enter Tryd.func76, Tryd.ntmps76
  go_wp2
  go_loop [5, 6] (fun b y => ∃ k : Nat, (k : Int) ≤ 2 * n - 1 ∧ y = .int .i64 k ∧ b = .int .i64 (bestI x n k)) (fun _ y => (2 * n - 1).toNat - (intOf y).toNat)
  case atStart => exact ⟨0, by omega, rfl, rfl⟩
  case round =>
    obtain ⟨k, hk, rfl, rfl⟩ := hrel
    have hb := best_le x n k
    by_cases hlt : (k : Int) < 2 * n - 1
    · go_wp2_with first
        | (go_at_call 28; refine (refUnder_any _ _ _).mono ?_; rintro e w' ⟨rfl, rfl⟩)
        | (go_at_call 37; refine (refLevel_any _ (by omega)).mono ?_; rintro e w' ⟨rfl, rfl⟩)
      all_goals (refine ⟨⟨k + 1, by omega, by go_num, ?_⟩, by simp [intOf]; omega⟩; simp [bestI, *] <;> (intro h; omega))
    · have hkk : (2 * n - 1).toNat = k := by omega
      have hbe := best_end hx
      rw [hkk] at hbe
      go_wp2
      all_goals go_ret
      all_goals exact ⟨by first | rfl | rw [hbe], rfl⟩

theorem par_ge {x n : Int} (h : inB x n = true) (hr : (x == n - 1) = false) : parR x n = parI x ∧ 0 ≤ parI x ∧ parI x < 63 ∧ sibI x = parI x + parI x - x := by
  have h1 := inB_lt (par_in h hr)
  have := forall_in (fun x n => x == n - 1 || sibI x == parI x + parI x - x) (by decide +kernel) x n h
  refine ⟨by simp [parR, hr], h1.1, h1.2, by simpa [hr] using this⟩

set_option maxHeartbeats 1000000 in
theorem refSibling_any (x n : Int) (hx : inB x n = true) (hr : (x == n - 1) = false) {w : World} :
    Calls Tryd.prog 77 #[.int .i64 x, .int .i64 n] w fun e w' => e = .returned (.int .i64 (sibI x)) ∧ w' = w := by
  obtain ⟨h1, h2, h3, h4⟩ := par_ge hx hr
  have hxl := inB_lt hx
  rw [h4]
  go_enter Tryd.func77, Tryd.ntmps77
  go_wp2_with (go_at_call 76; refine (refParent_any _ _ hx).mono ?_; rintro e w' ⟨rfl, rfl⟩; simp only [h1])
  go_ret
  exact ⟨rfl, rfl⟩

/-- A slice of numbers that is only read. -/
def IntsAt (w : World) (v : Value) (l : List Int) : Prop :=
  ∃ a cap, v = .slice a l.length cap ∧ (l.length : Int) ≤ 9223372036854775807 ∧
    (l ≠ [] → ∃ b off, a = some ⟨b, off, none⟩ ∧ b < w.heap.size ∧ ∀ i x, l[i]? = some x → w.cell? ⟨b, off + i, none⟩ = some (.int .i64 x))

theorem IntsAt.below {w w' : World} {v : Value} {l : List Int} (h : IntsAt w v l) (hb : Below w.heap.size w w') : IntsAt w' v l := by
  obtain ⟨a, cap, e, hl, hc⟩ := h
  refine ⟨a, cap, e, hl, fun hne => ?_⟩
  obtain ⟨b, off, ha, hlt, hcell⟩ := hc hne
  refine ⟨b, off, ha, Nat.lt_of_lt_of_le hlt hb.size, fun i n hi => ?_⟩
  rw [hb.cell (p := ⟨b, _, none⟩) hlt]
  exact hcell i n hi

theorem ownsRow_ints {w : World} {base : Nat} {v : Value} {l : List Int} (h : w.ownsRow base 3 1 v l.length (l.map (Value.int .i64))) (hl : (l.length : Int) ≤ 9223372036854775807) : IntsAt w v l := by
  rcases h.2 with ⟨rfl, h0⟩ | ⟨g, cap, cur, rfl, hb, hgg, r1, r2, r3, r4⟩
  · have : l = [] := List.eq_nil_of_length_eq_zero h0
    subst this
    exact ⟨none, 0, rfl, by simp, fun h => absurd rfl h⟩
  · refine ⟨_, cap, rfl, hl, fun _ => ⟨g, 0, rfl, (Array.getElem?_eq_some_iff.1 hgg).1, fun i x hi => ?_⟩⟩
    have hil := (List.getElem?_eq_some_iff.1 hi).1
    rw [Nat.zero_add, World.ownsRow.cellAt h i (by omega)]
    simp [hi]

theorem dec_false {p : Prop} [Decidable p] (h : ¬ p) : Hid (decide p = false) := by simp [Hid, h]

set_option maxRecDepth 100000 in
set_option maxHeartbeats 2000000 in
theorem ints_any {w : World} {va vb : Value} {a b : List Int} (ha : IntsAt w va a) (hb : IntsAt w vb b) :
    Calls Tryd.prog 26 #[va, vb] w fun e w' => e = .returned (.bool (decide (a = b))) ∧ Below w.heap.size w w' := by
  obtain ⟨a1, cap1, rfl, hl1, hc1⟩ := ha
  obtain ⟨a2, cap2, rfl, hl2, hc2⟩ := hb
  by_cases hlen : a.length = b.length
  · have hlb : ((a.length : Int) != (b.length : Int)) = false := by simp [hlen]
    have Hlen : Hid (a.length = b.length) := hlen
    have hle : (b.length : Int) ≤ a.length := by omega
    have hge : (a.length : Int) ≤ b.length := by omega
    clear hlen
    go_enter Tryd.func26, Tryd.ntmps26
    go_wp2_with fail
    go_loopw [5] (fun i wr => ∃ k : Nat, k ≤ a.length ∧ i = .int .i64 k ∧ a.take k = b.take k ∧ ∃ n, wr = w.drewN n) (fun i _ => a.length - (intOf i).toNat)
    case atStart => exact ⟨0, Nat.zero_le _, rfl, by simp, 0, rfl⟩
    case round =>
      obtain ⟨k, hk, rfl, htk, n, rfl⟩ := hrel
      have Htk : Hid (a.take k = b.take k) := htk
      clear htk
      by_cases hlt : k < a.length
      · have hlt2 : k < b.length := by omega
        obtain ⟨x, hx⟩ : ∃ x, a[k]? = some x := ⟨a[k], by simp [hlt]⟩
        obtain ⟨y, hy⟩ : ∃ y, b[k]? = some y := ⟨b[k], by simp [hlt2]⟩
        obtain ⟨b1, o1, rfl, hb1, c1⟩ := hc1 (by rintro rfl; simp at hx)
        obtain ⟨b2, o2, rfl, hb2, c2⟩ := hc2 (by rintro rfl; simp at hy)
        have d1 := c1 k x hx
        have d2 := c2 k y hy
        have i1 : (k : Int) < (a.length : Int) := by omega
        have i2 : (k : Int) < (b.length : Int) := by omega
        have Hx : Hid (a[k]? = some x) := hx
        have Hy : Hid (b[k]? = some y) := hy
        clear c1 c2 hx hy hc1 hc2
        by_cases hxy : x = y
        · subst hxy
          go_wp2_with fail
          go_quiet (fail)
          go_wp2_with fail
          go_roundw
          case rel =>
            refine ⟨k + 1, by omega, by go_num, ?_, _, rfl⟩
            rw [List.take_add_one, List.take_add_one, Htk.out, Hx.out, Hy.out]
          case measure => simp [intOf]; omega
        · have hxy' : (x != y) = true := by simp [hxy]
          have Hne : Hid (decide (a = b) = false) := dec_false (fun e => by
            have h1 := Hx.out
            rw [e, Hy.out] at h1
            simp at h1
            exact hxy h1.symm)
          clear hxy
          go_wp2_with fail
          go_quiet (fail)
          go_wp2_with fail
          go_ret
          rw [Hne.out]
          exact ⟨rfl, rfl, rfl, rfl, Nat.le_refl _, fun _ _ => rfl⟩
      · have He : Hid (decide (a = b) = true) := by
          have h1 := Htk.out
          rw [List.take_of_length_le (by omega), List.take_of_length_le (by have := Hlen.out; omega)] at h1
          simp [Hid, h1]
        go_wp2_with fail
        go_ret
        rw [He.out]
        exact ⟨rfl, rfl, rfl, rfl, Nat.le_refl _, fun _ _ => rfl⟩
  · have hlb : ((a.length : Int) != (b.length : Int)) = true := by simp; omega
    have Hne : Hid (decide (a = b) = false) := dec_false (fun e => hlen (by rw [e]))
    clear hlen
    go_enter Tryd.func26, Tryd.ntmps26
    go_wp2_with fail
    go_ret
    rw [Hne.out]
    exact ⟨rfl, Below.refl _ _⟩

theorem Made.ints {b : Nat} {W : World} {v : Value} {l : List Int} (h : Made b W v l) (hl : (l.length : Int) ≤ 9223372036854775807) : IntsAt W v l := ownsRow_ints h.1 hl

def pathF : Nat → Int → Int → List Int
  | 0, _, _ => []
  | f + 1, x, n => if x == n - 1 then [] else parI x :: pathF f (parI x) n

def copathF : Nat → Int → Int → List Int
  | 0, _, _ => []
  | f + 1, x, n => if x == n - 1 then [] else sibI x :: copathF f (parI x) n

theorem path_eq {x n : Int} (h : inB x n = true) : pathI x n = pathF 6 x n := eq_of_beq (forall_in (fun x n => pathI x n == pathF 6 x n) (by decide +kernel) x n h)

theorem copath_eq {x n : Int} (h : inB x n = true) : copathI x n = copathF 6 x n := eq_of_beq (forall_in (fun x n => copathI x n == copathF 6 x n) (by decide +kernel) x n h)

theorem pathF_root {f : Nat} {a n : Int} (hr : (a == n - 1) = true) : pathF f a n = [] := by cases f <;> simp [pathF, hr]

theorem pathF_step {f : Nat} {a n : Int} (h : upOk f a n = true) (hr : (a == n - 1) = false) : ∃ g, f = g + 1 ∧ pathF f a n = parI a :: pathF g (parI a) n ∧ upOk g (parI a) n = true := by
  cases f with
  | zero => simp [upOk] at h; simp [h] at hr
  | succ g => exact ⟨g, rfl, by simp [pathF, hr], by simpa [upOk, hr] using h⟩

theorem copathF_root {f : Nat} {a n : Int} (hr : (a == n - 1) = true) : copathF f a n = [] := by cases f <;> simp [copathF, hr]

theorem copathF_step {f : Nat} {a n : Int} (h : upOk f a n = true) (hr : (a == n - 1) = false) : ∃ g, f = g + 1 ∧ copathF f a n = sibI a :: copathF g (parI a) n ∧ upOk g (parI a) n = true := by
  cases f with
  | zero => simp [upOk] at h; simp [h] at hr
  | succ g => exact ⟨g, rfl, by simp [copathF, hr], by simpa [upOk, hr] using h⟩

end Go.Proofs.YtmcjincgppddeaaDoor

namespace Go.Proofs.YtmcjincgppddeaaDoor
open Go.RowKit
set_option linter.unusedSimpArgs false
set_option linter.unusedVariables false

def mz (p : Int) : Nat := if p < 0 then 0 else 7 - (lev p).toNat

theorem mz_less {q n : Int} (hq : inB q n = true) (hr : (q == n - 1) = false) : mz (parR (parI q) n) < mz (parI q) := by
  have hlp := lev_par hq hr
  have hpin := par_in hq hr
  have h2 := (par_ge hq hr).2.1
  unfold mz
  rw [if_neg (show ¬ parI q < 0 by omega)]
  split
  · omega
  · rename_i hge
    have hr2 : (parI q == n - 1) = false := by
      cases h : (parI q == n - 1) with
      | false => rfl
      | true => exact absurd (by simp [parR, h]) hge
    have := lev_par hpin hr2
    rw [(par_ge hpin hr2).1]
    omega

theorem Made.more {b : Nat} {w7 : World} {v7 : Value} {pre : List Int} {a : Int} {v : Value} {k : Nat} (ho : w7.ownsRow b 3 1 v7 (pre.length + 1) (pre.map (Value.int .i64) ++ [.int .i64 a])) (hn : v7 = .slice none 0 0 ↔ v = .slice none 0 0 ∧ k = 0) (hk : k ≠ 0) : Made b w7 v7 (pre ++ [a]) :=
  ⟨by simpa using ho, by simp; intro e; exact hk (hn.1 e).2⟩

set_option maxRecDepth 100000 in
set_option maxHeartbeats 2000000 in
theorem refPath_any (x n : Int) (hx : inB x n = true) {w : World} :
    Calls Tryd.prog 48 #[.int .i64 x, .int .i64 n] w fun e W' => ∃ v, e = .returned v ∧ Made w.heap.size W' v (pathI x n) ∧ Below w.heap.size w W' := by
  obtain ⟨i0, hi, hz0, hz1, hz2⟩ := info_parts Tryd.infoI
  go_enter Tryd.func48, Tryd.ntmps48
  go_wp2_with fail
  refine (refParent_any _ _ hx).mono ?_
  rintro e w' ⟨rfl, rfl⟩
  go_wp2_with fail
  go_loopw [5, 6] (fun v p wr => ∃ (pre : List Int) (q : Int) (f : Nat), p = .int .i64 (parR q n) ∧ pathI x n = pre ++ pathF f q n ∧ upOk f q n = true ∧ inB q n = true ∧ pre.length + f = 6 ∧ Made w'.heap.size wr v pre ∧ Below w'.heap.size w' wr) (fun _ p _ => mz (intOf p))
  case atStart => exact ⟨[], x, 6, rfl, path_eq hx, up_ok hx, hx, rfl, ⟨World.ownsRow_nil _ _ _ _, by simp⟩, Below.refl _ _⟩
  case round =>
    obtain ⟨pre, q, f, rfl, hp, hok, hq, hf, ⟨hown, hnil⟩, hB⟩ := hrel
    have Hp : Hid (pathI x n = pre ++ pathF f q n) := hp
    have Hok : Hid (upOk f q n = true) := hok
    clear hp hok
    cases hr : (q == n - 1) with
    | true =>
      have e1 : parR q n = -1 := by simp [parR, hr]
      have e2 : pathI x n = pre := by rw [Hp.out, pathF_root hr]; simp
      have HM : Hid (Made w'.heap.size wr u5 (pathI x n)) := by rw [e2]; exact ⟨hown, hnil⟩
      clear e2 hr
      simp only [e1]
      go_wp2_with fail
      all_goals go_ret
      all_goals exact ⟨_, rfl, HM.out, hB⟩
    | false =>
      obtain ⟨h1, h2, h3, h4⟩ := par_ge hq hr
      obtain ⟨g, rfl, hug, hokg⟩ := pathF_step Hok.out hr
      have hlp := lev_par hq hr
      have hpin := par_in hq hr
      have Hug : Hid (pathF (g + 1) q n = parI q :: pathF g (parI q) n) := hug
      have Hokg : Hid (upOk g (parI q) n = true) := hokg
      clear hug hokg
      have hsz := hB.size
      have Hlv : Hid (mz (parR (parI q) n) < mz (parI q)) := mz_less hq hr
      simp only [h1]
      have Hm1 : Hid (pre.length + 1 ≤ maxLen) := by show _ ≤ maxLen; unfold maxLen; omega
      have Hm2 : Hid ((pre.length + 1) * 8 ≤ 140737488355328) := by show _ ≤ _; omega
      have hone : ∀ u ∈ [Value.int .i64 (parI q)], u.oneCell' = true := by intro u hu; simp at hu; subst hu; rfl
      have hp0 : w'.heap.size ≤ (wr.alloc (.cells #[.int .i64 (parI q)] 3)).heap.size := by simp; omega
      go_wp2_with (refine wpList_append_own_at _ rfl (.tmp 15) (.tmp 17) 30 rfl w'.heap.size 3 i0 (.int .i64 0) 1 8 Tryd.underlying30 hi hz0 hz1 hz2 rfl Nat.one_pos _ pre.length _ rfl (hown.alloc _) ⟨wr.heap.size, 0, none⟩ 1 1 [.int .i64 (parI q)] rfl rfl (cell_one_new _ _ _) hone Hm1.out Hm2.out hp0 ?_; intro v7 w7 ho7 hg7 hnil7 hl7)
      refine (refParent_any _ _ hpin).mono ?_
      rintro e w8 ⟨rfl, rfl⟩
      have b7 := (hB.alloc hsz (.cells #[.int .i64 (parI q)] 3)).grown hg7 hp0 (fun k hk => (hown.lt k hk).1)
      go_wp2_with fail
      go_roundw
      case rel =>
        exact ⟨pre ++ [parI q], parI q, g, rfl, by rw [Hp.out, Hug.out]; simp, Hokg.out, hpin, by simp; omega, Made.more ho7 hnil7 (by decide), b7⟩
      case measure =>
        exact Hlv.out

set_option maxRecDepth 100000 in
set_option maxHeartbeats 2000000 in
theorem refCopath_any (x n : Int) (hx : inB x n = true) {w : World} :
    Calls Tryd.prog 49 #[.int .i64 x, .int .i64 n] w fun e W' => ∃ v, e = .returned v ∧ Made w.heap.size W' v (copathI x n) ∧ Below w.heap.size w W' := by
  obtain ⟨i0, hi, hz0, hz1, hz2⟩ := info_parts Tryd.infoI
  go_enter Tryd.func49, Tryd.ntmps49
  go_wp2_with fail
  go_loopw [0, 5] (fun p v wr => ∃ (pre : List Int) (q : Int) (f : Nat), p = .int .i64 q ∧ copathI x n = pre ++ copathF f q n ∧ upOk f q n = true ∧ inB q n = true ∧ pre.length + f = 6 ∧ Made w.heap.size wr v pre ∧ Below w.heap.size w wr) (fun p _ _ => 7 - (lev (intOf p)).toNat)
  case atStart => exact ⟨[], x, 6, rfl, copath_eq hx, up_ok hx, hx, rfl, ⟨World.ownsRow_nil _ _ _ _, by simp⟩, Below.refl _ _⟩
  case round =>
    obtain ⟨pre, q, f, rfl, hp, hok, hq, hf, ⟨hown, hnil⟩, hB⟩ := hrel
    have Hp : Hid (copathI x n = pre ++ copathF f q n) := hp
    have Hok : Hid (upOk f q n = true) := hok
    clear hp hok
    cases hr : (q == n - 1) with
    | true =>
      have e1 : parR q n = -1 := by simp [parR, hr]
      have e2 : copathI x n = pre := by rw [Hp.out, copathF_root hr]; simp
      have HM : Hid (Made w.heap.size wr u5 (copathI x n)) := by rw [e2]; exact ⟨hown, hnil⟩
      clear e2 hr
      go_wp2_with fail
      refine (refParent_any _ _ hq).mono ?_
      rintro e w8 ⟨rfl, rfl⟩
      simp only [e1]
      go_wp2_with fail
      all_goals go_ret
      all_goals exact ⟨_, rfl, HM.out, hB⟩
    | false =>
      obtain ⟨h1, h2, h3, h4⟩ := par_ge hq hr
      obtain ⟨g, rfl, hug, hokg⟩ := copathF_step Hok.out hr
      have hlp := lev_par hq hr
      have hpin := par_in hq hr
      have Hug : Hid (copathF (g + 1) q n = sibI q :: copathF g (parI q) n) := hug
      have Hokg : Hid (upOk g (parI q) n = true) := hokg
      clear hug hokg h4
      have hsz := hB.size
      have Hm1 : Hid (pre.length + 1 ≤ maxLen) := by show _ ≤ maxLen; unfold maxLen; omega
      have Hm2 : Hid ((pre.length + 1) * 8 ≤ 140737488355328) := by show _ ≤ _; omega
      have hone : ∀ u ∈ [Value.int .i64 (sibI q)], u.oneCell' = true := by intro u hu; simp at hu; subst hu; rfl
      have hp0 : w.heap.size ≤ (wr.alloc (.cells #[.int .i64 (sibI q)] 3)).heap.size := by simp; omega
      go_wp2_with fail
      refine (refParent_any _ _ hq).mono ?_
      rintro e w8 ⟨rfl, rfl⟩
      simp only [h1]
      go_wp2_with fail
      refine (refSibling_any _ _ hq hr).mono ?_
      rintro e w9 ⟨rfl, rfl⟩
      go_wp2_with (refine wpList_append_own_at _ rfl (.tmp 14) (.tmp 16) 30 rfl w.heap.size 3 i0 (.int .i64 0) 1 8 Tryd.underlying30 hi hz0 hz1 hz2 rfl Nat.one_pos _ pre.length _ rfl (hown.alloc _) ⟨w9.heap.size, 0, none⟩ 1 1 [.int .i64 (sibI q)] rfl rfl (cell_one_new _ _ _) hone Hm1.out Hm2.out hp0 ?_; intro v7 w7 ho7 hg7 hnil7 hl7)
      refine (refParent_any _ _ hq).mono ?_
      rintro e w8 ⟨rfl, rfl⟩
      simp only [h1]
      have b7 := (hB.alloc hsz (.cells #[.int .i64 (sibI q)] 3)).grown hg7 hp0 (fun k hk => (hown.lt k hk).1)
      go_wp2_with fail
      go_roundw
      case rel =>
        exact ⟨pre ++ [sibI q], parI q, g, rfl, by rw [Hp.out, Hug.out]; simp, Hokg.out, hpin, by simp; omega, Made.more ho7 hnil7 (by decide), b7⟩
      case measure => simp [intOf]; omega

end Go.Proofs.YtmcjincgppddeaaDoor
