/-
  The document's digits of a number · The document's digits of a number, from the last · The document's digits of a number, from the last · The document's digits of a number, from the last.
-/
import Derived.Test.YtmcjincgppddeaaDoorFD
import Derived.Deep.RegionLaw
import Derived.Laws.BytesArg
namespace Go.Proofs.YtmcjincgppddeaaDoor
open Go.RowKit
set_option linter.unusedSimpArgs false
set_option linter.unusedVariables false

theorem itoa_lo {n : Int} (h : n = -9 ∨ n = -8 ∨ n = -7 ∨ n = -6 ∨ n = -5 ∨ n = -4 ∨ n = -3 ∨ n = -2 ∨ n = -1) : ∃ d : UInt8, Lib.itoa n = [45, d] ∧ (d.toNat : Int) = 48 - n := by
  rcases h with rfl | rfl | rfl | rfl | rfl | rfl | rfl | rfl | rfl <;> exact ⟨_, by simp [Lib.itoa, Lib.decDigits]; rfl, by decide⟩

theorem itoa_step {n : Int} (h : n ≤ -10 ∨ 10 ≤ n) : Lib.itoa n = Lib.itoa (n.tdiv 10) ++ [UInt8.ofNat (48 + (n.tmod 10).natAbs)] := by
  unfold Lib.itoa
  have e1 : (n.tdiv 10).natAbs = n.natAbs / 10 := by rw [Int.natAbs_tdiv]; rfl
  have e2 : (n.tmod 10).natAbs = n.natAbs % 10 := by rw [Int.natAbs_tmod]; rfl
  rw [e2]
  rcases h with h | h
  · have h3 : n.tdiv 10 < 0 := by
      have : n = -(n.natAbs : Int) := by omega
      rw [this, Int.neg_tdiv, Int.tdiv_eq_ediv_of_nonneg (by omega)]
      omega
    rw [if_pos (by omega), if_pos h3, e1, Lib.decDigits, dif_neg (by omega)]
    simp
  · have h3 : 0 ≤ n.tdiv 10 := Int.tdiv_nonneg (by omega) (by decide)
    rw [if_neg (by omega), if_neg (by omega), Lib.decDigits, dif_neg (by omega)]
    have e3 : n.toNat = n.natAbs := by omega
    have e4 : (n.tdiv 10).toNat = n.natAbs / 10 := by omega
    rw [e3, e4]

theorem conv1 {W : World} {g : Nat} {n : Int} (h : W.cell? ⟨g, 0, none⟩ = some (.int .u8 n)) : (convert 91 9 (.slice (some ⟨g, 0, none⟩) 1 1)).run Tryd.prog W = .ok (.string ⟨#[UInt8.ofNat n.toNat]⟩) W :=
  run_convert_bytes_arg (P := Tryd.prog) W 91 5 Tryd.underlying91 Tryd.underlying5 g 0 1 1 [n] rfl (fun i hi => by
    have : i = 0 := by omega
    subst this
    simpa using h) 9 Tryd.underlying9

set_option maxRecDepth 100000 in
set_option maxHeartbeats 2000000 in
theorem digits_lo {w : World} (n : Int) (h : n = -9 ∨ n = -8 ∨ n = -7 ∨ n = -6 ∨ n = -5 ∨ n = -4 ∨ n = -3 ∨ n = -2 ∨ n = -1) :
    Calls Tryd.prog 47 #[.int .i64 n] w fun e w' => e = .returned (.string ⟨(Lib.itoa n).toArray⟩) ∧ Below w.heap.size w w' := by
  rcases h with rfl | rfl | rfl | rfl | rfl | rfl | rfl | rfl | rfl
  all_goals
    go_enter Tryd.func47, Tryd.ntmps47
    go_wp2_with (rw [conv1 (by go_simp; rfl)])
    go_ret
    exact ⟨by simp [Lib.itoa, Lib.decDigits] <;> rfl, (Below.refl _ _).alloc (Nat.le_refl _) _⟩

set_option maxRecDepth 100000 in
set_option maxHeartbeats 2000000 in
theorem digits_hi {w : World} (n : Int) (h : n = 0 ∨ n = 1 ∨ n = 2 ∨ n = 3 ∨ n = 4 ∨ n = 5 ∨ n = 6 ∨ n = 7 ∨ n = 8 ∨ n = 9) :
    Calls Tryd.prog 47 #[.int .i64 n] w fun e w' => e = .returned (.string ⟨(Lib.itoa n).toArray⟩) ∧ Below w.heap.size w w' := by
  rcases h with rfl | rfl | rfl | rfl | rfl | rfl | rfl | rfl | rfl | rfl
  all_goals
    go_enter Tryd.func47, Tryd.ntmps47
    go_wp2_with (rw [conv1 (by go_simp; rfl)])
    go_ret
    exact ⟨by simp [Lib.itoa, Lib.decDigits] <;> rfl, (Below.refl _ _).alloc (Nat.le_refl _) _⟩

end Go.Proofs.YtmcjincgppddeaaDoor

namespace Go.Proofs.YtmcjincgppddeaaDoor
open Go.RowKit
set_option linter.unusedSimpArgs false
set_option linter.unusedVariables false
theorem digit_cases (n : Int) : n.tmod 10 = -9 ∨ n.tmod 10 = -8 ∨ n.tmod 10 = -7 ∨ n.tmod 10 = -6 ∨ n.tmod 10 = -5 ∨ n.tmod 10 = -4 ∨ n.tmod 10 = -3 ∨ n.tmod 10 = -2 ∨ n.tmod 10 = -1 ∨ n.tmod 10 = 0 ∨ n.tmod 10 = 1 ∨ n.tmod 10 = 2 ∨ n.tmod 10 = 3 ∨ n.tmod 10 = 4 ∨ n.tmod 10 = 5 ∨ n.tmod 10 = 6 ∨ n.tmod 10 = 7 ∨ n.tmod 10 = 8 ∨ n.tmod 10 = 9 := by
  have h1 := Int.natAbs_tmod n 10
  have h2 : (n.tmod 10).natAbs < 10 := by rw [h1]; exact Nat.mod_lt _ (by decide)
  omega

theorem tdiv_range {n : Int} (h : n ≤ -10 ∨ 10 ≤ n) (h0 : -9223372036854775808 ≤ n) (h1 : n ≤ 9223372036854775807) : -9223372036854775808 ≤ n.tdiv 10 ∧ n.tdiv 10 ≤ 9223372036854775807 := by
  have e1 : (n.tdiv 10).natAbs = n.natAbs / 10 := by rw [Int.natAbs_tdiv]; rfl
  omega

theorem wrap8 (d : Int) (h : 0 ≤ d ∧ d ≤ 9) (w : World) : (convert 3 5 (.int .i64 (48 + d))).run Tryd.prog w = .ok (.int .u8 (48 + d)) w := by
  have : d = 0 ∨ d = 1 ∨ d = 2 ∨ d = 3 ∨ d = 4 ∨ d = 5 ∨ d = 6 ∨ d = 7 ∨ d = 8 ∨ d = 9 := by omega
  rcases this with rfl | rfl | rfl | rfl | rfl | rfl | rfl | rfl | rfl | rfl <;> go_simp <;> rfl

theorem tmod_neg {n : Int} (h : n ≤ 0) : n.tmod 10 = -((n.tmod 10).natAbs : Int) := by
  have : n = -(n.natAbs : Int) := by omega
  have h2 : n.tmod 10 ≤ 0 := by
    rw [this, Int.neg_tmod, Int.tmod_eq_emod_of_nonneg (by omega)]
    omega
  omega
theorem tmod_pos {n : Int} (h : 0 ≤ n) : n.tmod 10 = ((n.tmod 10).natAbs : Int) := by
  have h2 := Int.tmod_nonneg 10 h
  omega

theorem below_a {w X W : World} (h : Below X.heap.size X W) (hX : Below w.heap.size w X) : Below w.heap.size w W := on hX h

end Go.Proofs.YtmcjincgppddeaaDoor

namespace Go.Proofs.YtmcjincgppddeaaDoor
open Go.RowKit
set_option linter.unusedSimpArgs false
set_option linter.unusedVariables false
theorem str_cat (L : List UInt8) (x : UInt8) : (⟨L.toArray⟩ : ByteArray) ++ ⟨#[x]⟩ = ⟨(L ++ [x]).toArray⟩ := by
  apply ByteArray.ext
  simp

theorem cell_kept {X W : World} {g : Nat} {n : Int} (hB : Below X.heap.size X W) (h : X.cell? ⟨g, 0, none⟩ = some (.int .u8 n)) : W.cell? ⟨g, 0, none⟩ = some (.int .u8 n) :=
  (hB.cell (p := ⟨g, 0, none⟩) (World.block_lt_of_cell? X _ h)).trans h

theorem cell_kept2 {X W : World} {n : Int} (hB : Below (X.alloc (.cells #[.int .u8 n] 5)).drew.heap.size (X.alloc (.cells #[.int .u8 n] 5)).drew W) : W.cell? ⟨X.heap.size, 0, none⟩ = some (.int .u8 n) :=
  cell_kept hB (by show (X.alloc (.cells #[.int .u8 n] 5)).cell? _ = _; rw [World.cell?, heap_alloc_new]; rfl)

set_option maxRecDepth 100000 in
set_option maxHeartbeats 1000000 in
theorem digits_pos {w : World} (n : Int) (h : 10 ≤ n) (h0 : -9223372036854775808 ≤ n) (h1 : n ≤ 9223372036854775807)
    (ih : ∀ W, Calls Tryd.prog 47 #[.int .i64 (n.tdiv 10)] W fun e w' => e = .returned (.string ⟨(Lib.itoa (n.tdiv 10)).toArray⟩) ∧ Below W.heap.size W w') :
    Calls Tryd.prog 47 #[.int .i64 n] w fun e w' => e = .returned (.string ⟨(Lib.itoa n).toArray⟩) ∧ Below w.heap.size w w' := by
  rw [itoa_step (by omega)]
  obtain ⟨d0, d1⟩ := tdiv_range (n := n) (by omega) h0 h1
  have hdn : 0 ≤ ((n.tmod 10).natAbs : Int) ∧ ((n.tmod 10).natAbs : Int) ≤ 9 := by have := digit_cases n; omega
  have hsg : n.tmod 10 = ((n.tmod 10).natAbs : Int) := tmod_pos (by omega)
  have e8 : UInt8.ofNat (48 + (n.tmod 10).natAbs) = UInt8.ofNat (48 + ((n.tmod 10).natAbs : Int)).toNat := by congr 1
  rw [e8]
  clear e8
  generalize ((n.tmod 10).natAbs : Int) = d at *
  have hw8 : IntKind.u8.wrap (48 + d) = 48 + d := by rw [IntKind.wrap_u8]; omega
  have hw64 : IntKind.i64.wrap (48 + d) = 48 + d := by simp [IntKind.wrap, IntKind.bits, IntKind.signed]; omega
  have hc1 : ∀ (W : World) (g : Nat), W.cell? ⟨g, 0, none⟩ = some (.int .u8 (48 + d)) → (convert 91 9 (.slice (some ⟨g, 0, none⟩) 1 1)).run Tryd.prog W = .ok (.string ⟨#[UInt8.ofNat (48 + d).toNat]⟩) W := fun W g h => conv1 h
  have hLl := Lib.itoa_length_le _ d0 d1
  generalize Lib.itoa (n.tdiv 10) = L at *
  generalize hq : n.tdiv 10 = q at *
  have b1 : decide (-10 < n) = true := by simp; omega
  have b2 : decide (0 ≤ n) = true := by simp; omega
  have b3 : decide (n < 10) = false := by simp; omega
  have b4 : decide (n < 0) = false := by simp; omega
  have kq : IntKind.i64.wrap q = q := by simp [IntKind.wrap, IntKind.bits, IntKind.signed]; omega
  have kd : IntKind.i64.wrap d = d := by simp [IntKind.wrap, IntKind.bits, IntKind.signed]; omega
  have b5 : decide (d < 0) = false := by simp; omega
  have hs1 : (9223372036854775807 < L.length + 1) = False := by simp; omega
  have hs3 : (9223372036854775807 ≤ L.length) = False := by simp; omega
  have hs2 : ∀ x : UInt8, (9223372036854775807 < (⟨L.toArray⟩ : ByteArray).size + (⟨#[x]⟩ : ByteArray).size) = False := fun x => by simp [ByteArray.size]; omega
  have hs4 : (9223372036854775807 < (⟨L.toArray⟩ : ByteArray).size + 1) = False := by simp [ByteArray.size]; omega
  have hs5 : (9223372036854775807 ≤ (⟨L.toArray⟩ : ByteArray).size) = False := by simp [ByteArray.size]; omega
  clear h h0 h1 d0 d1 hdn hLl
  go_enter Tryd.func47, Tryd.ntmps47
  go_wp2_with fail
  go_region_with (first
    | (go_at_call 47; refine (ih _).mono ?_; rintro e W ⟨rfl, hB⟩; have k1 := cell_kept2 hB; have k0 : W.cell? ⟨w.heap.size, 0, none⟩ = some (.int .u8 (48 + d)) := k1)
    | (go_at_call 47; refine (ih _).mono ?_; rintro e W ⟨rfl, hB⟩)
    | (rw [conv1 (n := 48 + d) k0])
    | fail)
  all_goals
    go_wp2
    go_ret
    exact ⟨congrArg (fun s => Ending.returned (Value.string s)) (str_cat L _), by first
      | exact ((on ((Below.refl _ _).drew) hB).alloc (by have := hB.size; simp at this; omega) _)
      | exact ((on ((Below.refl _ _).drew) hB).alloc (by have := hB.size; simp at this; omega) _).drew
      | exact on ((((Below.refl _ _).alloc (Nat.le_refl _) _).drew)) hB
      | exact (on ((((Below.refl _ _).alloc (Nat.le_refl _) _).drew)) hB).drew
      | fail⟩

end Go.Proofs.YtmcjincgppddeaaDoor

namespace Go.Proofs.YtmcjincgppddeaaDoor
open Go.RowKit
set_option linter.unusedSimpArgs false
set_option linter.unusedVariables false
set_option maxRecDepth 100000 in
set_option maxHeartbeats 1000000 in
theorem digits_neg {w : World} (n : Int) (h : n ≤ -10) (h0 : -9223372036854775808 ≤ n) (h1 : n ≤ 9223372036854775807)
    (ih : ∀ W, Calls Tryd.prog 47 #[.int .i64 (n.tdiv 10)] W fun e w' => e = .returned (.string ⟨(Lib.itoa (n.tdiv 10)).toArray⟩) ∧ Below W.heap.size W w') :
    Calls Tryd.prog 47 #[.int .i64 n] w fun e w' => e = .returned (.string ⟨(Lib.itoa n).toArray⟩) ∧ Below w.heap.size w w' := by
  rw [itoa_step (by omega)]
  obtain ⟨d0, d1⟩ := tdiv_range (n := n) (by omega) h0 h1
  have hdn : 0 ≤ ((n.tmod 10).natAbs : Int) ∧ ((n.tmod 10).natAbs : Int) ≤ 9 := by have := digit_cases n; omega
  have hsg : n.tmod 10 = -((n.tmod 10).natAbs : Int) := tmod_neg (by omega)
  have e8 : UInt8.ofNat (48 + (n.tmod 10).natAbs) = UInt8.ofNat (48 + ((n.tmod 10).natAbs : Int)).toNat := by congr 1
  rw [e8]
  clear e8
  generalize ((n.tmod 10).natAbs : Int) = d at *
  have hw8 : IntKind.u8.wrap (48 + d) = 48 + d := by rw [IntKind.wrap_u8]; omega
  have hw64 : IntKind.i64.wrap (48 + d) = 48 + d := by simp [IntKind.wrap, IntKind.bits, IntKind.signed]; omega
  have hc1 : ∀ (W : World) (g : Nat), W.cell? ⟨g, 0, none⟩ = some (.int .u8 (48 + d)) → (convert 91 9 (.slice (some ⟨g, 0, none⟩) 1 1)).run Tryd.prog W = .ok (.string ⟨#[UInt8.ofNat (48 + d).toNat]⟩) W := fun W g h => conv1 h
  have hLl := Lib.itoa_length_le _ d0 d1
  generalize Lib.itoa (n.tdiv 10) = L at *
  generalize hq : n.tdiv 10 = q at *
  have b1 : decide (-10 < n) = false := by simp; omega
  have b2 : decide (0 ≤ n) = false := by simp; omega
  have b3 : decide (n < 10) = true := by simp; omega
  have b4 : decide (n < 0) = true := by simp; omega
  have kq : IntKind.i64.wrap q = q := by simp [IntKind.wrap, IntKind.bits, IntKind.signed]; omega
  have kd : IntKind.i64.wrap d = d := by simp [IntKind.wrap, IntKind.bits, IntKind.signed]; omega
  by_cases hd0 : d = 0
  · skip
    subst hd0
    have z1 : IntKind.i64.wrap 48 = 48 := rfl
    have z2 : IntKind.u8.wrap 48 = 48 := rfl
    replace hc1 : ∀ (W : World) (g : Nat), W.cell? ⟨g, 0, none⟩ = some (.int .u8 48) → (convert 91 9 (.slice (some ⟨g, 0, none⟩) 1 1)).run Tryd.prog W = .ok (.string ⟨#[UInt8.ofNat (48 : Int).toNat]⟩) W := fun W g h => conv1 h
    have hs1 : (9223372036854775807 < L.length + 1) = False := by simp; omega
    have hs3 : (9223372036854775807 ≤ L.length) = False := by simp; omega
    have hs2 : ∀ x : UInt8, (9223372036854775807 < (⟨L.toArray⟩ : ByteArray).size + (⟨#[x]⟩ : ByteArray).size) = False := fun x => by simp [ByteArray.size]; omega
    have hs4 : (9223372036854775807 < (⟨L.toArray⟩ : ByteArray).size + 1) = False := by simp [ByteArray.size]; omega
    have hs5 : (9223372036854775807 ≤ (⟨L.toArray⟩ : ByteArray).size) = False := by simp [ByteArray.size]; omega
    clear h h0 h1 d0 d1 hdn hLl
    go_enter Tryd.func47, Tryd.ntmps47
    go_wp2_with fail
    go_region_with (first
      | (go_at_call 47; refine (ih _).mono ?_; rintro e W ⟨rfl, hB⟩; have k1 := cell_kept2 hB; have k0 : W.cell? ⟨w.heap.size, 0, none⟩ = some (.int .u8 (48)) := k1)
      | (go_at_call 47; refine (ih _).mono ?_; rintro e W ⟨rfl, hB⟩)
      | (rw [conv1 (n := 48) k0])
      | fail)
    all_goals
      go_wp2
      go_ret
      exact ⟨congrArg (fun s => Ending.returned (Value.string s)) (str_cat L _), by first
        | exact ((on ((Below.refl _ _).drew) hB).alloc (by have := hB.size; simp at this; omega) _)
        | exact ((on ((Below.refl _ _).drew) hB).alloc (by have := hB.size; simp at this; omega) _).drew
        | exact on ((((Below.refl _ _).alloc (Nat.le_refl _) _).drew)) hB
        | exact (on ((((Below.refl _ _).alloc (Nat.le_refl _) _).drew)) hB).drew
        | fail⟩

  · skip
    have b5 : decide (0 < d) = true := by simp; omega
    have kd2 : IntKind.i64.wrap (-d) = -d := by simp [IntKind.wrap, IntKind.bits, IntKind.signed]; omega
    have hs1 : (9223372036854775807 < L.length + 1) = False := by simp; omega
    have hs3 : (9223372036854775807 ≤ L.length) = False := by simp; omega
    have hs2 : ∀ x : UInt8, (9223372036854775807 < (⟨L.toArray⟩ : ByteArray).size + (⟨#[x]⟩ : ByteArray).size) = False := fun x => by simp [ByteArray.size]; omega
    have hs4 : (9223372036854775807 < (⟨L.toArray⟩ : ByteArray).size + 1) = False := by simp [ByteArray.size]; omega
    have hs5 : (9223372036854775807 ≤ (⟨L.toArray⟩ : ByteArray).size) = False := by simp [ByteArray.size]; omega
    clear h h0 h1 d0 d1 hdn hLl
    go_enter Tryd.func47, Tryd.ntmps47
    go_wp2_with fail
    go_region_with (first
      | (go_at_call 47; refine (ih _).mono ?_; rintro e W ⟨rfl, hB⟩; have k1 := cell_kept2 hB; have k0 : W.cell? ⟨w.heap.size, 0, none⟩ = some (.int .u8 (48 + d)) := k1)
      | (go_at_call 47; refine (ih _).mono ?_; rintro e W ⟨rfl, hB⟩)
      | (rw [conv1 (n := 48 + d) k0])
      | fail)
    all_goals
      go_wp2
      go_ret
      exact ⟨congrArg (fun s => Ending.returned (Value.string s)) (str_cat L _), by first
        | exact ((on ((Below.refl _ _).drew) hB).alloc (by have := hB.size; simp at this; omega) _)
        | exact ((on ((Below.refl _ _).drew) hB).alloc (by have := hB.size; simp at this; omega) _).drew
        | exact on ((((Below.refl _ _).alloc (Nat.le_refl _) _).drew)) hB
        | exact (on ((((Below.refl _ _).alloc (Nat.le_refl _) _).drew)) hB).drew
        | fail⟩

theorem digits_any : ∀ (n : Int) (W : World), -9223372036854775808 ≤ n → n ≤ 9223372036854775807 → Calls Tryd.prog 47 #[.int .i64 n] W fun e w' => e = .returned (.string ⟨(Lib.itoa n).toArray⟩) ∧ Below W.heap.size W w' := by
  intro n
  generalize hm : n.natAbs = m
  induction m using Nat.strongRecOn generalizing n with
  | _ m ih =>
    intro W h0 h1
    by_cases a : n ≤ -10
    · exact digits_neg n a h0 h1 (fun W' => ih (n.tdiv 10).natAbs (by rw [Int.natAbs_tdiv]; show n.natAbs / 10 < m; omega) _ rfl W' (tdiv_range (by omega) h0 h1).1 (tdiv_range (by omega) h0 h1).2)
    · by_cases b : 10 ≤ n
      · exact digits_pos n b h0 h1 (fun W' => ih (n.tdiv 10).natAbs (by rw [Int.natAbs_tdiv]; show n.natAbs / 10 < m; omega) _ rfl W' (tdiv_range (by omega) h0 h1).1 (tdiv_range (by omega) h0 h1).2)
      · by_cases c : n < 0
        · exact digits_lo n (by omega)
        · exact digits_hi n (by omega)

end Go.Proofs.YtmcjincgppddeaaDoor
