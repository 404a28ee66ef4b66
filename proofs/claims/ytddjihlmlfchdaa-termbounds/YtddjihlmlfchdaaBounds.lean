/-
  conclavelaw01.TermBounds answers true for every input.
-/
import Derived.Test.YtddjihlmlfchdaaAnchor
import Derived.ProofKit
import Derived.OpenShut
import Derived.ShutString
import Derived.ChangeOld
namespace Go.Proofs.Ytddjihlmlfchdaa
open Go.RowKit
set_option linter.unusedSimpArgs false
set_option linter.unusedVariables false

/-- m zero bytes, as the conversion to a string lays them. -/
def zeroStr (m : Nat) : ByteArray := (List.replicate m (0 : Int)).foldl (fun r n => r.push (UInt8.ofNat n.toNat)) ByteArray.empty

theorem foldl_push_size : ∀ (l : List Int) (s : ByteArray), (l.foldl (fun r n => r.push (UInt8.ofNat n.toNat)) s).size = s.size + l.length
  | [], s => by simp
  | x :: r, s => by
    rw [List.foldl_cons, foldl_push_size r]
    simp; omega

theorem zeroStr_size (m : Nat) : (zeroStr m).size = m := by
  unfold zeroStr
  rw [foldl_push_size]
  simp

theorem made_zero (m : Nat) (hm : m ≤ 2000) (W : World) : (Instr.makeSlice 49 (.int .i64 (m : Int)) (.int .i64 (m : Int))).run Try.prog W = .ok (.slice (some ⟨W.heap.size, 0, none⟩) m m) (W.alloc (.cells (madeCells #[.int .u8 0] m) 5)) := by
  obtain ⟨i0, hi, hz0, hz1, hz2⟩ := info_parts info5
  have h := run_make (P := Try.prog) W 49 5 i0 (.int .u8 0) Try.underlying49 hi hz0 .i64 .i64 (m : Int) (m : Int) (by omega) (by omega) (by rw [hz2]; omega) (by omega)
  simpa [hz1, Value.cells] using h

theorem conv_zero (m : Nat) (W : World) : (convert 49 9 (.slice (some ⟨W.heap.size, 0, none⟩) m m)).run Try.prog (W.alloc (.cells (madeCells #[.int .u8 0] m) 5)) = .ok (.string (zeroStr m)) (W.alloc (.cells (madeCells #[.int .u8 0] m) 5)) := by
  rw [run_convert_bytes_string _ 49 9 5 _ _ _ Try.underlying49 Try.underlying5 Try.underlying9]
  refine run_bytesToString _ _ _ _ (List.replicate m 0) ?_
  have h := run_loadCells_list (P := Try.prog) (W.alloc (.cells (madeCells #[.int .u8 0] m) 5)) ⟨W.heap.size, 0, none⟩ ((List.replicate m (0 : Int)).map (Value.int .u8)) ?_
  · simpa using h
  · intro j v hv
    have hl := toList_madeCells_one (.int .u8 0) m
    have hc := cell_of_heap (w := W.alloc (.cells (madeCells #[.int .u8 0] m) 5)) (heap_alloc_new W _) j
    have : (⟨W.heap.size, 0, none⟩ : Addr).add j = ⟨W.heap.size, j, none⟩ := by unfold Addr.add; split <;> simp_all
    rw [this, hc, ← Array.getElem?_toList, hl]
    simpa using hv

theorem zeros (m : Nat) (hm : m ≤ 2000) : ∃ M z, z.size = m ∧ (∀ W : World, (Instr.makeSlice 49 (.int .i64 (m : Int)) (.int .i64 (m : Int))).run Try.prog W = .ok (.slice (some ⟨W.heap.size, 0, none⟩) m m) (W.alloc (.cells M 5))) ∧
    ∀ (W : World) (b : Nat), b = W.heap.size → (convert 49 9 (.slice (some ⟨b, 0, none⟩) m m)).run Try.prog (W.alloc (.cells M 5)) = .ok (.string z) (W.alloc (.cells M 5)) :=
  ⟨_, _, zeroStr_size m, made_zero m hm, fun W b hb => hb ▸ conv_zero m W⟩

set_option maxRecDepth 100000 in
set_option maxHeartbeats 1000000 in
theorem bounds_00 (w : World) : Calls Try.prog 9 #[.int .i64 0, .bool false] w fun e w' => e = .returned (.bool true) ∧ Below w.heap.size w w' := by
  obtain ⟨M, z, hz, hmk, hcv⟩ := zeros 1024 (by omega)
  obtain ⟨N, y, hy, hmk2, hcv2⟩ := zeros 32 (by omega)
  simp only [Int.cast_ofNat_Int] at hmk hmk2
  have HK : Hid (makeF [atom 1] ⟨2, z, 0, 0⟩ = (2, 0, [atom 1, ⟨2, z, 0, 0⟩])) := by
    simp [Hid, makeF, fitsB, findN, atom, Nd.beq, hz, hy, hasB, emptyB]
  clear hz hy
  go_enter Try.func9, Try.ntmps9
  go_wp2_with fail
  refine (anchor_any w).mono ?_
  rintro e w1 ⟨rfl, hb⟩
  go_wp2_with fail
  refine (new_mine w w1 hb).mono ?_
  rintro e w2 ⟨s, rfl, m2⟩
  go_wp2_with fail
  refine (fresh_mine m2 (by omega) (by omega) mk1).mono ?_
  rintro e w3 ⟨rfl, m3⟩
  clear hb m2
  go_wp2_with fail
  refine (make_mine (m3.grow ?_) ⟨2, z, 0, 0⟩ HK.out).mono ?_
  · repeat first | exact Below.refl _ _ | refine Below.alloc ?_ (by simp; try omega) _
  rintro e w4 ⟨rfl, m4⟩
  clear m3
  go_wp2_with fail
  go_ret
  exact ⟨rfl, m4.below⟩

set_option maxRecDepth 100000 in
set_option maxHeartbeats 1000000 in
theorem bounds_01 (w : World) : Calls Try.prog 9 #[.int .i64 0, .bool true] w fun e w' => e = .returned (.bool true) ∧ Below w.heap.size w w' := by
  obtain ⟨M, z, hz, hmk, hcv⟩ := zeros 1025 (by omega)
  obtain ⟨N, y, hy, hmk2, hcv2⟩ := zeros 33 (by omega)
  simp only [Int.cast_ofNat_Int] at hmk hmk2
  have HK : Hid (makeF [atom 1] ⟨2, z, 0, 0⟩ = (0, 10, [atom 1])) := by
    simp [Hid, makeF, fitsB, findN, atom, Nd.beq, hz, hy, hasB, emptyB]
  clear hz hy
  go_enter Try.func9, Try.ntmps9
  go_wp2_with fail
  refine (anchor_any w).mono ?_
  rintro e w1 ⟨rfl, hb⟩
  go_wp2_with fail
  refine (new_mine w w1 hb).mono ?_
  rintro e w2 ⟨s, rfl, m2⟩
  go_wp2_with fail
  refine (fresh_mine m2 (by omega) (by omega) mk1).mono ?_
  rintro e w3 ⟨rfl, m3⟩
  clear hb m2
  go_wp2_with fail
  refine (make_mine (m3.grow ?_) ⟨2, z, 0, 0⟩ HK.out).mono ?_
  · repeat first | exact Below.refl _ _ | refine Below.alloc ?_ (by simp; try omega) _
  rintro e w4 ⟨rfl, m4⟩
  clear m3
  go_wp2_with fail
  refine (len_mine m4).mono ?_
  rintro e w5 ⟨rfl, rfl⟩
  go_wp2_with fail
  go_ret
  exact ⟨rfl, m4.below⟩

set_option maxRecDepth 100000 in
set_option maxHeartbeats 1000000 in
theorem bounds_10 (w : World) : Calls Try.prog 9 #[.int .i64 1, .bool false] w fun e w' => e = .returned (.bool true) ∧ Below w.heap.size w w' := by
  obtain ⟨M, z, hz, hmk, hcv⟩ := zeros 1024 (by omega)
  obtain ⟨N, y, hy, hmk2, hcv2⟩ := zeros 32 (by omega)
  simp only [Int.cast_ofNat_Int] at hmk hmk2
  have HK : Hid (makeF [atom 1] ⟨4, y, 1, 0⟩ = (2, 0, [atom 1, ⟨4, y, 1, 0⟩])) := by
    simp [Hid, makeF, fitsB, findN, atom, Nd.beq, hz, hy, hasB, emptyB]
  clear hz hy
  go_enter Try.func9, Try.ntmps9
  go_wp2_with fail
  refine (anchor_any w).mono ?_
  rintro e w1 ⟨rfl, hb⟩
  go_wp2_with fail
  refine (new_mine w w1 hb).mono ?_
  rintro e w2 ⟨s, rfl, m2⟩
  go_wp2_with fail
  refine (fresh_mine m2 (by omega) (by omega) mk1).mono ?_
  rintro e w3 ⟨rfl, m3⟩
  clear hb m2
  go_wp2_with fail
  refine (make_mine (m3.grow ?_) ⟨4, y, 1, 0⟩ HK.out).mono ?_
  · repeat first | exact Below.refl _ _ | refine Below.alloc ?_ (by simp; try omega) _
  rintro e w4 ⟨rfl, m4⟩
  clear m3
  go_wp2_with fail
  go_ret
  exact ⟨rfl, m4.below⟩

set_option maxRecDepth 100000 in
set_option maxHeartbeats 1000000 in
theorem bounds_11 (w : World) : Calls Try.prog 9 #[.int .i64 1, .bool true] w fun e w' => e = .returned (.bool true) ∧ Below w.heap.size w w' := by
  obtain ⟨M, z, hz, hmk, hcv⟩ := zeros 1025 (by omega)
  obtain ⟨N, y, hy, hmk2, hcv2⟩ := zeros 33 (by omega)
  simp only [Int.cast_ofNat_Int] at hmk hmk2
  have HK : Hid (makeF [atom 1] ⟨4, y, 1, 0⟩ = (0, 10, [atom 1])) := by
    simp [Hid, makeF, fitsB, findN, atom, Nd.beq, hz, hy, hasB, emptyB]
  clear hz hy
  go_enter Try.func9, Try.ntmps9
  go_wp2_with fail
  refine (anchor_any w).mono ?_
  rintro e w1 ⟨rfl, hb⟩
  go_wp2_with fail
  refine (new_mine w w1 hb).mono ?_
  rintro e w2 ⟨s, rfl, m2⟩
  go_wp2_with fail
  refine (fresh_mine m2 (by omega) (by omega) mk1).mono ?_
  rintro e w3 ⟨rfl, m3⟩
  clear hb m2
  go_wp2_with fail
  refine (make_mine (m3.grow ?_) ⟨4, y, 1, 0⟩ HK.out).mono ?_
  · repeat first | exact Below.refl _ _ | refine Below.alloc ?_ (by simp; try omega) _
  rintro e w4 ⟨rfl, m4⟩
  clear m3
  go_wp2_with fail
  refine (len_mine m4).mono ?_
  rintro e w5 ⟨rfl, rfl⟩
  go_wp2_with fail
  go_ret
  exact ⟨rfl, m4.below⟩

set_option maxRecDepth 100000 in
set_option maxHeartbeats 1000000 in
theorem bounds_20 (w : World) : Calls Try.prog 9 #[.int .i64 2, .bool false] w fun e w' => e = .returned (.bool true) ∧ Below w.heap.size w w' := by
  obtain ⟨M, z, hz, hmk, hcv⟩ := zeros 1024 (by omega)
  obtain ⟨N, y, hy, hmk2, hcv2⟩ := zeros 32 (by omega)
  simp only [Int.cast_ofNat_Int] at hmk hmk2
  have HK : Hid (makeF [atom 1] ⟨5, y, 1, 1⟩ = (2, 0, [atom 1, ⟨5, y, 1, 1⟩])) := by
    simp [Hid, makeF, fitsB, findN, atom, Nd.beq, hz, hy, hasB, emptyB]
  clear hz hy
  go_enter Try.func9, Try.ntmps9
  go_wp2_with fail
  refine (anchor_any w).mono ?_
  rintro e w1 ⟨rfl, hb⟩
  go_wp2_with fail
  refine (new_mine w w1 hb).mono ?_
  rintro e w2 ⟨s, rfl, m2⟩
  go_wp2_with fail
  refine (fresh_mine m2 (by omega) (by omega) mk1).mono ?_
  rintro e w3 ⟨rfl, m3⟩
  clear hb m2
  go_wp2_with fail
  refine (make_mine (m3.grow ?_) ⟨5, y, 1, 1⟩ HK.out).mono ?_
  · repeat first | exact Below.refl _ _ | refine Below.alloc ?_ (by simp; try omega) _
  rintro e w4 ⟨rfl, m4⟩
  clear m3
  go_wp2_with fail
  go_ret
  exact ⟨rfl, m4.below⟩

set_option maxRecDepth 100000 in
set_option maxHeartbeats 1000000 in
theorem bounds_21 (w : World) : Calls Try.prog 9 #[.int .i64 2, .bool true] w fun e w' => e = .returned (.bool true) ∧ Below w.heap.size w w' := by
  obtain ⟨M, z, hz, hmk, hcv⟩ := zeros 1025 (by omega)
  obtain ⟨N, y, hy, hmk2, hcv2⟩ := zeros 33 (by omega)
  simp only [Int.cast_ofNat_Int] at hmk hmk2
  have HK : Hid (makeF [atom 1] ⟨5, y, 1, 1⟩ = (0, 10, [atom 1])) := by
    simp [Hid, makeF, fitsB, findN, atom, Nd.beq, hz, hy, hasB, emptyB]
  clear hz hy
  go_enter Try.func9, Try.ntmps9
  go_wp2_with fail
  refine (anchor_any w).mono ?_
  rintro e w1 ⟨rfl, hb⟩
  go_wp2_with fail
  refine (new_mine w w1 hb).mono ?_
  rintro e w2 ⟨s, rfl, m2⟩
  go_wp2_with fail
  refine (fresh_mine m2 (by omega) (by omega) mk1).mono ?_
  rintro e w3 ⟨rfl, m3⟩
  clear hb m2
  go_wp2_with fail
  refine (make_mine (m3.grow ?_) ⟨5, y, 1, 1⟩ HK.out).mono ?_
  · repeat first | exact Below.refl _ _ | refine Below.alloc ?_ (by simp; try omega) _
  rintro e w4 ⟨rfl, m4⟩
  clear m3
  go_wp2_with fail
  refine (len_mine m4).mono ?_
  rintro e w5 ⟨rfl, rfl⟩
  go_wp2_with fail
  go_ret
  exact ⟨rfl, m4.below⟩

set_option maxRecDepth 100000 in
set_option maxHeartbeats 1000000 in
theorem bounds_30 (w : World) : Calls Try.prog 9 #[.int .i64 3, .bool false] w fun e w' => e = .returned (.bool true) ∧ Below w.heap.size w w' := by
  obtain ⟨M, z, hz, hmk, hcv⟩ := zeros 1024 (by omega)
  obtain ⟨N, y, hy, hmk2, hcv2⟩ := zeros 32 (by omega)
  simp only [Int.cast_ofNat_Int] at hmk hmk2
  have HK : Hid (makeF [atom 1] ⟨1, ⟨#[]⟩, 1099511627776, 0⟩ = (2, 0, [atom 1, ⟨1, ⟨#[]⟩, 1099511627776, 0⟩])) := by
    simp [Hid, makeF, fitsB, findN, atom, Nd.beq, hz, hy, hasB, emptyB]
  clear hz hy
  go_enter Try.func9, Try.ntmps9
  go_wp2_with fail
  refine (anchor_any w).mono ?_
  rintro e w1 ⟨rfl, hb⟩
  go_wp2_with fail
  refine (new_mine w w1 hb).mono ?_
  rintro e w2 ⟨s, rfl, m2⟩
  go_wp2_with fail
  refine (fresh_mine m2 (by omega) (by omega) mk1).mono ?_
  rintro e w3 ⟨rfl, m3⟩
  clear hb m2
  go_wp2_with fail
  refine (make_mine (m3.grow ?_) ⟨1, ⟨#[]⟩, 1099511627776, 0⟩ HK.out).mono ?_
  · repeat first | exact Below.refl _ _ | refine Below.alloc ?_ (by simp; try omega) _
  rintro e w4 ⟨rfl, m4⟩
  clear m3
  go_wp2_with fail
  go_ret
  exact ⟨rfl, m4.below⟩

set_option maxRecDepth 100000 in
set_option maxHeartbeats 1000000 in
theorem bounds_31 (w : World) : Calls Try.prog 9 #[.int .i64 3, .bool true] w fun e w' => e = .returned (.bool true) ∧ Below w.heap.size w w' := by
  obtain ⟨M, z, hz, hmk, hcv⟩ := zeros 1025 (by omega)
  obtain ⟨N, y, hy, hmk2, hcv2⟩ := zeros 33 (by omega)
  simp only [Int.cast_ofNat_Int] at hmk hmk2
  have HK : Hid (makeF [atom 1] ⟨1, ⟨#[]⟩, 1099511627777, 0⟩ = (0, 10, [atom 1])) := by
    simp [Hid, makeF, fitsB, findN, atom, Nd.beq, hz, hy, hasB, emptyB]
  clear hz hy
  go_enter Try.func9, Try.ntmps9
  go_wp2_with fail
  refine (anchor_any w).mono ?_
  rintro e w1 ⟨rfl, hb⟩
  go_wp2_with fail
  refine (new_mine w w1 hb).mono ?_
  rintro e w2 ⟨s, rfl, m2⟩
  go_wp2_with fail
  refine (fresh_mine m2 (by omega) (by omega) mk1).mono ?_
  rintro e w3 ⟨rfl, m3⟩
  clear hb m2
  go_wp2_with fail
  refine (make_mine (m3.grow ?_) ⟨1, ⟨#[]⟩, 1099511627777, 0⟩ HK.out).mono ?_
  · repeat first | exact Below.refl _ _ | refine Below.alloc ?_ (by simp; try omega) _
  rintro e w4 ⟨rfl, m4⟩
  clear m3
  go_wp2_with fail
  refine (len_mine m4).mono ?_
  rintro e w5 ⟨rfl, rfl⟩
  go_wp2_with fail
  go_ret
  exact ⟨rfl, m4.below⟩

set_option maxHeartbeats 400000 in
theorem bounds_out (w : World) (n : Int) (b : Bool) (h : n < 0 ∨ 3 < n) : Calls Try.prog 9 #[.int .i64 n, .bool b] w fun e w' => e = .returned (.bool true) ∧ Below w.heap.size w w' := by
  rcases h with h | h
  · go_enter Try.func9, Try.ntmps9
    go_wp2_with fail
    refine (anchor_any w).mono ?_
    rintro e w1 ⟨rfl, hb⟩
    go_wp2_with fail
    go_ret
    exact ⟨rfl, hb⟩
  · have h0 : decide (n < 0) = false := dec_false (by omega)
    go_enter Try.func9, Try.ntmps9
    go_wp2_with fail
    refine (anchor_any w).mono ?_
    rintro e w1 ⟨rfl, hb⟩
    go_wp2_with fail
    go_ret
    exact ⟨rfl, hb⟩

theorem bounds_walk (a0 : Int) (w0 : (Lit.int .i64 a0).wf = true) (a1 : Bool) (w : World) :
    Calls Try.prog 9 #[.int .i64 a0, .bool a1] w fun e w' => e = .returned (.bool true) ∧ Below w.heap.size w w' := by
  by_cases h : a0 < 0 ∨ 3 < a0
  · exact bounds_out w a0 a1 h
  · have h4 : a0 = 0 ∨ a0 = 1 ∨ a0 = 2 ∨ a0 = 3 := by omega
    rcases h4 with rfl | rfl | rfl | rfl <;> cases a1
    · exact bounds_00 w
    · exact bounds_01 w
    · exact bounds_10 w
    · exact bounds_11 w
    · exact bounds_20 w
    · exact bounds_21 w
    · exact bounds_30 w
    · exact bounds_31 w

end Go.Proofs.Ytddjihlmlfchdaa
