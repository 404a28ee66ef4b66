/-
  The document's number as bytes: Put.
-/
import Derived.Test.YtjajgllkbchapaaBnd
namespace Go.Proofs.Ytjajgllkbchapaa
open Go.RowKit
set_option linter.unusedSimpArgs false
set_option linter.unusedVariables false

def valB (b : UInt8) : Value := .int .u8 b.toNat
theorem valB_one (b : UInt8) : (valB b).oneCell' = true := rfl

theorem div_step (n : Int) (a b : Nat) (h : 0 ≤ n) (hab : b = a + 1) : n / 256 ^ a / 256 = n / 256 ^ b := by
  obtain ⟨m, rfl⟩ : ∃ m : Nat, n = m := ⟨n.toNat, by omega⟩
  subst hab
  have e : ∀ k : Nat, ((m : Int) / 256 ^ k) = ((m / 256 ^ k : Nat) : Int) := fun k => by simp
  rw [e, e, Nat.pow_succ, ← Nat.div_div_eq_div_mul]
  simp

theorem row_step (L n j : Nat) (B : UInt8) (hj : j + 1 ≤ L) (hB : (be L n)[j]? = some B) : (List.replicate (j + 1) 0 ++ (be L n).drop (j + 1)).set j B = List.replicate j 0 ++ (be L n).drop j := by
  have hl : j < (be L n).length := by rw [be_length]; omega
  have e1 : (be L n).drop j = B :: (be L n).drop (j + 1) := by
    rw [List.drop_eq_getElem_cons hl]
    congr 1
    rw [List.getElem?_eq_getElem hl] at hB
    exact Option.some.inj hB
  have e2 : List.replicate (j + 1) (0 : UInt8) = List.replicate j 0 ++ [0] := List.replicate_succ'
  rw [e1, e2, List.append_assoc, List.set_append_right _ _ (by simp)]
  simp

theorem zrow (k : Nat) (hk : (k : Int) ≤ 3000) (w : World) : (w.alloc (.cells (Array.replicate k (.int .u8 0)) 5)).ownsRow w.heap.size 5 1 (.slice (some ⟨w.heap.size, 0, none⟩) k k) k (Lib.byteCells (List.replicate k 0)) ∧ Below w.heap.size w (w.alloc (.cells (Array.replicate k (.int .u8 0)) 5)) := by
  refine ⟨⟨by simp [Lib.byteCells], Or.inr ⟨w.heap.size, k, _, rfl, Nat.le_refl _, heap_alloc_new w _, Nat.le_refl _, by unfold maxLen; omega, by simp, ?_⟩⟩, (Below.refl _ _).alloc (Nat.le_refl _) _⟩
  simp [Lib.byteCells]

set_option maxRecDepth 100000 in
set_option maxHeartbeats 2000000 in
theorem refPut_0 {w : World} (n : Int) (h0 : 0 ≤ n) (h1 : n < 64) :
    Calls Try.prog 13 #[.slice none 0 0, .int .i64 n] w fun e w' => ∃ v, e = .returned (.tuple #[v, .bool true]) ∧ w'.ownsRow w.heap.size 5 1 v (enc n.toNat).length (Lib.byteCells (enc n.toNat)) ∧ Below w.heap.size w w' := by
  have q1 : ¬ 63 < n := by omega
  have q2 : ¬ 16383 < n := by omega
  have q3 : ¬ 1073741823 < n := by omega
  have hd : ¬ n < 0 := by omega
  have hd2 : ¬ 4611686018427387903 < n := by omega
  have hdd := decide_eq_false hd
  have hdd2 := decide_eq_false hd2
  have HC : Hid (cls n.toNat = 0) := by exact cls_0 (by omega)
  have hn0 : (0 : Int) ≤ n := by omega
  obtain ⟨Z, hZ⟩ : ∃ Z, Z = Array.replicate 1 (Value.int .u8 0) := ⟨_, rfl⟩
  have hmk : ∀ W, (Instr.makeSlice 24 (.int .i64 1) (.int .i64 1)).run Try.prog W = .ok (.slice (some ⟨W.heap.size, 0, none⟩) 1 1) (W.alloc (.cells Z 5)) := by rw [hZ]; exact make_bytes 1 (by decide)
  have hown0 := zrow 1 (by decide) w
  rw [← hZ] at hown0
  clear hZ
  obtain ⟨ho0, b0⟩ := hown0
  go_enter Try.func13, Try.ntmps13
  go_wp2_with fail
  have hgl : w.heap.size < (w.alloc (.cells Z 5)).heap.size := by simp
  generalize w.alloc (.cells Z 5) = w1 at *
  clear hmk
  go_loopw [1, 9] (fun x i wr => ∃ (j : Nat), j ≤ 1 ∧ i = .int .i64 ((j : Int) - 1) ∧ x = .int .i64 (n / 256 ^ (1 - j)) ∧ wr.ownsRow w.heap.size 5 1 (.slice (some ⟨w.heap.size, 0, none⟩) 1 1) 1 (Lib.byteCells (List.replicate j 0 ++ (be 1 n.toNat).drop j)) ∧ Below w.heap.size w wr) (fun _ i _ => (intOf i + 1).toNat)
  case atStart => exact ⟨1, Nat.le_refl _, rfl, by simp, by rw [List.drop_of_length_le (by rw [be_length]; exact Nat.le_refl _), List.append_nil]; exact ho0, b0⟩
  case round =>
    obtain ⟨j, hj, rfl, rfl, ho, hb⟩ := hrel
    have hbs := hb.size
    clear ho0 b0
    cases j with
    | zero =>
      rw [show ((0 : Nat) : Int) - 1 = -1 from by omega]
      rw [List.replicate_zero, List.nil_append, List.drop_zero] at ho
      have hcell := ho.cellAt 0 (by decide)
      have hfrz := ho.frozenAt 0
      have hbe : (be 1 n.toNat)[0]? = some (UInt8.ofNat (n.toNat / 256 ^ 0)) := be_get n.toNat 1 0 (by decide)
      have hcell' : wr.cell? ⟨w.heap.size, 0, none⟩ = some (.int .u8 (UInt8.ofNat (n.toNat / 256 ^ 0)).toNat) := by rw [hcell]; simp [Lib.byteCells, hbe]
      generalize hbv : (UInt8.ofNat (n.toNat / 256 ^ 0)).toNat = bv at *
      have Hbv : Hid ((UInt8.ofNat (n.toNat / 256 ^ 0)).toNat = bv) := hbv
      clear hcell hbv hbe
      have hlt : n.toNat < 4611686018427387904 := by omega
      have hhd := be_head_lt hlt
      have e1 : 2 ^ cls n.toNat - 1 = 0 := by rw [HC.out]
      rw [e1] at hhd
      have hbv2 : bv < 64 := by
        have := Hbv.out
        rw [UInt8.toNat_ofNat', Nat.mod_eq_of_lt (Nat.lt_of_lt_of_le hhd (by decide))] at this
        omega
      have hval : ((bv : Int) : Int) = ((UInt8.ofNat (bv + 0)).toNat : Int) := by rw [UInt8.toNat_ofNat']; omega
      obtain ⟨st1, st2⟩ := ho.stored 0 (.int .u8 ((bv : Int)))
      have hencl : (enc n.toNat).length = 1 := by rw [enc_length, HC.out]
      have hset : (Lib.byteCells (be 1 n.toNat)).set 0 (.int .u8 ((bv : Int))) = (enc n.toNat).map valB := by
        rw [hval]
        have e2 := enc_set (n := n.toNat) [] hlt (UInt8.ofNat (bv + 0)) (by
          rw [← hval, e1, HC.out]
          have h3 := Hbv.out
          rw [UInt8.toNat_ofNat', Nat.mod_eq_of_lt (Nat.lt_of_lt_of_le hhd (by decide))] at h3
          rw [h3, Nat.or_comm, nat_join 6 _ _ (by decide) (by omega)]
          omega)
        rw [HC.out] at e2
        simp only [List.nil_append, List.length_nil] at e2
        rw [← e2, List.map_set]
        rfl
      rw [hset] at st1
      have hv := vals_row (val := valB) valB_one (l := enc n.toNat) (v := .slice (some ⟨w.heap.size, 0, none⟩) 1 1) (base := w.heap.size) (E := 5) (by rw [hencl]; exact st1)
      have hb5 : Below w.heap.size w (wr.setCell ⟨w.heap.size, 0, none⟩ (.int .u8 ((bv : Int)))) := hb.setCell (p := ⟨w.heap.size, 0, none⟩) (Nat.le_refl _) _
      have hz5 := hb5.size
      have Hm1 : Hid (0 + (enc n.toNat).length ≤ maxLen) := by show _ ≤ maxLen; rw [hencl]; unfold maxLen; omega
      have Hm2 : Hid ((0 + (enc n.toNat).length) * 1 ≤ 140737488355328) := by show _ ≤ _; rw [hencl]; omega
      have Hv : Hid (Vals valB (wr.setCell ⟨w.heap.size, 0, none⟩ (.int .u8 ((bv : Int)))) (.slice (some ⟨w.heap.size, 0, none⟩) 1 1) (enc n.toNat)) := hv
      clear hval st1 st2 hset hv hencl hhd e1 ho
      go_wp2_with (refine wpList_append_vals valB_one info5 rfl Try.underlying24 _ rfl (.tmp 46) (.tmp 47) rfl w.heap.size (.slice none 0 0) 0 [] rfl (World.ownsRow_nil _ _ _ _) (.slice (some ⟨w.heap.size, 0, none⟩) 1 1) (enc n.toNat) rfl Hv.out Hm1.out Hm2.out hz5 ?_; intro v' w' ho' hg' hl')
      go_ret2
      exact ⟨_, rfl, by have h9 := ho'; simp only [Nat.zero_add, List.nil_append] at h9; exact h9, hb5.grown hg' hz5 (fun k hk => by simp [Value.ownBlock] at hk)⟩
    | succ j =>
      rw [show ((j + 1 : Nat) : Int) - 1 = (j : Int) from by omega]
      have hj8 : (j : Int) < 1 := by omega
      have hfrz := ho.frozenAt j
      have hx0 : (0 : Int) ≤ n / 256 ^ (1 - (j + 1)) := Int.ediv_nonneg hn0 (Int.pow_nonneg (by decide))
      have hcell : ∃ u, wr.cell? ⟨w.heap.size, j, none⟩ = some u := by
        rw [ho.cellAt j (by omega)]
        exact ⟨_, List.getElem?_eq_getElem (by unfold Lib.byteCells; rw [List.length_map, List.length_append, List.length_replicate, List.length_drop, be_length]; omega)⟩
      obtain ⟨u, hu⟩ := hcell
      have hx1 : n / 256 ^ (1 - (j + 1)) ≤ 4611686018427387904 := Int.le_trans (Int.ediv_le_self _ hn0) (by omega)
      generalize hxe : n / 256 ^ (1 - (j + 1)) = x at *
      have Hxe : Hid (n / 256 ^ (1 - (j + 1)) = x) := hxe
      clear hxe
      go_wp2_with fail
      go_roundw
      case rel =>
        have hpow : x / 256 = n / 256 ^ (1 - j) := by
          rw [← Hxe.out]
          exact div_step n _ _ hn0 (by omega)
        have hxb : x % 256 = ((UInt8.ofNat (n.toNat / 256 ^ (1 - (j + 1)))).toNat : Int) := by
          rw [← u8_wrap_div n (1 - (j + 1)) hn0, Hxe.out, IntKind.wrap_u8']
        have hbg := be_get n.toNat 1 (1 - (j + 1)) (by omega)
        rw [show 1 - (1 - (j + 1) + 1) = j from by omega] at hbg
        refine ⟨j, by omega, by go_num, by rw [hpow], ?_, hb.setCell (p := ⟨w.heap.size, j, none⟩) (Nat.le_refl _) _⟩
        rw [hxb]
        have st1 := (ho.stored j (.int .u8 ((UInt8.ofNat (n.toNat / 256 ^ (1 - (j + 1)))).toNat))).1
        have e3 := row_step 1 n.toNat j _ (by omega) hbg
        rw [← e3]
        have e4 : Lib.byteCells ((List.replicate (j + 1) 0 ++ (be 1 n.toNat).drop (j + 1)).set j (UInt8.ofNat (n.toNat / 256 ^ (1 - (j + 1))))) = (Lib.byteCells (List.replicate (j + 1) 0 ++ (be 1 n.toNat).drop (j + 1))).set j (.int .u8 ((UInt8.ofNat (n.toNat / 256 ^ (1 - (j + 1)))).toNat)) := by
          unfold Lib.byteCells
          rw [List.map_set]
        rw [e4]
        exact st1
      case measure => simp [intOf]

set_option maxRecDepth 100000 in
set_option maxHeartbeats 2000000 in
theorem refPut_1 {w : World} (n : Int) (h0 : 64 ≤ n) (h1 : n < 16384) :
    Calls Try.prog 13 #[.slice none 0 0, .int .i64 n] w fun e w' => ∃ v, e = .returned (.tuple #[v, .bool true]) ∧ w'.ownsRow w.heap.size 5 1 v (enc n.toNat).length (Lib.byteCells (enc n.toNat)) ∧ Below w.heap.size w w' := by
  have q1 : 63 < n := by omega
  have q2 : ¬ 16383 < n := by omega
  have q3 : ¬ 1073741823 < n := by omega
  have hd : ¬ n < 0 := by omega
  have hd2 : ¬ 4611686018427387903 < n := by omega
  have hdd := decide_eq_false hd
  have hdd2 := decide_eq_false hd2
  have HC : Hid (cls n.toNat = 1) := by exact cls_1 (by omega) (by omega)
  have hn0 : (0 : Int) ≤ n := by omega
  obtain ⟨Z, hZ⟩ : ∃ Z, Z = Array.replicate 2 (Value.int .u8 0) := ⟨_, rfl⟩
  have hmk : ∀ W, (Instr.makeSlice 24 (.int .i64 2) (.int .i64 2)).run Try.prog W = .ok (.slice (some ⟨W.heap.size, 0, none⟩) 2 2) (W.alloc (.cells Z 5)) := by rw [hZ]; exact make_bytes 2 (by decide)
  have hown0 := zrow 2 (by decide) w
  rw [← hZ] at hown0
  clear hZ
  obtain ⟨ho0, b0⟩ := hown0
  go_enter Try.func13, Try.ntmps13
  go_wp2_with fail
  have hgl : w.heap.size < (w.alloc (.cells Z 5)).heap.size := by simp
  generalize w.alloc (.cells Z 5) = w1 at *
  clear hmk
  go_loopw [1, 9] (fun x i wr => ∃ (j : Nat), j ≤ 2 ∧ i = .int .i64 ((j : Int) - 1) ∧ x = .int .i64 (n / 256 ^ (2 - j)) ∧ wr.ownsRow w.heap.size 5 1 (.slice (some ⟨w.heap.size, 0, none⟩) 2 2) 2 (Lib.byteCells (List.replicate j 0 ++ (be 2 n.toNat).drop j)) ∧ Below w.heap.size w wr) (fun _ i _ => (intOf i + 1).toNat)
  case atStart => exact ⟨2, Nat.le_refl _, rfl, by simp, by rw [List.drop_of_length_le (by rw [be_length]; exact Nat.le_refl _), List.append_nil]; exact ho0, b0⟩
  case round =>
    obtain ⟨j, hj, rfl, rfl, ho, hb⟩ := hrel
    have hbs := hb.size
    clear ho0 b0
    cases j with
    | zero =>
      rw [show ((0 : Nat) : Int) - 1 = -1 from by omega]
      rw [List.replicate_zero, List.nil_append, List.drop_zero] at ho
      have hcell := ho.cellAt 0 (by decide)
      have hfrz := ho.frozenAt 0
      have hbe : (be 2 n.toNat)[0]? = some (UInt8.ofNat (n.toNat / 256 ^ 1)) := be_get n.toNat 2 1 (by decide)
      have hcell' : wr.cell? ⟨w.heap.size, 0, none⟩ = some (.int .u8 (UInt8.ofNat (n.toNat / 256 ^ 1)).toNat) := by rw [hcell]; simp [Lib.byteCells, hbe]
      generalize hbv : (UInt8.ofNat (n.toNat / 256 ^ 1)).toNat = bv at *
      have Hbv : Hid ((UInt8.ofNat (n.toNat / 256 ^ 1)).toNat = bv) := hbv
      clear hcell hbv hbe
      have hlt : n.toNat < 4611686018427387904 := by omega
      have hhd := be_head_lt hlt
      have e1 : 2 ^ cls n.toNat - 1 = 1 := by rw [HC.out]
      rw [e1] at hhd
      have hbv2 : bv < 64 := by
        have := Hbv.out
        rw [UInt8.toNat_ofNat', Nat.mod_eq_of_lt (Nat.lt_of_lt_of_le hhd (by decide))] at this
        omega
      have hval : ((bv : Int) + 64 : Int) = ((UInt8.ofNat (bv + 64)).toNat : Int) := by rw [UInt8.toNat_ofNat']; omega
      obtain ⟨st1, st2⟩ := ho.stored 0 (.int .u8 ((bv : Int) + 64))
      have hencl : (enc n.toNat).length = 2 := by rw [enc_length, HC.out]
      have hset : (Lib.byteCells (be 2 n.toNat)).set 0 (.int .u8 ((bv : Int) + 64)) = (enc n.toNat).map valB := by
        rw [hval]
        have e2 := enc_set (n := n.toNat) [] hlt (UInt8.ofNat (bv + 64)) (by
          rw [← hval, e1, HC.out]
          have h3 := Hbv.out
          rw [UInt8.toNat_ofNat', Nat.mod_eq_of_lt (Nat.lt_of_lt_of_le hhd (by decide))] at h3
          rw [h3, Nat.or_comm, nat_join 6 _ _ (by decide) (by omega)]
          omega)
        rw [HC.out] at e2
        simp only [List.nil_append, List.length_nil] at e2
        rw [← e2, List.map_set]
        rfl
      rw [hset] at st1
      have hv := vals_row (val := valB) valB_one (l := enc n.toNat) (v := .slice (some ⟨w.heap.size, 0, none⟩) 2 2) (base := w.heap.size) (E := 5) (by rw [hencl]; exact st1)
      have hb5 : Below w.heap.size w (wr.setCell ⟨w.heap.size, 0, none⟩ (.int .u8 ((bv : Int) + 64))) := hb.setCell (p := ⟨w.heap.size, 0, none⟩) (Nat.le_refl _) _
      have hz5 := hb5.size
      have Hm1 : Hid (0 + (enc n.toNat).length ≤ maxLen) := by show _ ≤ maxLen; rw [hencl]; unfold maxLen; omega
      have Hm2 : Hid ((0 + (enc n.toNat).length) * 1 ≤ 140737488355328) := by show _ ≤ _; rw [hencl]; omega
      have Hv : Hid (Vals valB (wr.setCell ⟨w.heap.size, 0, none⟩ (.int .u8 ((bv : Int) + 64))) (.slice (some ⟨w.heap.size, 0, none⟩) 2 2) (enc n.toNat)) := hv
      clear hval st1 st2 hset hv hencl hhd e1 ho
      go_wp2_with (refine wpList_append_vals valB_one info5 rfl Try.underlying24 _ rfl (.tmp 46) (.tmp 47) rfl w.heap.size (.slice none 0 0) 0 [] rfl (World.ownsRow_nil _ _ _ _) (.slice (some ⟨w.heap.size, 0, none⟩) 2 2) (enc n.toNat) rfl Hv.out Hm1.out Hm2.out hz5 ?_; intro v' w' ho' hg' hl')
      go_ret2
      exact ⟨_, rfl, by have h9 := ho'; simp only [Nat.zero_add, List.nil_append] at h9; exact h9, hb5.grown hg' hz5 (fun k hk => by simp [Value.ownBlock] at hk)⟩
    | succ j =>
      rw [show ((j + 1 : Nat) : Int) - 1 = (j : Int) from by omega]
      have hj8 : (j : Int) < 2 := by omega
      have hfrz := ho.frozenAt j
      have hx0 : (0 : Int) ≤ n / 256 ^ (2 - (j + 1)) := Int.ediv_nonneg hn0 (Int.pow_nonneg (by decide))
      have hcell : ∃ u, wr.cell? ⟨w.heap.size, j, none⟩ = some u := by
        rw [ho.cellAt j (by omega)]
        exact ⟨_, List.getElem?_eq_getElem (by unfold Lib.byteCells; rw [List.length_map, List.length_append, List.length_replicate, List.length_drop, be_length]; omega)⟩
      obtain ⟨u, hu⟩ := hcell
      have hx1 : n / 256 ^ (2 - (j + 1)) ≤ 4611686018427387904 := Int.le_trans (Int.ediv_le_self _ hn0) (by omega)
      generalize hxe : n / 256 ^ (2 - (j + 1)) = x at *
      have Hxe : Hid (n / 256 ^ (2 - (j + 1)) = x) := hxe
      clear hxe
      go_wp2_with fail
      go_roundw
      case rel =>
        have hpow : x / 256 = n / 256 ^ (2 - j) := by
          rw [← Hxe.out]
          exact div_step n _ _ hn0 (by omega)
        have hxb : x % 256 = ((UInt8.ofNat (n.toNat / 256 ^ (2 - (j + 1)))).toNat : Int) := by
          rw [← u8_wrap_div n (2 - (j + 1)) hn0, Hxe.out, IntKind.wrap_u8']
        have hbg := be_get n.toNat 2 (2 - (j + 1)) (by omega)
        rw [show 2 - (2 - (j + 1) + 1) = j from by omega] at hbg
        refine ⟨j, by omega, by go_num, by rw [hpow], ?_, hb.setCell (p := ⟨w.heap.size, j, none⟩) (Nat.le_refl _) _⟩
        rw [hxb]
        have st1 := (ho.stored j (.int .u8 ((UInt8.ofNat (n.toNat / 256 ^ (2 - (j + 1)))).toNat))).1
        have e3 := row_step 2 n.toNat j _ (by omega) hbg
        rw [← e3]
        have e4 : Lib.byteCells ((List.replicate (j + 1) 0 ++ (be 2 n.toNat).drop (j + 1)).set j (UInt8.ofNat (n.toNat / 256 ^ (2 - (j + 1))))) = (Lib.byteCells (List.replicate (j + 1) 0 ++ (be 2 n.toNat).drop (j + 1))).set j (.int .u8 ((UInt8.ofNat (n.toNat / 256 ^ (2 - (j + 1)))).toNat)) := by
          unfold Lib.byteCells
          rw [List.map_set]
        rw [e4]
        exact st1
      case measure => simp [intOf]

set_option maxRecDepth 100000 in
set_option maxHeartbeats 2000000 in
theorem refPut_2 {w : World} (n : Int) (h0 : 16384 ≤ n) (h1 : n < 1073741824) :
    Calls Try.prog 13 #[.slice none 0 0, .int .i64 n] w fun e w' => ∃ v, e = .returned (.tuple #[v, .bool true]) ∧ w'.ownsRow w.heap.size 5 1 v (enc n.toNat).length (Lib.byteCells (enc n.toNat)) ∧ Below w.heap.size w w' := by
  have q1 : 63 < n := by omega
  have q2 : 16383 < n := by omega
  have q3 : ¬ 1073741823 < n := by omega
  have hd : ¬ n < 0 := by omega
  have hd2 : ¬ 4611686018427387903 < n := by omega
  have hdd := decide_eq_false hd
  have hdd2 := decide_eq_false hd2
  have HC : Hid (cls n.toNat = 2) := by exact cls_2 (by omega) (by omega)
  have hn0 : (0 : Int) ≤ n := by omega
  obtain ⟨Z, hZ⟩ : ∃ Z, Z = Array.replicate 4 (Value.int .u8 0) := ⟨_, rfl⟩
  have hmk : ∀ W, (Instr.makeSlice 24 (.int .i64 4) (.int .i64 4)).run Try.prog W = .ok (.slice (some ⟨W.heap.size, 0, none⟩) 4 4) (W.alloc (.cells Z 5)) := by rw [hZ]; exact make_bytes 4 (by decide)
  have hown0 := zrow 4 (by decide) w
  rw [← hZ] at hown0
  clear hZ
  obtain ⟨ho0, b0⟩ := hown0
  go_enter Try.func13, Try.ntmps13
  go_wp2_with fail
  have hgl : w.heap.size < (w.alloc (.cells Z 5)).heap.size := by simp
  generalize w.alloc (.cells Z 5) = w1 at *
  clear hmk
  go_loopw [1, 9] (fun x i wr => ∃ (j : Nat), j ≤ 4 ∧ i = .int .i64 ((j : Int) - 1) ∧ x = .int .i64 (n / 256 ^ (4 - j)) ∧ wr.ownsRow w.heap.size 5 1 (.slice (some ⟨w.heap.size, 0, none⟩) 4 4) 4 (Lib.byteCells (List.replicate j 0 ++ (be 4 n.toNat).drop j)) ∧ Below w.heap.size w wr) (fun _ i _ => (intOf i + 1).toNat)
  case atStart => exact ⟨4, Nat.le_refl _, rfl, by simp, by rw [List.drop_of_length_le (by rw [be_length]; exact Nat.le_refl _), List.append_nil]; exact ho0, b0⟩
  case round =>
    obtain ⟨j, hj, rfl, rfl, ho, hb⟩ := hrel
    have hbs := hb.size
    clear ho0 b0
    cases j with
    | zero =>
      rw [show ((0 : Nat) : Int) - 1 = -1 from by omega]
      rw [List.replicate_zero, List.nil_append, List.drop_zero] at ho
      have hcell := ho.cellAt 0 (by decide)
      have hfrz := ho.frozenAt 0
      have hbe : (be 4 n.toNat)[0]? = some (UInt8.ofNat (n.toNat / 256 ^ 3)) := be_get n.toNat 4 3 (by decide)
      have hcell' : wr.cell? ⟨w.heap.size, 0, none⟩ = some (.int .u8 (UInt8.ofNat (n.toNat / 256 ^ 3)).toNat) := by rw [hcell]; simp [Lib.byteCells, hbe]
      generalize hbv : (UInt8.ofNat (n.toNat / 256 ^ 3)).toNat = bv at *
      have Hbv : Hid ((UInt8.ofNat (n.toNat / 256 ^ 3)).toNat = bv) := hbv
      clear hcell hbv hbe
      have hlt : n.toNat < 4611686018427387904 := by omega
      have hhd := be_head_lt hlt
      have e1 : 2 ^ cls n.toNat - 1 = 3 := by rw [HC.out]
      rw [e1] at hhd
      have hbv2 : bv < 64 := by
        have := Hbv.out
        rw [UInt8.toNat_ofNat', Nat.mod_eq_of_lt (Nat.lt_of_lt_of_le hhd (by decide))] at this
        omega
      have hval : ((bv : Int) + 128 : Int) = ((UInt8.ofNat (bv + 128)).toNat : Int) := by rw [UInt8.toNat_ofNat']; omega
      obtain ⟨st1, st2⟩ := ho.stored 0 (.int .u8 ((bv : Int) + 128))
      have hencl : (enc n.toNat).length = 4 := by rw [enc_length, HC.out]
      have hset : (Lib.byteCells (be 4 n.toNat)).set 0 (.int .u8 ((bv : Int) + 128)) = (enc n.toNat).map valB := by
        rw [hval]
        have e2 := enc_set (n := n.toNat) [] hlt (UInt8.ofNat (bv + 128)) (by
          rw [← hval, e1, HC.out]
          have h3 := Hbv.out
          rw [UInt8.toNat_ofNat', Nat.mod_eq_of_lt (Nat.lt_of_lt_of_le hhd (by decide))] at h3
          rw [h3, Nat.or_comm, nat_join 6 _ _ (by decide) (by omega)]
          omega)
        rw [HC.out] at e2
        simp only [List.nil_append, List.length_nil] at e2
        rw [← e2, List.map_set]
        rfl
      rw [hset] at st1
      have hv := vals_row (val := valB) valB_one (l := enc n.toNat) (v := .slice (some ⟨w.heap.size, 0, none⟩) 4 4) (base := w.heap.size) (E := 5) (by rw [hencl]; exact st1)
      have hb5 : Below w.heap.size w (wr.setCell ⟨w.heap.size, 0, none⟩ (.int .u8 ((bv : Int) + 128))) := hb.setCell (p := ⟨w.heap.size, 0, none⟩) (Nat.le_refl _) _
      have hz5 := hb5.size
      have Hm1 : Hid (0 + (enc n.toNat).length ≤ maxLen) := by show _ ≤ maxLen; rw [hencl]; unfold maxLen; omega
      have Hm2 : Hid ((0 + (enc n.toNat).length) * 1 ≤ 140737488355328) := by show _ ≤ _; rw [hencl]; omega
      have Hv : Hid (Vals valB (wr.setCell ⟨w.heap.size, 0, none⟩ (.int .u8 ((bv : Int) + 128))) (.slice (some ⟨w.heap.size, 0, none⟩) 4 4) (enc n.toNat)) := hv
      clear hval st1 st2 hset hv hencl hhd e1 ho
      go_wp2_with (refine wpList_append_vals valB_one info5 rfl Try.underlying24 _ rfl (.tmp 46) (.tmp 47) rfl w.heap.size (.slice none 0 0) 0 [] rfl (World.ownsRow_nil _ _ _ _) (.slice (some ⟨w.heap.size, 0, none⟩) 4 4) (enc n.toNat) rfl Hv.out Hm1.out Hm2.out hz5 ?_; intro v' w' ho' hg' hl')
      go_ret2
      exact ⟨_, rfl, by have h9 := ho'; simp only [Nat.zero_add, List.nil_append] at h9; exact h9, hb5.grown hg' hz5 (fun k hk => by simp [Value.ownBlock] at hk)⟩
    | succ j =>
      rw [show ((j + 1 : Nat) : Int) - 1 = (j : Int) from by omega]
      have hj8 : (j : Int) < 4 := by omega
      have hfrz := ho.frozenAt j
      have hx0 : (0 : Int) ≤ n / 256 ^ (4 - (j + 1)) := Int.ediv_nonneg hn0 (Int.pow_nonneg (by decide))
      have hcell : ∃ u, wr.cell? ⟨w.heap.size, j, none⟩ = some u := by
        rw [ho.cellAt j (by omega)]
        exact ⟨_, List.getElem?_eq_getElem (by unfold Lib.byteCells; rw [List.length_map, List.length_append, List.length_replicate, List.length_drop, be_length]; omega)⟩
      obtain ⟨u, hu⟩ := hcell
      have hx1 : n / 256 ^ (4 - (j + 1)) ≤ 4611686018427387904 := Int.le_trans (Int.ediv_le_self _ hn0) (by omega)
      generalize hxe : n / 256 ^ (4 - (j + 1)) = x at *
      have Hxe : Hid (n / 256 ^ (4 - (j + 1)) = x) := hxe
      clear hxe
      go_wp2_with fail
      go_roundw
      case rel =>
        have hpow : x / 256 = n / 256 ^ (4 - j) := by
          rw [← Hxe.out]
          exact div_step n _ _ hn0 (by omega)
        have hxb : x % 256 = ((UInt8.ofNat (n.toNat / 256 ^ (4 - (j + 1)))).toNat : Int) := by
          rw [← u8_wrap_div n (4 - (j + 1)) hn0, Hxe.out, IntKind.wrap_u8']
        have hbg := be_get n.toNat 4 (4 - (j + 1)) (by omega)
        rw [show 4 - (4 - (j + 1) + 1) = j from by omega] at hbg
        refine ⟨j, by omega, by go_num, by rw [hpow], ?_, hb.setCell (p := ⟨w.heap.size, j, none⟩) (Nat.le_refl _) _⟩
        rw [hxb]
        have st1 := (ho.stored j (.int .u8 ((UInt8.ofNat (n.toNat / 256 ^ (4 - (j + 1)))).toNat))).1
        have e3 := row_step 4 n.toNat j _ (by omega) hbg
        rw [← e3]
        have e4 : Lib.byteCells ((List.replicate (j + 1) 0 ++ (be 4 n.toNat).drop (j + 1)).set j (UInt8.ofNat (n.toNat / 256 ^ (4 - (j + 1))))) = (Lib.byteCells (List.replicate (j + 1) 0 ++ (be 4 n.toNat).drop (j + 1))).set j (.int .u8 ((UInt8.ofNat (n.toNat / 256 ^ (4 - (j + 1)))).toNat)) := by
          unfold Lib.byteCells
          rw [List.map_set]
        rw [e4]
        exact st1
      case measure => simp [intOf]

set_option maxRecDepth 100000 in
set_option maxHeartbeats 2000000 in
theorem refPut_3 {w : World} (n : Int) (h0 : 1073741824 ≤ n) (h1 : n < 4611686018427387904) :
    Calls Try.prog 13 #[.slice none 0 0, .int .i64 n] w fun e w' => ∃ v, e = .returned (.tuple #[v, .bool true]) ∧ w'.ownsRow w.heap.size 5 1 v (enc n.toNat).length (Lib.byteCells (enc n.toNat)) ∧ Below w.heap.size w w' := by
  have q1 : 63 < n := by omega
  have q2 : 16383 < n := by omega
  have q3 : 1073741823 < n := by omega
  have hd : ¬ n < 0 := by omega
  have hd2 : ¬ 4611686018427387903 < n := by omega
  have hdd := decide_eq_false hd
  have hdd2 := decide_eq_false hd2
  have HC : Hid (cls n.toNat = 3) := by exact cls_3 (by omega)
  have hn0 : (0 : Int) ≤ n := by omega
  obtain ⟨Z, hZ⟩ : ∃ Z, Z = Array.replicate 8 (Value.int .u8 0) := ⟨_, rfl⟩
  have hmk : ∀ W, (Instr.makeSlice 24 (.int .i64 8) (.int .i64 8)).run Try.prog W = .ok (.slice (some ⟨W.heap.size, 0, none⟩) 8 8) (W.alloc (.cells Z 5)) := by rw [hZ]; exact make_bytes 8 (by decide)
  have hown0 := zrow 8 (by decide) w
  rw [← hZ] at hown0
  clear hZ
  obtain ⟨ho0, b0⟩ := hown0
  go_enter Try.func13, Try.ntmps13
  go_wp2_with fail
  have hgl : w.heap.size < (w.alloc (.cells Z 5)).heap.size := by simp
  generalize w.alloc (.cells Z 5) = w1 at *
  clear hmk
  go_loopw [1, 9] (fun x i wr => ∃ (j : Nat), j ≤ 8 ∧ i = .int .i64 ((j : Int) - 1) ∧ x = .int .i64 (n / 256 ^ (8 - j)) ∧ wr.ownsRow w.heap.size 5 1 (.slice (some ⟨w.heap.size, 0, none⟩) 8 8) 8 (Lib.byteCells (List.replicate j 0 ++ (be 8 n.toNat).drop j)) ∧ Below w.heap.size w wr) (fun _ i _ => (intOf i + 1).toNat)
  case atStart => exact ⟨8, Nat.le_refl _, rfl, by simp, by rw [List.drop_of_length_le (by rw [be_length]; exact Nat.le_refl _), List.append_nil]; exact ho0, b0⟩
  case round =>
    obtain ⟨j, hj, rfl, rfl, ho, hb⟩ := hrel
    have hbs := hb.size
    clear ho0 b0
    cases j with
    | zero =>
      rw [show ((0 : Nat) : Int) - 1 = -1 from by omega]
      rw [List.replicate_zero, List.nil_append, List.drop_zero] at ho
      have hcell := ho.cellAt 0 (by decide)
      have hfrz := ho.frozenAt 0
      have hbe : (be 8 n.toNat)[0]? = some (UInt8.ofNat (n.toNat / 256 ^ 7)) := be_get n.toNat 8 7 (by decide)
      have hcell' : wr.cell? ⟨w.heap.size, 0, none⟩ = some (.int .u8 (UInt8.ofNat (n.toNat / 256 ^ 7)).toNat) := by rw [hcell]; simp [Lib.byteCells, hbe]
      generalize hbv : (UInt8.ofNat (n.toNat / 256 ^ 7)).toNat = bv at *
      have Hbv : Hid ((UInt8.ofNat (n.toNat / 256 ^ 7)).toNat = bv) := hbv
      clear hcell hbv hbe
      have hlt : n.toNat < 4611686018427387904 := by omega
      have hhd := be_head_lt hlt
      have e1 : 2 ^ cls n.toNat - 1 = 7 := by rw [HC.out]
      rw [e1] at hhd
      have hbv2 : bv < 64 := by
        have := Hbv.out
        rw [UInt8.toNat_ofNat', Nat.mod_eq_of_lt (Nat.lt_of_lt_of_le hhd (by decide))] at this
        omega
      have hval : ((bv : Int) + 192 : Int) = ((UInt8.ofNat (bv + 192)).toNat : Int) := by rw [UInt8.toNat_ofNat']; omega
      obtain ⟨st1, st2⟩ := ho.stored 0 (.int .u8 ((bv : Int) + 192))
      have hencl : (enc n.toNat).length = 8 := by rw [enc_length, HC.out]
      have hset : (Lib.byteCells (be 8 n.toNat)).set 0 (.int .u8 ((bv : Int) + 192)) = (enc n.toNat).map valB := by
        rw [hval]
        have e2 := enc_set (n := n.toNat) [] hlt (UInt8.ofNat (bv + 192)) (by
          rw [← hval, e1, HC.out]
          have h3 := Hbv.out
          rw [UInt8.toNat_ofNat', Nat.mod_eq_of_lt (Nat.lt_of_lt_of_le hhd (by decide))] at h3
          rw [h3, Nat.or_comm, nat_join 6 _ _ (by decide) (by omega)]
          omega)
        rw [HC.out] at e2
        simp only [List.nil_append, List.length_nil] at e2
        rw [← e2, List.map_set]
        rfl
      rw [hset] at st1
      have hv := vals_row (val := valB) valB_one (l := enc n.toNat) (v := .slice (some ⟨w.heap.size, 0, none⟩) 8 8) (base := w.heap.size) (E := 5) (by rw [hencl]; exact st1)
      have hb5 : Below w.heap.size w (wr.setCell ⟨w.heap.size, 0, none⟩ (.int .u8 ((bv : Int) + 192))) := hb.setCell (p := ⟨w.heap.size, 0, none⟩) (Nat.le_refl _) _
      have hz5 := hb5.size
      have Hm1 : Hid (0 + (enc n.toNat).length ≤ maxLen) := by show _ ≤ maxLen; rw [hencl]; unfold maxLen; omega
      have Hm2 : Hid ((0 + (enc n.toNat).length) * 1 ≤ 140737488355328) := by show _ ≤ _; rw [hencl]; omega
      have Hv : Hid (Vals valB (wr.setCell ⟨w.heap.size, 0, none⟩ (.int .u8 ((bv : Int) + 192))) (.slice (some ⟨w.heap.size, 0, none⟩) 8 8) (enc n.toNat)) := hv
      clear hval st1 st2 hset hv hencl hhd e1 ho
      go_wp2_with (refine wpList_append_vals valB_one info5 rfl Try.underlying24 _ rfl (.tmp 46) (.tmp 47) rfl w.heap.size (.slice none 0 0) 0 [] rfl (World.ownsRow_nil _ _ _ _) (.slice (some ⟨w.heap.size, 0, none⟩) 8 8) (enc n.toNat) rfl Hv.out Hm1.out Hm2.out hz5 ?_; intro v' w' ho' hg' hl')
      go_ret2
      exact ⟨_, rfl, by have h9 := ho'; simp only [Nat.zero_add, List.nil_append] at h9; exact h9, hb5.grown hg' hz5 (fun k hk => by simp [Value.ownBlock] at hk)⟩
    | succ j =>
      rw [show ((j + 1 : Nat) : Int) - 1 = (j : Int) from by omega]
      have hj8 : (j : Int) < 8 := by omega
      have hfrz := ho.frozenAt j
      have hx0 : (0 : Int) ≤ n / 256 ^ (8 - (j + 1)) := Int.ediv_nonneg hn0 (Int.pow_nonneg (by decide))
      have hcell : ∃ u, wr.cell? ⟨w.heap.size, j, none⟩ = some u := by
        rw [ho.cellAt j (by omega)]
        exact ⟨_, List.getElem?_eq_getElem (by unfold Lib.byteCells; rw [List.length_map, List.length_append, List.length_replicate, List.length_drop, be_length]; omega)⟩
      obtain ⟨u, hu⟩ := hcell
      have hx1 : n / 256 ^ (8 - (j + 1)) ≤ 4611686018427387904 := Int.le_trans (Int.ediv_le_self _ hn0) (by omega)
      generalize hxe : n / 256 ^ (8 - (j + 1)) = x at *
      have Hxe : Hid (n / 256 ^ (8 - (j + 1)) = x) := hxe
      clear hxe
      go_wp2_with fail
      go_roundw
      case rel =>
        have hpow : x / 256 = n / 256 ^ (8 - j) := by
          rw [← Hxe.out]
          exact div_step n _ _ hn0 (by omega)
        have hxb : x % 256 = ((UInt8.ofNat (n.toNat / 256 ^ (8 - (j + 1)))).toNat : Int) := by
          rw [← u8_wrap_div n (8 - (j + 1)) hn0, Hxe.out, IntKind.wrap_u8']
        have hbg := be_get n.toNat 8 (8 - (j + 1)) (by omega)
        rw [show 8 - (8 - (j + 1) + 1) = j from by omega] at hbg
        refine ⟨j, by omega, by go_num, by rw [hpow], ?_, hb.setCell (p := ⟨w.heap.size, j, none⟩) (Nat.le_refl _) _⟩
        rw [hxb]
        have st1 := (ho.stored j (.int .u8 ((UInt8.ofNat (n.toNat / 256 ^ (8 - (j + 1)))).toNat))).1
        have e3 := row_step 8 n.toNat j _ (by omega) hbg
        rw [← e3]
        have e4 : Lib.byteCells ((List.replicate (j + 1) 0 ++ (be 8 n.toNat).drop (j + 1)).set j (UInt8.ofNat (n.toNat / 256 ^ (8 - (j + 1))))) = (Lib.byteCells (List.replicate (j + 1) 0 ++ (be 8 n.toNat).drop (j + 1))).set j (.int .u8 ((UInt8.ofNat (n.toNat / 256 ^ (8 - (j + 1)))).toNat)) := by
          unfold Lib.byteCells
          rw [List.map_set]
        rw [e4]
        exact st1
      case measure => simp [intOf]

set_option maxHeartbeats 1000000 in
theorem refPut_no {w : World} (n : Int) (h : n < 0 ∨ 4611686018427387903 < n) : Calls Try.prog 13 #[.slice none 0 0, .int .i64 n] w fun e w' => e = .returned (.tuple #[.slice none 0 0, .bool false]) ∧ w' = w := by
  by_cases h1 : n < 0
  · have hd := decide_eq_true h1
    go_enter Try.func13, Try.ntmps13
    go_wp2_with fail
    all_goals first | (exfalso; omega) | (go_ret2; exact ⟨rfl, rfl⟩)
  · have h2 : 4611686018427387903 < n := by omega
    have hd := decide_eq_false h1
    have hd2 := decide_eq_true h2
    go_enter Try.func13, Try.ntmps13
    go_wp2_with fail
    all_goals first | (exfalso; omega) | (go_ret2; exact ⟨rfl, rfl⟩)

/-- What the document's Put tells. -/
def refPut (w : World) (n : Int) (e : Ending) (w' : World) : Prop :=
  ∃ v, e = .returned (.tuple #[v, .bool (putN n).2]) ∧ w'.ownsRow w.heap.size 5 1 v (putN n).1.length (Lib.byteCells (putN n).1) ∧ Below w.heap.size w w'

theorem refPut_any {w : World} (n : Int) : Calls Try.prog 13 #[.slice none 0 0, .int .i64 n] w (refPut w n) := by
  unfold refPut
  by_cases h : n < 0 ∨ 4611686018427387903 < n
  · have : okN n = false := by simp [okN]; omega
    have e : putN n = ([], false) := by simp [putN, this]
    refine (refPut_no n h).mono ?_
    rintro e' w' ⟨rfl, rfl⟩
    rw [e]
    exact ⟨_, rfl, World.ownsRow_nil _ _ _ _, Below.refl _ _⟩
  · have : okN n = true := by simp [okN]; omega
    have e : putN n = (enc n.toNat, true) := by simp [putN, this]
    rw [e]
    by_cases h0 : n < 64
    · exact refPut_0 n (by omega) h0
    by_cases h1 : n < 16384
    · exact refPut_1 n (by omega) h1
    by_cases h2 : n < 1073741824
    · exact refPut_2 n (by omega) h2
    · exact refPut_3 n (by omega) (by omega)

end Go.Proofs.Ytjajgllkbchapaa
