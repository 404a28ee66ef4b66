/-
  CodecBounds: its walk.
-/
import Derived.Test.YtjajgllkbchapaaCutW
import Derived.Test.YtjajgllkbchapaaOrder
import Derived.Laws.MakeOwn
namespace Go.Proofs.Ytjajgllkbchapaa
open Go.RowKit
set_option linter.unusedSimpArgs false
set_option linter.unusedVariables false

theorem info4 : (Try.prog.info? 4).map (fun i => (i.zero, i.size, i.bytes)) = some (some (.bool false), 1, 1) := by kernel_rfl

theorem made_one (z : Value) (n : Nat) : madeCells #[z] n = Array.replicate n z := by
  apply Array.ext'
  rw [toList_madeCells_one]
  simp

theorem make_bytes (k : Nat) (hk : (k : Int) ≤ 3000) (W : World) : (Instr.makeSlice 24 (.int .i64 k) (.int .i64 k)).run Try.prog W = .ok (.slice (some ⟨W.heap.size, 0, none⟩) k k) (W.alloc (.cells (Array.replicate k (.int .u8 0)) 5)) := by
  obtain ⟨i0, hi, hz0, hz1, hz2⟩ := info_parts info5
  have h := run_make (P := Try.prog) W 24 5 i0 (.int .u8 0) Try.underlying24 hi hz0 .i64 .i64 (k : Int) (k : Int) (by omega) (by omega) (by rw [hz2]; omega) (by omega)
  rw [hz1] at h
  have e : madeCells (Value.int .u8 0).cells (((k : Int).toNat) * 1) = (Array.replicate k (.int .u8 0)) := by
    rw [← made_one]
    simp [Value.cells]
  rw [e] at h
  simpa using h

theorem make_bools (k : Nat) (hk : (k : Int) ≤ 3000) (W : World) : (Instr.makeSlice 89 (.int .i64 k) (.int .i64 k)).run Try.prog W = .ok (.slice (some ⟨W.heap.size, 0, none⟩) k k) (W.alloc (.cells (Array.replicate k (.bool false)) 4)) := by
  obtain ⟨i0, hi, hz0, hz1, hz2⟩ := info_parts info4
  have h := run_make (P := Try.prog) W 89 4 i0 (.bool false) Try.underlying89 hi hz0 .i64 .i64 (k : Int) (k : Int) (by omega) (by omega) (by rw [hz2]; omega) (by omega)
  rw [hz1] at h
  have e : madeCells (Value.bool false).cells (((k : Int).toNat) * 1) = (Array.replicate k (.bool false)) := by
    rw [← made_one]
    simp [Value.cells]
  rw [e] at h
  simpa using h

/-- So many zero bytes. -/
def zeros (k : Nat) : ByteArray := ⟨(List.replicate k 0).toArray⟩

theorem zeros_size (k : Nat) : (zeros k).size = k := by simp [zeros, ByteArray.size]
theorem zeros_data (k : Nat) : (zeros k).data.toList = List.replicate k 0 := rfl

theorem conv_zeros (k : Nat) (W : World) : (convert 24 9 (.slice (some ⟨W.heap.size, 0, none⟩) k k)).run Try.prog (W.alloc (.cells (Array.replicate k (.int .u8 0)) 5)) = .ok (.string (zeros k)) (W.alloc (.cells (Array.replicate k (.int .u8 0)) 5)) := by
  have h := run_convert_bytes_back (P := Try.prog) (W.alloc (.cells (Array.replicate k (.int .u8 0)) 5)) 24 9 5 ⟨W.heap.size, 0, none⟩ k (List.replicate k 0) Try.underlying24 Try.underlying5 Try.underlying9 (fun j hj => by
    have e2 : (⟨W.heap.size, 0, none⟩ : Addr).add j = ⟨W.heap.size, j, none⟩ := by unfold Addr.add; split <;> simp_all
    rw [e2, cell_of_heap (heap_alloc_new W _)]
    have hj' : j < k := by simpa using hj
    simp [hj'])
  rw [List.length_replicate] at h
  exact h

theorem bools_new (k : Nat) (hk : (k : Int) ≤ 3000) (W : World) : Vals Value.bool (W.alloc (.cells (Array.replicate k (.bool false)) 4)) (.slice (some ⟨W.heap.size, 0, none⟩) k k) (List.replicate k false) := by
  refine ⟨_, _, by rw [List.length_replicate], by rw [List.length_replicate]; omega, fun _ => ⟨W.heap.size, 0, rfl, by simp, fun i x hx => ?_⟩⟩
  have hi : i < k := by
    have := (List.getElem?_eq_some_iff.1 hx).1
    simpa using this
  refine ⟨_, ?_, rfl⟩
  rw [cell_of_heap (heap_alloc_new W _)]
  simp [hi] at hx
  simp [hi, hx]

set_option maxRecDepth 100000 in
set_option maxHeartbeats 1000000 in
theorem bounds_out (most n : Int) (h : n < 0 ∨ 3000 < n) {w : World} : Calls Try.prog 9 #[.int .i64 most, .int .i64 n] w fun e w' => e = .returned (.bool true) ∧ Below w.heap.size w w' := by
  by_cases h1 : n < 0
  · have hd := decide_eq_true h1
    go_enter Try.func9, Try.ntmps9
    go_wp2_with fail
    refine (anchor_any _).mono ?_
    rintro e w1 ⟨rfl, b1⟩
    go_wp2_with fail
    all_goals first | (exfalso; omega) | (go_ret; exact ⟨rfl, b1⟩)
  · have h2 : 3000 < n := by omega
    have hd := decide_eq_false h1
    have hd2 := decide_eq_true h2
    go_enter Try.func9, Try.ntmps9
    go_wp2_with fail
    refine (anchor_any _).mono ?_
    rintro e w1 ⟨rfl, b1⟩
    go_wp2_with fail
    all_goals first | (exfalso; omega) | (go_ret; exact ⟨rfl, b1⟩)

set_option maxRecDepth 100000 in
set_option maxHeartbeats 4000000 in
theorem bounds_big (most M : Int) (k : Nat) (hk : (k : Int) ≤ 3000) (HM : Hid (boundF most = M)) (H3 : Hid (boundF 3000 = 3000)) (hbig : max 0 most < (k : Int)) (sx sy : ByteArray) (hx : (sx.size : Int) ≤ 1099511627776) (hy : (sy.size : Int) ≤ 1099511627776)
    (HA : Hid (encRes (putT M (zeros k)) = .tuple #[.string ⟨#[]⟩, .int .i64 22])) (HB : Hid (encRes (putList M putB (List.replicate k false)) = .tuple #[.string ⟨#[]⟩, .int .i64 22]))
    (HX : Hid (encRes (putT 3000 (zeros k)) = .tuple #[.string sx, .int .i64 0])) (HY : Hid (encRes (putList 3000 putB (List.replicate k false)) = .tuple #[.string sy, .int .i64 0]))
    (HC : Hid (whole (getText M sx.data.toList) = .error 22)) (HD : Hid (whole (getList M getFlag sy.data.toList) = .error 22)) {w : World} : Calls Try.prog 9 #[.int .i64 most, .int .i64 k] w fun e w' => e = .returned (.bool true) ∧ Below w.heap.size w w' := by
  have hd1 : decide ((k : Int) < 0) = false := by simp
  have hd2 : decide (3000 < (k : Int)) = false := decide_eq_false (by omega)
  have hmk1 := make_bytes k hk
  have hmk2 := make_bools k hk
  have hcv := conv_zeros k
  have HL1 : ∀ m, Hid (((putList m putB (List.replicate k false)).1.length : Int) ≤ 1099511627776) := by
    intro m
    have := putList_len (f := putB) (c := 8) (fun a => by unfold putB; exact enc_le _) m (List.replicate k false)
    rw [List.length_replicate] at this
    show _ ≤ _
    omega
  go_enter Try.func9, Try.ntmps9
  go_wp2_with fail
  refine (anchor_any _).mono ?_
  rintro e w1 ⟨rfl, b1⟩
  go_wp2_with fail
  have v3 := bools_new k hk (w1.alloc (.cells (Array.replicate k (.int .u8 0)) 5))
  have b3 : Below w.heap.size w ((w1.alloc (.cells (Array.replicate k (.int .u8 0)) 5)).alloc (.cells (Array.replicate k (.bool false)) 4)) := (b1.alloc b1.size _).alloc (by have := b1.size; simp; omega) _
  simp only [World.size_alloc] at v3
  generalize (w1.alloc (.cells (Array.replicate k (.int .u8 0)) 5)).alloc (.cells (Array.replicate k (.bool false)) 4) = w3 at *
  generalize w1.heap.size + 1 = vb at *
  clear hmk1 hmk2 hcv
  refine (text_made _ _).mono ?_
  rintro e w4 ⟨tb4, rfl, t4, d4⟩
  rw [HM.out] at t4
  have b4 := on b3 d4
  have v4 := v3.below d4
  clear b3 v3 d4
  go_wp2_with fail
  refine (encodeT _ _ tb4 M _ t4).mono ?_
  rintro e w5 ⟨he, d5⟩
  rw [HA.out] at he
  subst he
  have b5 := on b4 d5
  have v5 := v4.below d5
  clear b4 v4 d5
  go_wp2_with fail
  refine (flag_codec _).mono ?_
  rintro e w6 ⟨rfl, d6⟩
  have b6 := on b5 d6
  have v6 := v5.below d6
  clear b5 v5 d6
  go_wp2_with fail
  refine (list_madeBool _ _ _ _).mono ?_
  rintro e w7 ⟨mb7, cb7, rfl, t7, d7⟩
  rw [HM.out] at t7
  have b7 := on b6 d7
  have v7 := v6.below d7
  clear b6 v6 d7
  go_wp2_with fail
  refine (encodeFs _ _ _ mb7 cb7 M _ _ t7 v7.isB (HL1 _).out).mono ?_
  rintro e w8 ⟨he, d8⟩
  rw [HB.out] at he
  subst he
  have b8 := on b7 d8
  have v8 := v7.below d8
  clear b7 v7 d8
  go_wp2_with fail
  refine (text_made _ _).mono ?_
  rintro e w9 ⟨tb9, rfl, t9, d9⟩
  rw [H3.out] at t9
  have b9 := on b8 d9
  have v9 := v8.below d9
  clear b8 v8 d9
  go_wp2_with fail
  refine (encodeT _ _ tb9 3000 _ t9).mono ?_
  rintro e w10 ⟨he, d10⟩
  rw [HX.out] at he
  subst he
  have b10 := on b9 d10
  have v10 := v9.below d10
  clear b9 v9 d10
  go_wp2_with fail
  refine (flag_codec _).mono ?_
  rintro e w11 ⟨rfl, d11⟩
  have b11 := on b10 d11
  have v11 := v10.below d11
  clear b10 v10 d11
  go_wp2_with fail
  refine (list_madeBool _ _ _ _).mono ?_
  rintro e w12 ⟨mb12, cb12, rfl, t12, d12⟩
  rw [H3.out] at t12
  have b12 := on b11 d12
  have v12 := v11.below d12
  clear b11 v11 d12
  go_wp2_with fail
  refine (encodeFs _ _ _ mb12 cb12 3000 _ _ t12 v12.isB (HL1 _).out).mono ?_
  rintro e w13 ⟨he, d13⟩
  rw [HY.out] at he
  subst he
  have b13 := on b12 d13
  have v13 := v12.below d13
  clear b12 v12 d13
  go_wp2_with fail
  refine (text_made _ _).mono ?_
  rintro e w14 ⟨tb14, rfl, t14, d14⟩
  rw [HM.out] at t14
  have b14 := on b13 d14
  have v14 := v13.below d14
  clear b13 v13 d14
  go_wp2_with fail
  refine (decodeT _ _ tb14 M _ hx t14).mono ?_
  intro e w15 hd15
  obtain ⟨hd15, d15⟩ := hd15
  have b15 := on b14 d15
  have v15 := v14.below d15
  clear b14 v14 d15
  rw [HC.out] at hd15
  subst hd15
  clear t4 t7 t9 t12 t14
  go_wp2_with fail
  refine (flag_codec _).mono ?_
  rintro e w16 ⟨rfl, d16⟩
  have b16 := on b15 d16
  clear b15 v15 d16
  go_wp2_with fail
  refine (list_madeBool _ _ _ _).mono ?_
  rintro e w17 ⟨mb17, cb17, rfl, t17, d17⟩
  rw [HM.out] at t17
  have b17 := on b16 d17
  clear b16 d17
  go_wp2_with fail
  refine (decodeFs _ _ _ mb17 cb17 M _ hy t17).mono ?_
  intro e w18 hd18
  obtain ⟨hd18, d18⟩ := hd18
  have b18 := on b17 d18
  clear b17 d18 t17
  rw [HD.out] at hd18
  subst hd18
  go_wp2_with fail
  go_ret
  exact ⟨rfl, b18⟩

set_option maxRecDepth 100000 in
set_option maxHeartbeats 4000000 in
theorem bounds_ok (most M : Int) (k : Nat) (hk : (k : Int) ≤ 3000) (HM : Hid (boundF most = M)) (H3 : Hid (boundF 3000 = 3000)) (hbig : ¬ max 0 most < (k : Int)) (sx sy : ByteArray) (hx : (sx.size : Int) ≤ 1099511627776) (hy : (sy.size : Int) ≤ 1099511627776)
    (HA : Hid (encRes (putT M (zeros k)) = .tuple #[.string sx, .int .i64 0])) (HB : Hid (encRes (putList M putB (List.replicate k false)) = .tuple #[.string sy, .int .i64 0]))
    (HX : Hid (encRes (putT 3000 (zeros k)) = .tuple #[.string sx, .int .i64 0])) (HY : Hid (encRes (putList 3000 putB (List.replicate k false)) = .tuple #[.string sy, .int .i64 0]))
    (HC : Hid (whole (getText M sx.data.toList) = .ok (zeros k))) (HD : Hid (whole (getList M getFlag sy.data.toList) = .ok (List.replicate k false))) {w : World} : Calls Try.prog 9 #[.int .i64 most, .int .i64 k] w fun e w' => e = .returned (.bool true) ∧ Below w.heap.size w w' := by
  have hd1 : decide ((k : Int) < 0) = false := by simp
  have hd2 : decide (3000 < (k : Int)) = false := decide_eq_false (by omega)
  have hmk1 := make_bytes k hk
  have hmk2 := make_bools k hk
  have hcv := conv_zeros k
  have HL1 : ∀ m, Hid (((putList m putB (List.replicate k false)).1.length : Int) ≤ 1099511627776) := by
    intro m
    have := putList_len (f := putB) (c := 8) (fun a => by unfold putB; exact enc_le _) m (List.replicate k false)
    rw [List.length_replicate] at this
    show _ ≤ _
    omega
  go_enter Try.func9, Try.ntmps9
  go_wp2_with fail
  refine (anchor_any _).mono ?_
  rintro e w1 ⟨rfl, b1⟩
  go_wp2_with fail
  have v3 := bools_new k hk (w1.alloc (.cells (Array.replicate k (.int .u8 0)) 5))
  have b3 : Below w.heap.size w ((w1.alloc (.cells (Array.replicate k (.int .u8 0)) 5)).alloc (.cells (Array.replicate k (.bool false)) 4)) := (b1.alloc b1.size _).alloc (by have := b1.size; simp; omega) _
  simp only [World.size_alloc] at v3
  generalize (w1.alloc (.cells (Array.replicate k (.int .u8 0)) 5)).alloc (.cells (Array.replicate k (.bool false)) 4) = w3 at *
  generalize w1.heap.size + 1 = vb at *
  clear hmk1 hmk2 hcv
  refine (text_made _ _).mono ?_
  rintro e w4 ⟨tb4, rfl, t4, d4⟩
  rw [HM.out] at t4
  have b4 := on b3 d4
  have v4 := v3.below d4
  clear b3 v3 d4
  go_wp2_with fail
  refine (encodeT _ _ tb4 M _ t4).mono ?_
  rintro e w5 ⟨he, d5⟩
  rw [HA.out] at he
  subst he
  have b5 := on b4 d5
  have v5 := v4.below d5
  clear b4 v4 d5
  go_wp2_with fail
  refine (flag_codec _).mono ?_
  rintro e w6 ⟨rfl, d6⟩
  have b6 := on b5 d6
  have v6 := v5.below d6
  clear b5 v5 d6
  go_wp2_with fail
  refine (list_madeBool _ _ _ _).mono ?_
  rintro e w7 ⟨mb7, cb7, rfl, t7, d7⟩
  rw [HM.out] at t7
  have b7 := on b6 d7
  have v7 := v6.below d7
  clear b6 v6 d7
  go_wp2_with fail
  refine (encodeFs _ _ _ mb7 cb7 M _ _ t7 v7.isB (HL1 _).out).mono ?_
  rintro e w8 ⟨he, d8⟩
  rw [HB.out] at he
  subst he
  have b8 := on b7 d8
  have v8 := v7.below d8
  clear b7 v7 d8
  go_wp2_with fail
  refine (text_made _ _).mono ?_
  rintro e w9 ⟨tb9, rfl, t9, d9⟩
  rw [H3.out] at t9
  have b9 := on b8 d9
  have v9 := v8.below d9
  clear b8 v8 d9
  go_wp2_with fail
  refine (encodeT _ _ tb9 3000 _ t9).mono ?_
  rintro e w10 ⟨he, d10⟩
  rw [HX.out] at he
  subst he
  have b10 := on b9 d10
  have v10 := v9.below d10
  clear b9 v9 d10
  go_wp2_with fail
  refine (flag_codec _).mono ?_
  rintro e w11 ⟨rfl, d11⟩
  have b11 := on b10 d11
  have v11 := v10.below d11
  clear b10 v10 d11
  go_wp2_with fail
  refine (list_madeBool _ _ _ _).mono ?_
  rintro e w12 ⟨mb12, cb12, rfl, t12, d12⟩
  rw [H3.out] at t12
  have b12 := on b11 d12
  have v12 := v11.below d12
  clear b11 v11 d12
  go_wp2_with fail
  refine (encodeFs _ _ _ mb12 cb12 3000 _ _ t12 v12.isB (HL1 _).out).mono ?_
  rintro e w13 ⟨he, d13⟩
  rw [HY.out] at he
  subst he
  have b13 := on b12 d13
  have v13 := v12.below d13
  clear b12 v12 d13
  go_wp2_with fail
  refine (text_made _ _).mono ?_
  rintro e w14 ⟨tb14, rfl, t14, d14⟩
  rw [HM.out] at t14
  have b14 := on b13 d14
  have v14 := v13.below d14
  clear b13 v13 d14
  go_wp2_with fail
  refine (decodeT _ _ tb14 M _ hx t14).mono ?_
  intro e w15 hd15
  obtain ⟨hd15, d15⟩ := hd15
  have b15 := on b14 d15
  have v15 := v14.below d15
  clear b14 v14 d15
  rw [HC.out] at hd15
  obtain ⟨v, rfl, hv15⟩ := hd15
  unfold isStr at hv15
  subst hv15
  clear t4 t7 t9 t12 t14
  go_wp2_with fail
  refine (flag_codec _).mono ?_
  rintro e w16 ⟨rfl, d16⟩
  have b16 := on b15 d16
  clear b15 v15 d16
  go_wp2_with fail
  refine (list_madeBool _ _ _ _).mono ?_
  rintro e w17 ⟨mb17, cb17, rfl, t17, d17⟩
  rw [HM.out] at t17
  have b17 := on b16 d17
  clear b16 d17
  go_wp2_with fail
  refine (decodeFs _ _ _ mb17 cb17 M _ hy t17).mono ?_
  intro e w18 hd18
  obtain ⟨hd18, d18⟩ := hd18
  have b18 := on b17 d18
  clear b17 d18 t17
  rw [HD.out] at hd18
  obtain ⟨v, rfl, hv18⟩ := hd18
  obtain ⟨vs, ho, _, _⟩ := hv18
  obtain ⟨a18, c18, rfl⟩ := ownsRow_form ho
  rw [List.length_replicate]
  clear ho
  go_wp2_with fail
  go_ret
  exact ⟨rfl, b18⟩

end Go.Proofs.Ytjajgllkbchapaa
