/-
  CodecOne: its walk.
-/
import Derived.Test.YtjajgllkbchapaaCutW
import Derived.Test.YtjajgllkbchapaaOrder
namespace Go.Proofs.Ytjajgllkbchapaa
open Go.RowKit
set_option linter.unusedSimpArgs false
set_option linter.unusedVariables false

theorem ex100 : boundF 100 = 100 := by decide

/-- The reading of lists of lists of texts, and their writing. -/
def get3 : List UInt8 → Except Int (List (List ByteArray) × List UInt8) := getList 100 (getList 100 (getText 100))
def put3 : List (List ByteArray) → List UInt8 × Bool := putList 100 (putList 100 (putT 100))

set_option maxRecDepth 100000 in
set_option maxHeartbeats 1000000 in
theorem one_long (s : ByteArray) (h : 5000 < (s.size : Int)) {w : World} : Calls Try.prog 5 #[.string s] w fun e w' => e = .returned (.bool true) ∧ Below w.heap.size w w' := by
  go_enter Try.func5, Try.ntmps5
  go_wp2_with fail
  refine (anchor_any _).mono ?_
  rintro e w1 ⟨rfl, b1⟩
  go_wp2_with fail
  go_ret
  exact ⟨rfl, b1⟩

set_option maxRecDepth 100000 in
set_option maxHeartbeats 2000000 in
theorem one_no (s : ByteArray) (h : ¬ 5000 < (s.size : Int)) (hs : (s.size : Int) ≤ 1099511627776) (er : Int) (her : (er != 0) = true) (HE : Hid (whole (getList 100 (getList 100 (getText 100)) s.data.toList) = .error er)) {w : World} : Calls Try.prog 5 #[.string s] w fun e w' => e = .returned (.bool true) ∧ Below w.heap.size w w' := by
  have hsf := fun (wx : World) (a : Addr) (fn : Fn) (f c : Array Value) => run_store Try.prog wx a (.func fn f c) .plain rfl
  go_enter Try.func5, Try.ntmps5
  go_wp2_with fail
  refine (anchor_any _).mono ?_
  rintro e w1 ⟨rfl, b1⟩
  go_wp2_with fail
  refine (text_made _ _).mono ?_
  rintro e w2 ⟨tb, rfl, t2, d2⟩
  rw [ex100] at t2
  have b2 := on b1 d2
  clear b1 d2
  go_wp2_with fail
  refine (list_madeStr _ _ _ _).mono ?_
  rintro e w3 ⟨ib, jb, rfl, l3, d3⟩
  rw [ex100] at l3
  have t3 := t2.below d3
  have b3 := on b2 d3
  clear t2 b2 d3
  go_wp2_with fail
  refine (list_madeStrs _ _ _ _).mono ?_
  rintro e w4 ⟨mb, cb, rfl, m4, d4⟩
  rw [ex100] at m4
  have t4 := t3.below d4
  have l4 := l3.below d4
  have b4 := on b3 d4
  clear t3 l3 b3 d4
  go_wp2_with fail
  have d5 : Below w4.heap.size w4 (w4.alloc (.cells #[.func (.func 77) #[] #[.pointer (some ⟨mb, 0, none⟩), .pointer (some ⟨cb, 0, none⟩)], .func (.func 78) #[] #[.pointer (some ⟨mb, 0, none⟩), .pointer (some ⟨cb, 0, none⟩)]] 82)) := (Below.refl _ _).alloc (Nat.le_refl _) _
  have q5 : (w4.alloc (.cells #[.func (.func 77) #[] #[.pointer (some ⟨mb, 0, none⟩), .pointer (some ⟨cb, 0, none⟩)], .func (.func 78) #[] #[.pointer (some ⟨mb, 0, none⟩), .pointer (some ⟨cb, 0, none⟩)]] 82)).heap[w4.heap.size]? = some (.cells #[.func (.func 77) #[] #[.pointer (some ⟨mb, 0, none⟩), .pointer (some ⟨cb, 0, none⟩)], .func (.func 78) #[] #[.pointer (some ⟨mb, 0, none⟩), .pointer (some ⟨cb, 0, none⟩)]] 82) := heap_alloc_new w4 _
  have g5 : w4.heap.size < (w4.alloc (.cells #[.func (.func 77) #[] #[.pointer (some ⟨mb, 0, none⟩), .pointer (some ⟨cb, 0, none⟩)], .func (.func 78) #[] #[.pointer (some ⟨mb, 0, none⟩), .pointer (some ⟨cb, 0, none⟩)]] 82)).heap.size := by simp
  have t5 := t4.below d5
  have l5 := l4.below d5
  have m5 := m4.below d5
  have b5 := on b4 d5
  generalize w4.alloc (.cells #[.func (.func 77) #[] #[.pointer (some ⟨mb, 0, none⟩), .pointer (some ⟨cb, 0, none⟩)], .func (.func 78) #[] #[.pointer (some ⟨mb, 0, none⟩), .pointer (some ⟨cb, 0, none⟩)]] 82) = w5 at *
  generalize w4.heap.size = cv at *
  clear t4 l4 m4 b4 d5
  have k0 := cell_of_heap q5 0
  have k1 := cell_of_heap q5 1
  clear q5
  refine (decodeTss w5 _ _ _ mb cb ib jb tb 100 100 100 s hs m5 l5 t5).mono ?_
  intro e w6 hd6
  obtain ⟨hd6, d6⟩ := hd6
  rw [HE.out] at hd6
  subst hd6
  go_wp2_with fail
  go_ret
  exact ⟨rfl, on b5 d6⟩

set_option maxRecDepth 100000 in
set_option maxHeartbeats 4000000 in
theorem one_yes (s : ByteArray) (h : ¬ 5000 < (s.size : Int)) (hs : (s.size : Int) ≤ 1099511627776) (ll : List (List ByteArray)) (HE : Hid (whole (getList 100 (getList 100 (getText 100)) s.data.toList) = .ok ll)) (HP : Hid (encRes (putList 100 (putList 100 (putT 100)) ll) = .tuple #[.string s, .int .i64 0])) (HL : Hid (((putList 100 (putList 100 (putT 100)) ll).1.length : Int) ≤ 1099511627776)) (HS : Hid (((s ++ ⟨#[0]⟩ : ByteArray).size : Int) ≤ 1099511627776)) (HM : Hid (whole (getList 100 (getList 100 (getText 100)) (s ++ ⟨#[0]⟩ : ByteArray).data.toList) = .error 21)) (k : Nat) (hk : (s.size : Int) - 1 = k) (HK : Hid (((s.extract 0 k).size : Int) ≤ 1099511627776)) (HC : Hid (whole (getList 100 (getList 100 (getText 100)) (s.extract 0 k).data.toList) = .error 20)) {w : World} : Calls Try.prog 5 #[.string s] w fun e w' => e = .returned (.bool true) ∧ Below w.heap.size w w' := by
  have hsf := fun (wx : World) (a : Addr) (fn : Fn) (f c : Array Value) => run_store Try.prog wx a (.func fn f c) .plain rfl
  go_enter Try.func5, Try.ntmps5
  go_wp2_with fail
  refine (anchor_any _).mono ?_
  rintro e w1 ⟨rfl, b1⟩
  go_wp2_with fail
  refine (text_made _ _).mono ?_
  rintro e w2 ⟨tb, rfl, t2, d2⟩
  rw [ex100] at t2
  have b2 := on b1 d2
  clear b1 d2
  go_wp2_with fail
  refine (list_madeStr _ _ _ _).mono ?_
  rintro e w3 ⟨ib, jb, rfl, l3, d3⟩
  rw [ex100] at l3
  have t3 := t2.below d3
  have b3 := on b2 d3
  clear t2 b2 d3
  go_wp2_with fail
  refine (list_madeStrs _ _ _ _).mono ?_
  rintro e w4 ⟨mb, cb, rfl, m4, d4⟩
  rw [ex100] at m4
  have t4 := t3.below d4
  have l4 := l3.below d4
  have b4 := on b3 d4
  clear t3 l3 b3 d4
  go_wp2_with fail
  have d5 : Below w4.heap.size w4 (w4.alloc (.cells #[.func (.func 77) #[] #[.pointer (some ⟨mb, 0, none⟩), .pointer (some ⟨cb, 0, none⟩)], .func (.func 78) #[] #[.pointer (some ⟨mb, 0, none⟩), .pointer (some ⟨cb, 0, none⟩)]] 82)) := (Below.refl _ _).alloc (Nat.le_refl _) _
  have q5 : (w4.alloc (.cells #[.func (.func 77) #[] #[.pointer (some ⟨mb, 0, none⟩), .pointer (some ⟨cb, 0, none⟩)], .func (.func 78) #[] #[.pointer (some ⟨mb, 0, none⟩), .pointer (some ⟨cb, 0, none⟩)]] 82)).heap[w4.heap.size]? = some (.cells #[.func (.func 77) #[] #[.pointer (some ⟨mb, 0, none⟩), .pointer (some ⟨cb, 0, none⟩)], .func (.func 78) #[] #[.pointer (some ⟨mb, 0, none⟩), .pointer (some ⟨cb, 0, none⟩)]] 82) := heap_alloc_new w4 _
  have g5 : w4.heap.size < (w4.alloc (.cells #[.func (.func 77) #[] #[.pointer (some ⟨mb, 0, none⟩), .pointer (some ⟨cb, 0, none⟩)], .func (.func 78) #[] #[.pointer (some ⟨mb, 0, none⟩), .pointer (some ⟨cb, 0, none⟩)]] 82)).heap.size := by simp
  have t5 := t4.below d5
  have l5 := l4.below d5
  have m5 := m4.below d5
  have b5 := on b4 d5
  generalize w4.alloc (.cells #[.func (.func 77) #[] #[.pointer (some ⟨mb, 0, none⟩), .pointer (some ⟨cb, 0, none⟩)], .func (.func 78) #[] #[.pointer (some ⟨mb, 0, none⟩), .pointer (some ⟨cb, 0, none⟩)]] 82) = w5 at *
  generalize w4.heap.size = cv at *
  clear t4 l4 m4 b4 d5
  have k0 := cell_of_heap q5 0
  have k1 := cell_of_heap q5 1
  clear q5
  refine (decodeTss w5 _ _ _ mb cb ib jb tb 100 100 100 s hs m5 l5 t5).mono ?_
  intro e w6 hd6
  obtain ⟨hd6, d6⟩ := hd6
  rw [HE.out] at hd6
  obtain ⟨v6, rfl, hv6⟩ := hd6
  have s6 := hv6.lowSS
  have t6 := t5.below d6
  have l6 := l5.below d6
  have m6 := m5.below d6
  have b6 := on b5 d6
  obtain ⟨hcc, hff⟩ := bcell d6
  clear hv6
  go_wp2_with fail
  refine (encodeTss w6 _ _ _ mb cb ib jb tb 100 100 100 v6 ll m6 l6 t6 s6 HL.out).mono ?_
  rintro e w7 ⟨he, d7⟩
  rw [HP.out] at he
  subst he
  have t7 := t6.below d7
  have l7 := l6.below d7
  have m7 := m6.below d7
  have b7 := on b6 d7
  have d57 := d6.trans (d7.mono d6.size)
  clear hcc hff
  obtain ⟨hcc, hff⟩ := bcell d57
  go_wp2_with fail
  refine (decodeTss w7 _ _ _ mb cb ib jb tb 100 100 100 _ HS.out m7 l7 t7).mono ?_
  intro e w8 hd8
  obtain ⟨hd8, d8⟩ := hd8
  rw [HM.out] at hd8
  subst hd8
  have t8 : TextC w8.drew tb 100 := t7.below d8.drew
  have l8 : ListC w8.drew ib jb 100 (.func (.func 68) #[] #[.pointer (some ⟨tb, 0, none⟩)]) (.func (.func 70) #[] #[.pointer (some ⟨tb, 0, none⟩)]) := l7.below d8.drew
  have m8 : ListC w8.drew mb cb 100 (.func (.func 75) #[] #[.pointer (some ⟨ib, 0, none⟩), .pointer (some ⟨jb, 0, none⟩)]) (.func (.func 76) #[] #[.pointer (some ⟨ib, 0, none⟩), .pointer (some ⟨jb, 0, none⟩)]) := m7.below d8.drew
  have b8 := on b7 d8
  have d58 := d57.trans (d8.mono d57.size)
  have bd8 : Below w8.heap.size w8 w8.drew := (Below.refl _ _).drew
  clear hcc hff
  obtain ⟨hcc, hff⟩ := bcell d58
  have hk2 : (k : Int) ≤ s.size := by omega
  have hk3 : k ≤ s.size := by omega
  have hk4 : (0 : Int) ≤ k := by omega
  have hwr : IntKind.i64.wrap (k : Int) = k := by rw [IntKind.wrap_i64]; omega
  clear t5 l5 m5 t6 l6 m6 t7 l7 m7 d6 d7 d57 s6
  go_wp2_with fail
  go_region_law (refine step_call2 rfl 34 (.tmp 45) (.tmp 50) #[82, 9] rfl ent34 (.agg #[.func (.func 77) #[] #[.pointer (some ⟨mb, 0, none⟩), .pointer (some ⟨cb, 0, none⟩)], .func (.func 78) #[] #[.pointer (some ⟨mb, 0, none⟩), .pointer (some ⟨cb, 0, none⟩)]]) (.string (s.extract 0 k)) rfl rfl ?_; refine (decodeTss w8.drew _ _ _ mb cb ib jb tb 100 100 100 _ HK.out m8 l8 t8).mono ?_; intro e w9 hd9; obtain ⟨hd9, d9⟩ := hd9; rw [HC.out] at hd9; refine ⟨_, hd9, ?_⟩)
  all_goals
    go_wp2_with fail
    go_ret
    exact ⟨by simp, on (on b8 bd8) d9⟩

theorem one_walk (s : ByteArray) (hs : s.size ≤ maxLen) {w : World} : Calls Try.prog 5 #[.string s] w fun e w' => e = .returned (.bool true) ∧ Below w.heap.size w w' := by
  by_cases h : 5000 < (s.size : Int)
  · exact one_long s h
  · have hsz : (s.size : Int) ≤ 1099511627776 := by omega
    cases hx : whole (getList 100 (getList 100 (getText 100)) s.data.toList) with
    | error er =>
      refine one_no s h hsz er ?_ hx
      have : er ≠ 0 := by
        unfold whole at hx
        split at hx
        · simp at hx
        · simp at hx; omega
        · rename_i e he
          simp at hx
          rw [← hx]
          exact getList_err0 (getList_err0 (getText_err0 100) 100) 100 _ _ he
      simpa using this
    | ok ll =>
      have hg := goodL (goodL (goodT 100 (by decide)) 100 (by decide)) 100 (by decide)
      have hw := whole_ok hx
      obtain ⟨h1, h2⟩ := hg.inv _ _ _ hw
      have hid : List.map (List.map id) ll = ll := by simp
      rw [hid, List.append_nil] at h1
      rw [hid] at h2
      have hpos := putList_pos h2
      have hlen : (putList 100 (putList 100 (putT 100)) ll).1.length = s.size := by rw [← h1]; rfl
      have hm := hg.more ll (by rw [hid]; exact h2) 0 []
      have hc := hg.short ll (by rw [hid]; exact h2) (s.size - 1) (by rw [hid]; omega)
      rw [hid, ← h1] at hm hc
      refine one_yes s h hsz ll hx ?_ ?_ ?_ ?_ (s.size - 1) (by omega) ?_ ?_
      · show encRes _ = _
        unfold encRes
        rw [h2, ← h1]
        rfl
      · show _ ≤ _
        omega
      · show _ ≤ _
        rw [ByteArray.size_append]
        have : (ByteArray.mk #[0]).size = 1 := rfl
        omega
      · show whole _ = _
        rw [show (s ++ ByteArray.mk #[0]).data.toList = s.data.toList ++ [0] from by simp]
        exact hm
      · show _ ≤ _
        rw [ByteArray.size_extract]
        omega
      · show whole _ = _
        rw [Lib.extract_data]
        simpa using hc

end Go.Proofs.Ytjajgllkbchapaa
