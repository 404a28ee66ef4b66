/-
  CodecBack: its walk.
-/
import Derived.Test.YtjajgllkbchapaaTxt
import Derived.Test.YtjajgllkbchapaaOne
import Derived.Test.YtjajgllkbchapaaBndW
import Derived.Deep.DeepCutAuto
namespace Go.Proofs.Ytjajgllkbchapaa
open Go.RowKit
set_option linter.unusedSimpArgs false
set_option linter.unusedVariables false

theorem ex50 : boundF 50 = 50 := by decide
theorem ex200 : boundF 200 = 200 := by decide
theorem ex2b : boundF 2 = 2 := by decide

/-- A row of two: its two cells. -/
theorem row_two {w : World} {v : Value} {a b : List ByteArray} (h : Row (Row isStr 9 0) 67 0 w v [a, b]) : ∃ g cap u0 u1, v = .slice (some ⟨g, 0, none⟩) 2 cap ∧ g < w.heap.size ∧ w.cell? ⟨g, 0, none⟩ = some u0 ∧ w.cell? ⟨g, 1, none⟩ = some u1 ∧ Row isStr 9 0 w u0 a ∧ Row isStr 9 0 w u1 b := by
  obtain ⟨vs, ho, h1, hr⟩ := h
  have hvl : vs.length = 2 := by simpa using ho.1
  match vs, hvl with
  | [u0, u1], _ =>
    rcases ho.2 with ⟨_, h0⟩ | ⟨g, cap, cur, e, _, hh, _⟩
    · simp at h0
    · have c0 := ho.cells (g := g) (by rw [e]; rfl) 0 u0 rfl
      have c1 := ho.cells (g := g) (by rw [e]; rfl) 1 u1 rfl
      have e2 : ∀ i, (⟨g, 0, none⟩ : Addr).add i = ⟨g, i, none⟩ := fun i => by unfold Addr.add; split <;> simp_all
      rw [e2] at c0 c1
      exact ⟨g, cap, u0, u1, e, (Array.getElem?_eq_some_iff.1 hh).1, c0, c1, hr 0 u0 a rfl rfl, hr 1 u1 b rfl rfl⟩

/-- The list of two lists that is written. -/
theorem low_two {w : World} {v : Value} {l : List ByteArray} (h : Vals Value.string w v l) : LowList (w.alloc (.cells #[v, .slice none 0 0] 67)).heap.size (w.alloc (.cells #[v, .slice none 0 0] 67)) (LowList (w.alloc (.cells #[v, .slice none 0 0] 67)).heap.size (w.alloc (.cells #[v, .slice none 0 0] 67)) isS) (.slice (some ⟨w.heap.size, 0, none⟩) 2 2) [l, []] := by
  have hb : Below w.heap.size w (w.alloc (.cells #[v, .slice none 0 0] 67)) := (Below.refl _ _).alloc (Nat.le_refl _) _
  refine ⟨_, _, rfl, by simp, fun _ => ⟨w.heap.size, 0, rfl, by simp, fun i x hx => ?_⟩⟩
  rw [cell_of_heap (heap_alloc_new w _)]
  match i, hx with
  | 0, hx =>
    simp at hx
    subst hx
    exact ⟨v, rfl, Vals.isS (h.below hb)⟩
  | 1, hx =>
    simp at hx
    subst hx
    exact ⟨_, rfl, none, 0, rfl, by simp, fun h => absurd rfl h⟩

set_option maxRecDepth 100000 in
set_option maxHeartbeats 1000000 in
theorem back_long {w : World} {va vb : Value} {l : List ByteArray} {fl : List Bool} (hl : Vals Value.string w va l) (hf : Vals Value.bool w vb fl) (h : 200 < (l.length : Int) ∨ 200 < (fl.length : Int)) : Calls Try.prog 6 #[va, vb] w fun e w' => e = .returned (.bool true) ∧ Below w.heap.size w w' := by
  obtain ⟨a1, cap1, rfl, hl1, hc1⟩ := hl
  obtain ⟨a2, cap2, rfl, hl2, hc2⟩ := hf
  by_cases h1 : 200 < (l.length : Int)
  · have hd := decide_eq_true h1
    go_enter Try.func6, Try.ntmps6
    go_wp2_with fail
    refine (anchor_any _).mono ?_
    rintro e w1 ⟨rfl, b1⟩
    go_wp2_with fail
    all_goals first | (exfalso; omega) | (go_ret; exact ⟨rfl, b1⟩)
  · have h2 : 200 < (fl.length : Int) := by omega
    have hd := decide_eq_false h1
    have hd2 := decide_eq_true h2
    go_enter Try.func6, Try.ntmps6
    go_wp2_with fail
    refine (anchor_any _).mono ?_
    rintro e w1 ⟨rfl, b1⟩
    go_wp2_with fail
    all_goals first | (exfalso; omega) | (go_ret; exact ⟨rfl, b1⟩)

set_option maxRecDepth 100000 in
set_option maxHeartbeats 8000000 in
theorem back_in {w : World} {va vb : Value} {l : List ByteArray} {fl : List Bool} (hl : Vals Value.string w va l) (hf : Vals Value.bool w vb fl) (h1 : ¬ 200 < (l.length : Int)) (h2 : ¬ 200 < (fl.length : Int))
    (S SF SU : ByteArray)
    (H1 : Hid ((∀ x ∈ l, x.size ≤ 50) → encRes (putList 2 (putList 200 (putT 50)) [l, []]) = .tuple #[.string S, .int .i64 0] ∧ (S.size : Int) ≤ 1099511627776 ∧ whole (getList 2 (getList 200 (getText 50)) S.data.toList) = .ok [l, []] ∧ ((putList 2 (putList 200 (putT 50)) [l, []]).1.length : Int) ≤ 1099511627776))
    (H2 : Hid (encRes (putList 200 putB fl) = .tuple #[.string SF, .int .i64 0] ∧ (SF.size : Int) ≤ 1099511627776 ∧ whole (getList 200 getFlag SF.data.toList) = .ok fl ∧ ((putList 200 putB fl).1.length : Int) ≤ 1099511627776))
    (H3 : Hid ((∀ x ∈ l, x.size ≤ 50) → l ≠ [] → ∀ m, m = (l.length : Int) - 1 → boundF m = m ∧ boundF l.length = l.length ∧ encRes (putList m (putT 50) l) = .tuple #[.string ⟨#[]⟩, .int .i64 22] ∧ encRes (putList l.length (putT 50) l) = .tuple #[.string SU, .int .i64 0] ∧ whole (getList m (getText 50) SU.data.toList) = .error 22 ∧ (SU.size : Int) ≤ 1099511627776 ∧ ((putList m (putT 50) l).1.length : Int) ≤ 1099511627776 ∧ ((putList l.length (putT 50) l).1.length : Int) ≤ 1099511627776)) : Calls Try.prog 6 #[va, vb] w fun e w' => e = .returned (.bool true) ∧ Below w.heap.size w w' := by
  have hli := hl
  have hfi := hf
  obtain ⟨a1, cap1, rfl, hl1, hc1⟩ := hl
  obtain ⟨a2, cap2, rfl, hl2, hc2⟩ := hf
  have hd1 := decide_eq_false h1
  have hd2 := decide_eq_false h2
  have hsf := fun (wx : World) (a : Addr) (fn : Fn) (f c : Array Value) => run_store Try.prog wx a (.func fn f c) .plain rfl
  go_enter Try.func6, Try.ntmps6
  go_wp2_with fail
  refine (anchor_any _).mono ?_
  rintro e w1 ⟨rfl, b1⟩
  go_wp2_with fail
  go_loop [37] (fun i => ∃ k : Nat, k ≤ l.length ∧ i = .int .i64 k ∧ ∀ x ∈ l.take k, x.size ≤ 50) (fun i => l.length - (intOf i).toNat)
  case atStart => exact ⟨0, Nat.zero_le _, rfl, by simp⟩
  case round =>
    obtain ⟨k, hk, rfl, hall⟩ := hrel
    have Hall : Hid (∀ x ∈ l.take k, x.size ≤ 50) := hall
    clear hall
    by_cases hlt : k < l.length
    · obtain ⟨x, hx⟩ : ∃ x, l[k]? = some x := ⟨l[k], by simp [hlt]⟩
      have htk : l.take (k + 1) = l.take k ++ [x] := by rw [List.take_add_one, hx]; rfl
      have Htk : Hid (l.take (k + 1) = l.take k ++ [x]) := htk
      obtain ⟨b1', o1, rfl, hb1, c1⟩ := hc1 (by rintro rfl; simp at hx)
      obtain ⟨u1, d1, rfl⟩ := c1 k x hx
      have d1' := (b1.cell (p := ⟨b1', o1 + k, none⟩) hb1).trans d1
      have i1 : (k : Int) < (l.length : Int) := by omega
      clear c1 hx hc1 htk d1
      by_cases h50 : 50 < (x.size : Int)
      · go_wp2_with fail
        go_ret
        exact ⟨rfl, b1⟩
      · go_wp2_with fail
        go_round
        case rel =>
          refine ⟨k + 1, by omega, by go_num, ?_⟩
          rw [Htk.out]
          intro y hy
          simp at hy
          rcases hy with hy | rfl
          · exact Hall.out y hy
          · omega
        case measure => simp [intOf]; omega
    · have hall : ∀ x ∈ l, x.size ≤ 50 := by
        have := Hall.out
        rw [List.take_of_length_le (by omega)] at this
        exact this
      have G1 := H1.out hall
      have G3 := H3.out hall
      obtain ⟨g1, g2, g3, g4⟩ := G1
      have K1 : Hid (encRes (putList 2 (putList 200 (putT 50)) [l, []]) = .tuple #[.string S, .int .i64 0]) := g1
      have K3 : Hid (whole (getList 2 (getList 200 (getText 50)) S.data.toList) = .ok [l, []]) := g3
      have K4 : Hid (((putList 2 (putList 200 (putT 50)) [l, []]).1.length : Int) ≤ 1099511627776) := g4
      have K5 := H3
      have Kall : Hid (∀ x ∈ l, x.size ≤ 50) := hall
      clear g1 g3 g4 G3 hall Hall
      go_wp2_with fail
      refine (text_made _ _).mono ?_
      rintro e w2 ⟨tb, rfl, t2, d2⟩
      rw [ex50] at t2
      have b2 := on b1 d2
      clear d2
      go_wp2_with fail
      refine (list_madeStr _ _ _ _).mono ?_
      rintro e w3 ⟨ib, jb, rfl, l3, d3⟩
      rw [ex200] at l3
      have t3 := t2.below d3
      have b3 := on b2 d3
      clear t2 b2 d3
      go_wp2_with fail
      refine (list_madeStrs _ _ _ _).mono ?_
      rintro e w4 ⟨mb, cb, rfl, m4, d4⟩
      rw [ex2b] at m4
      have t4 := t3.below d4
      have l4 := l3.below d4
      have b4 := on b3 d4
      clear t3 l3 b3 d4
      go_upto_region 12 with fail
      have d5 : Below w4.heap.size w4 (w4.alloc (.cells #[.func (.func 77) #[] #[.pointer (some ⟨mb, 0, none⟩), .pointer (some ⟨cb, 0, none⟩)], .func (.func 78) #[] #[.pointer (some ⟨mb, 0, none⟩), .pointer (some ⟨cb, 0, none⟩)]] 82)) := (Below.refl _ _).alloc (Nat.le_refl _) _
      have q5 : (w4.alloc (.cells #[.func (.func 77) #[] #[.pointer (some ⟨mb, 0, none⟩), .pointer (some ⟨cb, 0, none⟩)], .func (.func 78) #[] #[.pointer (some ⟨mb, 0, none⟩), .pointer (some ⟨cb, 0, none⟩)]] 82)).heap[w4.heap.size]? = some (.cells #[.func (.func 77) #[] #[.pointer (some ⟨mb, 0, none⟩), .pointer (some ⟨cb, 0, none⟩)], .func (.func 78) #[] #[.pointer (some ⟨mb, 0, none⟩), .pointer (some ⟨cb, 0, none⟩)]] 82) := heap_alloc_new w4 _
      have g5 : w4.heap.size < (w4.alloc (.cells #[.func (.func 77) #[] #[.pointer (some ⟨mb, 0, none⟩), .pointer (some ⟨cb, 0, none⟩)], .func (.func 78) #[] #[.pointer (some ⟨mb, 0, none⟩), .pointer (some ⟨cb, 0, none⟩)]] 82)).heap.size := by simp
      have t5 := t4.below d5
      have l5 := l4.below d5
      have m5 := m4.below d5
      have b5 := on b4 d5
      generalize w4.alloc (.cells #[.func (.func 77) #[] #[.pointer (some ⟨mb, 0, none⟩), .pointer (some ⟨cb, 0, none⟩)], .func (.func 78) #[] #[.pointer (some ⟨mb, 0, none⟩), .pointer (some ⟨cb, 0, none⟩)]] 82) = w5 at *
      generalize w4.heap.size = cv at *
      clear t4 l4 m4 b4 d5
      have k0 := cell_of_heap q5 0
      have k1 := cell_of_heap q5 1
      have v5 := hli.below b5
      clear q5
      have Hm1 : Hid (0 + l.length ≤ maxLen) := by show _ ≤ maxLen; unfold maxLen; omega
      have Hm2 : Hid ((0 + l.length) * 16 ≤ 140737488355328) := by show _ ≤ _; omega
      go_cut [8, 9] (fun x y wx => x = .string S ∧ y = .int .i64 0 ∧ Below w5.heap.size w5 wx)
      case first =>
        have hbd : ∀ o, Below w5.heap.size w5 (w5.alloc o).drew := fun o => ((Below.refl _ _).alloc (Nat.le_refl _) _).drew
        have hp0 : ∀ o, w5.heap.size ≤ (w5.alloc o).drew.heap.size := fun o => (hbd o).size
        go_region_law (first
          | (refine step_append_vals str_one1 info9g rfl Try.underlying67 rfl (.tmp 50) (.tmp 51) rfl w5.heap.size _ 0 [] rfl (row_empty w5 9) _ l rfl (v5.below (hbd _)) Hm1.out Hm2.out (hp0 _) ?_; intro v6 w6 ho6 hg6 hl6; obtain ⟨d6, v6l⟩ := app_done str_one1 (hbd _) ho6 hg6; obtain ⟨a6, cap6, hv6, _, _⟩ := id v6l; subst hv6; obtain ⟨hcc, hff⟩ := bcell d6; have hg6' : cv < w6.heap.size := Nat.lt_of_lt_of_le g5 d6.size; clear ho6 hg6 hl6)
          | (refine step_call2 rfl 35 (.tmp 49) (.tmp 53) #[82, 84] rfl ent35 (.agg #[.func (.func 77) #[] #[.pointer (some ⟨mb, 0, none⟩), .pointer (some ⟨cb, 0, none⟩)], .func (.func 78) #[] #[.pointer (some ⟨mb, 0, none⟩), .pointer (some ⟨cb, 0, none⟩)]]) (.slice (some ⟨w6.heap.size, 0, none⟩) 2 2) rfl rfl ?_; refine (encodeTss _ _ _ _ mb cb ib jb tb 2 200 50 _ [l, []] (m5.below (d6.alloc d6.size _)) (l5.below (d6.alloc d6.size _)) (t5.below (d6.alloc d6.size _)) (low_two v6l) K4.out).mono ?_; rintro e w7 ⟨he7, d7⟩; rw [K1.out] at he7; refine ⟨_, he7, ?_⟩))
        all_goals
          go_wp2_with fail
          go_meet
          exact ⟨rfl, rfl, (d6.alloc d6.size _).trans (d7.mono (by have := d6.size; simp; omega))⟩
      case rest =>
        obtain ⟨rfl, rfl, dc⟩ := hcut
        have m6 := m5.below dc
        have l6 := l5.below dc
        have t6 := t5.below dc
        have b6 := on b5 dc
        obtain ⟨hcc, hff⟩ := bcell dc
        go_wp2_with fail
        refine (decodeTss wc _ _ _ mb cb ib jb tb 2 200 50 S g2 m6 l6 t6).mono ?_
        intro e w8 hd8
        obtain ⟨hd8, d8⟩ := hd8
        rw [K3.out] at hd8
        obtain ⟨v8, rfl, hr8⟩ := hd8
        have b8 := on b6 d8
        obtain ⟨gg, capg, u0, u1, rfl, hgl, hu0, hu1, r0, r1⟩ := row_two hr8
        have s0 : Vals Value.string w8 u0 l := r0.lowS
        have s1 := hli.below b8
        obtain ⟨_, ho1, _, _⟩ := r1
        obtain ⟨au, cu, rfl⟩ := ownsRow_form ho1
        clear hcc hff m5 l5 t5 m6 l6 t6 k0 k1 g2 hr8 ho1 r0 d8 dc b5 v5 Hm1 Hm2 K1 K3 K4 b6
        go_wp2_with (go_at_call 32; refine (texts_same s0 s1).mono ?_; rintro e w9 ⟨rfl, hw9⟩; subst hw9)
        refine (flag_codec _).mono ?_
        rintro e w10 ⟨rfl, d10⟩
        have b10 := on b8 d10
        clear d10
        go_wp2_with fail
        refine (list_madeBool _ _ _ _).mono ?_
        rintro e w11 ⟨fb, gb, rfl, f11, d11⟩
        rw [ex200] at f11
        have b11 := on b10 d11
        clear d11 b10
        go_upto_region 17 with fail
        have d12 : Below w11.heap.size w11 (w11.alloc (.cells #[.func (.func 81) #[] #[.pointer (some ⟨fb, 0, none⟩), .pointer (some ⟨gb, 0, none⟩)], .func (.func 82) #[] #[.pointer (some ⟨fb, 0, none⟩), .pointer (some ⟨gb, 0, none⟩)]] 93)) := (Below.refl _ _).alloc (Nat.le_refl _) _
        have q12 : (w11.alloc (.cells #[.func (.func 81) #[] #[.pointer (some ⟨fb, 0, none⟩), .pointer (some ⟨gb, 0, none⟩)], .func (.func 82) #[] #[.pointer (some ⟨fb, 0, none⟩), .pointer (some ⟨gb, 0, none⟩)]] 93)).heap[w11.heap.size]? = some (.cells #[.func (.func 81) #[] #[.pointer (some ⟨fb, 0, none⟩), .pointer (some ⟨gb, 0, none⟩)], .func (.func 82) #[] #[.pointer (some ⟨fb, 0, none⟩), .pointer (some ⟨gb, 0, none⟩)]] 93) := heap_alloc_new w11 _
        have g12 : w11.heap.size < (w11.alloc (.cells #[.func (.func 81) #[] #[.pointer (some ⟨fb, 0, none⟩), .pointer (some ⟨gb, 0, none⟩)], .func (.func 82) #[] #[.pointer (some ⟨fb, 0, none⟩), .pointer (some ⟨gb, 0, none⟩)]] 93)).heap.size := by simp
        have f12 := f11.below d12
        have b12 := on b11 d12
        generalize w11.alloc (.cells #[.func (.func 81) #[] #[.pointer (some ⟨fb, 0, none⟩), .pointer (some ⟨gb, 0, none⟩)], .func (.func 82) #[] #[.pointer (some ⟨fb, 0, none⟩), .pointer (some ⟨gb, 0, none⟩)]] 93) = w12 at *
        generalize w11.heap.size = cf at *
        clear f11 b11 d12
        have k0 := cell_of_heap q12 0
        have k1 := cell_of_heap q12 1
        have v12 := hfi.below b12
        clear q12
        have Hm1 : Hid (0 + fl.length ≤ maxLen) := by show _ ≤ maxLen; unfold maxLen; omega
        have Hm2 : Hid ((0 + fl.length) * 1 ≤ 140737488355328) := by show _ ≤ _; omega
        obtain ⟨g1, g2, g3, g4⟩ := H2.out
        have K1 : Hid (encRes (putList 200 putB fl) = .tuple #[.string SF, .int .i64 0]) := g1
        have K3 : Hid (whole (getList 200 getFlag SF.data.toList) = .ok fl) := g3
        have K4 : Hid (((putList 200 putB fl).1.length : Int) ≤ 1099511627776) := g4
        clear g1 g3 g4
        go_cut [13, 14] (fun x y wx => x = .string SF ∧ y = .int .i64 0 ∧ Below w12.heap.size w12 wx)
        case first =>
          have hbd : ∀ o, Below w12.heap.size w12 (w12.alloc o).drew := fun o => ((Below.refl _ _).alloc (Nat.le_refl _) _).drew
          have hp0 : ∀ o, w12.heap.size ≤ (w12.alloc o).drew.heap.size := fun o => (hbd o).size
          go_region_law (first
            | (refine step_append_vals bool_one1 info4 rfl Try.underlying89 rfl (.tmp 93) (.tmp 94) rfl w12.heap.size _ 0 [] rfl (row_empty w12 4) _ fl rfl (v12.below (hbd _)) Hm1.out Hm2.out (hp0 _) ?_; intro v6 w6 ho6 hg6 hl6; obtain ⟨d6, v6l⟩ := app_done bool_one1 (hbd _) ho6 hg6; obtain ⟨hcc, hff⟩ := bcell d6; clear ho6 hg6 hl6)
            | (refine step_call2 rfl 37 (.tmp 92) (.tmp 95) #[93, 89] rfl ent37 (.agg #[.func (.func 81) #[] #[.pointer (some ⟨fb, 0, none⟩), .pointer (some ⟨gb, 0, none⟩)], .func (.func 82) #[] #[.pointer (some ⟨fb, 0, none⟩), .pointer (some ⟨gb, 0, none⟩)]]) v6 rfl rfl ?_; refine (encodeFs _ _ _ fb gb 200 _ fl (f12.below d6) v6l.isB K4.out).mono ?_; rintro e w7 ⟨he7, d7⟩; rw [K1.out] at he7; refine ⟨_, he7, ?_⟩))
          all_goals
            go_wp2_with fail
            go_meet
            exact ⟨rfl, rfl, d6.trans (d7.mono d6.size)⟩
        case rest =>
          obtain ⟨rfl, rfl, dc⟩ := hcut
          have f13 := f12.below dc
          have b13 := on b12 dc
          obtain ⟨hcc, hff⟩ := bcell dc
          go_wp2_with fail
          refine (decodeFs wc _ _ fb gb 200 SF g2 f13).mono ?_
          intro e w14 hd14
          obtain ⟨hd14, d14⟩ := hd14
          rw [K3.out] at hd14
          obtain ⟨v14, rfl, hr14⟩ := hd14
          have b14 := on b13 d14
          have y14 : Vals Value.bool w14 v14 fl := hr14.low fun _ _ h => h
          have x14 := hfi.below b14
          obtain ⟨a14, cap14, rfl, _, hc14⟩ := y14
          clear hcc hff f12 f13 k0 k1 g2 hr14 d14 dc b12 v12 Hm1 Hm2 K1 K3 K4 b13 hc2
          obtain ⟨a2', cap2', hv2', _, hc2⟩ := id x14
          simp only [Value.slice.injEq, true_and] at hv2'
          obtain ⟨rfl, rfl⟩ := hv2'
          go_wp2_with fail
          go_loop [120] (fun i => ∃ k : Nat, k ≤ fl.length ∧ i = .int .i64 k) (fun i => fl.length - (intOf i).toNat)
          case atStart => exact ⟨0, Nat.zero_le _, rfl⟩
          case round =>
            obtain ⟨k2, hk2, rfl⟩ := hrel
            by_cases hlt2 : k2 < fl.length
            · obtain ⟨x, hx⟩ : ∃ x, fl[k2]? = some x := ⟨fl[k2], by simp [hlt2]⟩
              obtain ⟨bb1, oo1, rfl, hbb1, cc1⟩ := hc14 (by rintro rfl; simp at hx)
              obtain ⟨bb2, oo2, rfl, hbb2, cc2⟩ := hc2 (by rintro rfl; simp at hx)
              obtain ⟨uu1, dd1, rfl⟩ := cc1 k2 x hx
              obtain ⟨uu2, dd2, rfl⟩ := cc2 k2 x hx
              have ii1 : (k2 : Int) < (fl.length : Int) := by omega
              clear cc1 cc2 hx hc14 hc2
              cases x
              all_goals
                go_wp2_with fail
                go_round
                case rel => exact ⟨k2 + 1, by omega, by go_num⟩
                case measure => simp [intOf]; omega
            · by_cases hne : l = []
              · have hl0 : ((l.length : Int) == 0) = true := by simp [hne]
                have hl0' : l.length = 0 := by simp [hne]
                clear hne
                go_wp2_with fail
                go_ret
                exact ⟨rfl, b14⟩
              · have hlp : 0 < l.length := List.length_pos_iff.2 hne
                have hl0 : ((l.length : Int) == 0) = false := by simp; omega
                obtain ⟨z1, z2, z3, z4, z5, z6, z7, z8⟩ := H3.out Kall.out hne ((l.length : Int) - 1) rfl
                have Z1 : Hid (boundF ((l.length : Int) - 1) = (l.length : Int) - 1) := z1
                have Z2 : Hid (boundF l.length = l.length) := z2
                have Z3 : Hid (encRes (putList ((l.length : Int) - 1) (putT 50) l) = .tuple #[.string ⟨#[]⟩, .int .i64 22]) := z3
                have Z4 : Hid (encRes (putList l.length (putT 50) l) = .tuple #[.string SU, .int .i64 0]) := z4
                have Z5 : Hid (whole (getList ((l.length : Int) - 1) (getText 50) SU.data.toList) = .error 22) := z5
                have Z7 : Hid (((putList ((l.length : Int) - 1) (putT 50) l).1.length : Int) ≤ 1099511627776) := z7
                have Z8 : Hid (((putList l.length (putT 50) l).1.length : Int) ≤ 1099511627776) := z8
                clear z1 z2 z3 z4 z5 z7 z8 hne hc14 hc2 x14 hfi hc1
                go_wp2_with fail
                refine (text_made _ _).mono ?_
                rintro e w15 ⟨tb2, rfl, t15, d15⟩
                rw [ex50] at t15
                have b15 := on b14 d15
                clear d15
                go_wp2_with fail
                refine (list_madeStr _ _ _ _).mono ?_
                rintro e w16 ⟨ib2, jb2, rfl, l16, d16⟩
                rw [Z1.out] at l16
                have t16 := t15.below d16
                have b16 := on b15 d16
                clear t15 b15 d16
                go_wp2_with fail
                refine (encodeTs w16 _ _ ib2 jb2 tb2 _ 50 _ l l16 t16 (hli.below b16).isS Z7.out).mono ?_
                rintro e w17 ⟨he17, d17⟩
                rw [Z3.out] at he17
                subst he17
                have b17 := on b16 d17
                clear t16 l16 d17 b16
                go_wp2_with fail
                refine (text_made _ _).mono ?_
                rintro e w18 ⟨tb3, rfl, t18, d18⟩
                rw [ex50] at t18
                have b18 := on b17 d18
                clear d18 b17
                go_wp2_with fail
                refine (list_madeStr _ _ _ _).mono ?_
                rintro e w19 ⟨ib3, jb3, rfl, l19, d19⟩
                rw [Z2.out] at l19
                have t19 := t18.below d19
                have b19 := on b18 d19
                clear t18 b18 d19
                go_wp2_with fail
                refine (encodeTs w19 _ _ ib3 jb3 tb3 _ 50 _ l l19 t19 (hli.below b19).isS Z8.out).mono ?_
                rintro e w20 ⟨he20, d20⟩
                rw [Z4.out] at he20
                subst he20
                have b20 := on b19 d20
                clear t19 l19 d20 b19
                go_wp2_with fail
                refine (text_made _ _).mono ?_
                rintro e w21 ⟨tb4, rfl, t21, d21⟩
                rw [ex50] at t21
                have b21 := on b20 d21
                clear d21 b20
                go_wp2_with fail
                refine (list_madeStr _ _ _ _).mono ?_
                rintro e w22 ⟨ib4, jb4, rfl, l22, d22⟩
                rw [Z1.out] at l22
                have t22 := t21.below d22
                have b22 := on b21 d22
                clear t21 b21 d22
                go_wp2_with fail
                refine (decodeTs w22 _ _ ib4 jb4 tb4 _ 50 _ z6 l22 t22).mono ?_
                intro e w23 hd23
                obtain ⟨hd23, d23⟩ := hd23
                rw [Z5.out] at hd23
                subst hd23
                have b23 := on b22 d23
                go_wp2_with fail
                go_ret
                exact ⟨rfl, b23⟩

end Go.Proofs.Ytjajgllkbchapaa
