/-
  CodecCut: its walk.
-/
import Derived.Test.YtjajgllkbchapaaApp
namespace Go.Proofs.Ytjajgllkbchapaa
open Go.RowKit
set_option linter.unusedSimpArgs false
set_option linter.unusedVariables false

theorem puts_nat : ∀ l : List Int, (puts putN l).2 = true → l = (l.map Int.toNat).map Int.ofNat
  | [], _ => rfl
  | a :: r, h => by
    obtain ⟨h1, h2, _⟩ := puts_cons h
    have ih := puts_nat r h2
    have : 0 ≤ a := by
      unfold putN at h1
      split at h1
      · rename_i hk
        simp [okN] at hk
        omega
      · simp at h1
    simp only [List.map_cons]
    rw [← ih]
    congr 1
    simp
    omega

theorem putN_len (n : Int) : (putN n).1.length ≤ 8 := by
  unfold putN
  split
  · exact enc_le _
  · simp

theorem puts_len {α : Type} {f : α → List UInt8 × Bool} {c : Nat} (hf : ∀ a, (f a).1.length ≤ c) : ∀ l : List α, (puts f l).1.length ≤ c * l.length
  | [] => by simp [puts]
  | a :: r => by
    have ih := puts_len hf r
    have h1 := hf a
    simp only [puts, List.length_cons]
    split
    · simp
      rw [Nat.mul_add]
      omega
    · simp
      rw [Nat.mul_add]
      omega

theorem putList_len {α : Type} {f : α → List UInt8 × Bool} {c : Nat} (hf : ∀ a, (f a).1.length ≤ c) (m : Int) (l : List α) : (putList m f l).1.length ≤ 8 + c * l.length := by
  unfold putList
  have := enc_le l.length
  have h2 := puts_len hf l
  split
  · simp
    omega
  · simp

theorem putList_nat {m : Int} {l : List Int} (h : (putList m putN l).2 = true) : l = (l.map Int.toNat).map Int.ofNat := by
  unfold putList at h
  split at h
  · exact puts_nat l h
  · simp at h

theorem ex500 : boundF 500 = 500 := by decide

set_option maxRecDepth 100000 in
set_option maxHeartbeats 1000000 in
theorem cut_big {w : World} {v : Value} {l : List Int} (hl : IntsAt w v l) (at_ : Int) (h : 500 < (l.length : Int) ∨ at_ < 0) : Calls Try.prog 8 #[v, .int .i64 at_] w fun e w' => e = .returned (.bool true) ∧ Below w.heap.size w w' := by
  obtain ⟨a, cap, rfl, hll, hc⟩ := hl
  by_cases h1 : 500 < (l.length : Int)
  · have hd := decide_eq_true h1
    go_enter Try.func8, Try.ntmps8
    go_wp2_with fail
    refine (anchor_any _).mono ?_
    rintro e w1 ⟨rfl, b1⟩
    go_wp2_with fail
    go_ret
    exact ⟨rfl, b1⟩
  · have h2 : at_ < 0 := by omega
    have hd := decide_eq_false h1
    go_enter Try.func8, Try.ntmps8
    go_wp2_with fail
    refine (anchor_any _).mono ?_
    rintro e w1 ⟨rfl, b1⟩
    go_wp2_with fail
    go_ret
    exact ⟨rfl, b1⟩

set_option maxRecDepth 100000 in
set_option maxHeartbeats 2000000 in
theorem cut_no {w : World} {v : Value} {l : List Int} (hl : IntsAt w v l) (at_ : Int) (h1 : ¬ 500 < (l.length : Int)) (h2 : ¬ at_ < 0) (HE : Hid (encRes (putList 500 putN l) = .tuple #[.string ⟨#[]⟩, .int .i64 22])) : Calls Try.prog 8 #[v, .int .i64 at_] w fun e w' => e = .returned (.bool true) ∧ Below w.heap.size w w' := by
  have hli := hl
  obtain ⟨a, cap, rfl, hll, hc⟩ := hl
  have hd1 := decide_eq_false h1
  have hd2 := decide_eq_false h2
  have hsf := fun (wx : World) (a : Addr) (fn : Fn) (f c : Array Value) => run_store Try.prog wx a (.func fn f c) .plain rfl
  have HL : Hid (((putList 500 putN l).1.length : Int) ≤ 1099511627776) := by
    have := putList_len putN_len 500 l
    show _ ≤ _
    omega
  go_enter Try.func8, Try.ntmps8
  go_wp2_with fail
  refine (anchor_any _).mono ?_
  rintro e w1 ⟨rfl, b1⟩
  go_wp2_with fail
  refine (number_codec _).mono ?_
  rintro e w2 ⟨rfl, b2⟩
  go_wp2_with fail
  refine (list_madeInt _ _ _ _).mono ?_
  rintro e w3 ⟨mb, cb, rfl, c3, b3⟩
  rw [ex500] at c3
  go_wp2_with fail
  have b4 : Below w3.heap.size w3 (w3.alloc (.cells #[.func (.func 58) #[] #[.pointer (some ⟨mb, 0, none⟩), .pointer (some ⟨cb, 0, none⟩)], .func (.func 60) #[] #[.pointer (some ⟨mb, 0, none⟩), .pointer (some ⟨cb, 0, none⟩)]] 40)) := (Below.refl _ _).alloc (Nat.le_refl _) _
  have q4 : (w3.alloc (.cells #[.func (.func 58) #[] #[.pointer (some ⟨mb, 0, none⟩), .pointer (some ⟨cb, 0, none⟩)], .func (.func 60) #[] #[.pointer (some ⟨mb, 0, none⟩), .pointer (some ⟨cb, 0, none⟩)]] 40)).heap[w3.heap.size]? = some (.cells #[.func (.func 58) #[] #[.pointer (some ⟨mb, 0, none⟩), .pointer (some ⟨cb, 0, none⟩)], .func (.func 60) #[] #[.pointer (some ⟨mb, 0, none⟩), .pointer (some ⟨cb, 0, none⟩)]] 40) := heap_alloc_new w3 _
  have g4 : w3.heap.size < (w3.alloc (.cells #[.func (.func 58) #[] #[.pointer (some ⟨mb, 0, none⟩), .pointer (some ⟨cb, 0, none⟩)], .func (.func 60) #[] #[.pointer (some ⟨mb, 0, none⟩), .pointer (some ⟨cb, 0, none⟩)]] 40)).heap.size := by simp
  generalize w3.alloc (.cells #[.func (.func 58) #[] #[.pointer (some ⟨mb, 0, none⟩), .pointer (some ⟨cb, 0, none⟩)], .func (.func 60) #[] #[.pointer (some ⟨mb, 0, none⟩), .pointer (some ⟨cb, 0, none⟩)]] 40) = w4 at *
  have bb4 := on (on (on b1 b2) b3) b4
  have c4 := c3.below b4
  have l4 := (hli.below bb4).low
  generalize w3.heap.size = cv at *
  clear b1 b2 b3 b4 c3
  have k0 := cell_of_heap q4 0
  have k1 := cell_of_heap q4 1
  have hp0 : ∀ o, w4.heap.size ≤ (w4.alloc o).drew.heap.size := fun o => by simp
  have hm1 : Hid (0 + l.length ≤ maxLen) := by show _ ≤ maxLen; unfold maxLen; omega
  have hm2 : Hid ((0 + l.length) * 8 ≤ 140737488355328) := by show _ ≤ _; omega
  have hbd : ∀ o, Below w4.heap.size w4 (w4.alloc o).drew := fun o => ((Below.refl _ _).alloc (Nat.le_refl _) _).drew
  go_region_law (first
    | (refine step_append_vals int_one1 info3g rfl Try.underlying22 rfl (.tmp 26) (.tmp 27) rfl w4.heap.size _ 0 [] rfl (row_empty w4 3) _ l rfl (Vals.below l4 (hbd _)) hm1.out hm2.out (hp0 _) ?_; intro v5 w5 ho5 hg5 hl5; obtain ⟨b5, l5⟩ := app_done int_one1 (hbd _) ho5 hg5; obtain ⟨hcc, hff⟩ := bcell b5; clear ho5 hg5 hl5)
    | (refine step_call2 rfl 17 (.tmp 25) (.tmp 28) #[40, 22] rfl ent17 (.agg #[.func (.func 58) #[] #[.pointer (some ⟨mb, 0, none⟩), .pointer (some ⟨cb, 0, none⟩)], .func (.func 60) #[] #[.pointer (some ⟨mb, 0, none⟩), .pointer (some ⟨cb, 0, none⟩)]]) v5 rfl rfl ?_; refine (encodeNs _ _ _ mb cb 500 _ l (c4.below b5) l5.isI HL.out).mono ?_; rintro e w6 ⟨he6, b6⟩; rw [HE.out] at he6; refine ⟨_, he6, ?_⟩))
  all_goals
    go_wp2_with fail
    go_ret
    exact ⟨rfl, on (on bb4 b5) b6⟩

set_option maxRecDepth 100000 in
set_option maxHeartbeats 2000000 in
theorem cut_yes {w : World} {v : Value} {l : List Int} (hl : IntsAt w v l) (at_ : Int) (h1 : ¬ 500 < (l.length : Int)) (h2 : ¬ at_ < 0) (s : ByteArray) (hs0 : ¬ (s.size : Int) = 0) (hs40 : (s.size : Int) ≤ 1099511627776) (k : Nat) (hk : at_ % (s.size : Int) = k) (hks : (k : Int) < s.size) (L : List Nat) (HL2 : Hid (l = L.map Int.ofNat)) (HD1 : Hid (whole (getList 500 getN (s.extract 0 k).data.toList) = .error 20)) (HD2 : Hid (whole (getList 500 getN s.data.toList) = .ok L)) (HE : Hid (encRes (putList 500 putN l) = .tuple #[.string s, .int .i64 0])) : Calls Try.prog 8 #[v, .int .i64 at_] w fun e w' => e = .returned (.bool true) ∧ Below w.heap.size w w' := by
  have hli := hl
  obtain ⟨a, cap, rfl, hll, hc⟩ := hl
  have hd1 := decide_eq_false h1
  have hd2 := decide_eq_false h2
  have hsf := fun (wx : World) (a : Addr) (fn : Fn) (f c : Array Value) => run_store Try.prog wx a (.func fn f c) .plain rfl
  have HL : Hid (((putList 500 putN l).1.length : Int) ≤ 1099511627776) := by
    have := putList_len putN_len 500 l
    show _ ≤ _
    omega
  go_enter Try.func8, Try.ntmps8
  go_wp2_with fail
  refine (anchor_any _).mono ?_
  rintro e w1 ⟨rfl, b1⟩
  go_wp2_with fail
  refine (number_codec _).mono ?_
  rintro e w2 ⟨rfl, b2⟩
  go_wp2_with fail
  refine (list_madeInt _ _ _ _).mono ?_
  rintro e w3 ⟨mb, cb, rfl, c3, b3⟩
  rw [ex500] at c3
  go_wp2_with fail
  have b4 : Below w3.heap.size w3 (w3.alloc (.cells #[.func (.func 58) #[] #[.pointer (some ⟨mb, 0, none⟩), .pointer (some ⟨cb, 0, none⟩)], .func (.func 60) #[] #[.pointer (some ⟨mb, 0, none⟩), .pointer (some ⟨cb, 0, none⟩)]] 40)) := (Below.refl _ _).alloc (Nat.le_refl _) _
  have q4 : (w3.alloc (.cells #[.func (.func 58) #[] #[.pointer (some ⟨mb, 0, none⟩), .pointer (some ⟨cb, 0, none⟩)], .func (.func 60) #[] #[.pointer (some ⟨mb, 0, none⟩), .pointer (some ⟨cb, 0, none⟩)]] 40)).heap[w3.heap.size]? = some (.cells #[.func (.func 58) #[] #[.pointer (some ⟨mb, 0, none⟩), .pointer (some ⟨cb, 0, none⟩)], .func (.func 60) #[] #[.pointer (some ⟨mb, 0, none⟩), .pointer (some ⟨cb, 0, none⟩)]] 40) := heap_alloc_new w3 _
  have g4 : w3.heap.size < (w3.alloc (.cells #[.func (.func 58) #[] #[.pointer (some ⟨mb, 0, none⟩), .pointer (some ⟨cb, 0, none⟩)], .func (.func 60) #[] #[.pointer (some ⟨mb, 0, none⟩), .pointer (some ⟨cb, 0, none⟩)]] 40)).heap.size := by simp
  generalize w3.alloc (.cells #[.func (.func 58) #[] #[.pointer (some ⟨mb, 0, none⟩), .pointer (some ⟨cb, 0, none⟩)], .func (.func 60) #[] #[.pointer (some ⟨mb, 0, none⟩), .pointer (some ⟨cb, 0, none⟩)]] 40) = w4 at *
  have bb4 := on (on (on b1 b2) b3) b4
  have c4 := c3.below b4
  have l4 := (hli.below bb4).low
  generalize w3.heap.size = cv at *
  clear b1 b2 b3 b4 c3
  have k0 := cell_of_heap q4 0
  have k1 := cell_of_heap q4 1
  have hp0 : ∀ o, w4.heap.size ≤ (w4.alloc o).drew.heap.size := fun o => by simp
  have hm1 : Hid (0 + l.length ≤ maxLen) := by show _ ≤ maxLen; unfold maxLen; omega
  have hm2 : Hid ((0 + l.length) * 8 ≤ 140737488355328) := by show _ ≤ _; omega
  have hbd : ∀ o, Below w4.heap.size w4 (w4.alloc o).drew := fun o => ((Below.refl _ _).alloc (Nat.le_refl _) _).drew
  go_region_law (first
    | (refine step_append_vals int_one1 info3g rfl Try.underlying22 rfl (.tmp 26) (.tmp 27) rfl w4.heap.size _ 0 [] rfl (row_empty w4 3) _ l rfl (Vals.below l4 (hbd _)) hm1.out hm2.out (hp0 _) ?_; intro v5 w5 ho5 hg5 hl5; obtain ⟨b5, l5⟩ := app_done int_one1 (hbd _) ho5 hg5; obtain ⟨hcc, hff⟩ := bcell b5; clear ho5 hg5 hl5)
    | (refine step_call2 rfl 17 (.tmp 25) (.tmp 28) #[40, 22] rfl ent17 (.agg #[.func (.func 58) #[] #[.pointer (some ⟨mb, 0, none⟩), .pointer (some ⟨cb, 0, none⟩)], .func (.func 60) #[] #[.pointer (some ⟨mb, 0, none⟩), .pointer (some ⟨cb, 0, none⟩)]]) v5 rfl rfl ?_; refine (encodeNs _ _ _ mb cb 500 _ l (c4.below b5) l5.isI HL.out).mono ?_; rintro e w6 ⟨he6, b6⟩; rw [HE.out] at he6; refine ⟨_, he6, ?_⟩))
  all_goals
    clear hcc hff
    have bb6 := on (on bb4 b5) b6
    have c6 := (c4.below b5).below b6
    have b46 := b5.trans (b6.mono b5.size)
    obtain ⟨hcc, hff⟩ := bcell b46
    go_wp2_with fail
    clear c4 b5 l5 b6 he6 bb4
    have c6d : ListC w6.drew mb cb 500 (.func (.func 54) #[] #[]) (.func (.func 55) #[] #[]) := c6
    have bd6 : Below w6.heap.size w6 w6.drew := (Below.refl _ _).drew
    have hs8 : ((s.extract 0 k).size : Int) ≤ 1099511627776 := by rw [ByteArray.size_extract]; omega
    have hks2 : (k : Int) ≤ s.size := by omega
    have hks3 : k ≤ s.size := by omega
    have H8 : Hid (((s.extract 0 k).size : Int) ≤ 1099511627776) := hs8
    clear hs8
    go_region_law (refine step_call2 rfl 26 (.tmp 45) (.tmp 48) #[40, 9] rfl ent26 (.agg #[.func (.func 58) #[] #[.pointer (some ⟨mb, 0, none⟩), .pointer (some ⟨cb, 0, none⟩)], .func (.func 60) #[] #[.pointer (some ⟨mb, 0, none⟩), .pointer (some ⟨cb, 0, none⟩)]]) (.string (s.extract 0 k)) rfl rfl ?_; refine (decodeNs' w6.drew _ _ mb cb 500 _ H8.out c6d).mono ?_; intro e w7 hd7; unfold decoded at hd7; rw [HD1.out] at hd7; obtain ⟨he7, b7⟩ := hd7; refine ⟨_, he7, ?_⟩)
  all_goals
    have bb7 := on bb6 (bd6.trans b7)
    have c7 := c6d.below b7
    clear hcc hff he7 c6 c6d
    obtain ⟨hcc, hff⟩ := bcell (B := w4.heap.size) ((b46.drew).trans (b7.mono b46.size))
    go_wp2_with fail
    refine (decodeNs' _ _ _ mb cb 500 _ hs40 c7).mono ?_
    intro e w8 hd8
    unfold decoded at hd8
    rw [HD2.out] at hd8
    obtain ⟨⟨v8, rfl, hr8⟩, b8⟩ := hd8
    have bb8 := on bb7 b8
    have i8 := hr8.ints
    rw [← HL2.out] at i8
    have i9 := hli.below bb8
    clear hcc hff
    go_wp2_with fail
    refine (ints_any i8 i9).mono ?_
    rintro e w9 ⟨rfl, n9, rfl⟩
    go_wp2_with fail
    go_ret
    exact ⟨by simp, below_drewN bb8 n9⟩

end Go.Proofs.Ytjajgllkbchapaa
