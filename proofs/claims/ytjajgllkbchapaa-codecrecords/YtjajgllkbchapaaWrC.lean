/-
  The Writer's count and text; how a flag and a text are written.
-/
import Derived.Test.YtjajgllkbchapaaWrB
namespace Go.Proofs.Ytjajgllkbchapaa
open Go.RowKit
set_option linter.unusedSimpArgs false
set_option linter.unusedVariables false

set_option maxHeartbeats 400000 in
theorem count_big {w : World} {p : Nat} {bs : List UInt8} (h : WAt w p bs 0) (n most : Int) (hn : most < n) :
    Calls Try.prog 59 #[.pointer (some ⟨p, 0, none⟩), .int .i64 n, .int .i64 most] w fun e w' => e = .returned (.tuple #[]) ∧ WAt w' p bs 22 ∧ WFr p w w' := by
  obtain ⟨a, c, c0, c1, cf, hrow, hlt, hne⟩ := h.cells
  have hf := h.fail 22
  have hw := (WFr.refl p w).setP (o := 1) (.int .i64 22)
  go_enter Try.func59, Try.ntmps59
  go_wp2_with (go_at_call 54; refine (number_err hf (by decide) _).mono ?_; rintro e w' ⟨rfl, hw'⟩; subst hw')
  go_end0
  exact ⟨rfl, hf, hw⟩

set_option maxHeartbeats 400000 in
theorem count_ok {w : World} {p : Nat} {bs : List UInt8} (h : WAt w p bs 0) (n : Nat) (most : Int) (hn : (n : Int) ≤ most) (h62 : n < 4611686018427387904) (hl : (bs.length : Int) ≤ 1099511627776) :
    Calls Try.prog 59 #[.pointer (some ⟨p, 0, none⟩), .int .i64 n, .int .i64 most] w fun e w' => e = .returned (.tuple #[]) ∧ WAt w' p (bs ++ enc n) 0 ∧ WFr p w w' := by
  obtain ⟨a, c, c0, c1, cf, hrow, hlt, hne⟩ := h.cells
  have H62 : Hid (n < 4611686018427387904) := h62
  have hd : ¬ most < (n : Int) := by omega
  clear h62
  go_enter Try.func59, Try.ntmps59
  go_wp2_with (go_at_call 54; refine (number_ok h n H62.out hl).mono ?_; rintro e w' ⟨rfl, hw'⟩)
  go_end0
  exact ⟨rfl, hw'⟩

set_option maxHeartbeats 400000 in
theorem text_err {w : World} {p : Nat} {bs : List UInt8} {er : Int} (h : WAt w p bs er) (he : (er == 0) = false) (s : ByteArray) :
    Calls Try.prog 69 #[.pointer (some ⟨p, 0, none⟩), .string s] w fun e w' => e = .returned (.tuple #[]) ∧ w' = w := by
  obtain ⟨a, c, c0, c1, cf, hrow, hlt, hne⟩ := h.cells
  go_enter Try.func69, Try.ntmps69
  go_wp2_with fail
  go_end0
  exact ⟨rfl, rfl⟩

theorem strCells_byte (s : ByteArray) : Lib.strCells s = Lib.byteCells s.data.toList := rfl

set_option maxRecDepth 100000 in
set_option maxHeartbeats 400000 in
theorem text_ok {w : World} {p : Nat} {bs : List UInt8} (h : WAt w p bs 0) (s : ByteArray) (hs : (s.size : Int) ≤ 1099511627776) (hl : (bs.length : Int) ≤ 1099511627784) :
    Calls Try.prog 69 #[.pointer (some ⟨p, 0, none⟩), .string s] w fun e w' => e = .returned (.tuple #[]) ∧ WAt w' p (bs ++ s.data.toList) 0 ∧ WFr p w w' := by
  obtain ⟨a, c, c0, c1, cf, hrow, hlt, hne⟩ := h.cells
  obtain ⟨i0, hi, hz0, hz1, hz2⟩ := info_parts info5
  have hm1 : Hid (bs.length + s.size ≤ maxLen) := by show _ ≤ maxLen; unfold maxLen; omega
  have hm2 : Hid (bs.length + s.size ≤ 140737488355328) := by show _ ≤ _; omega
  have hp0 : p ≤ w.heap.size := by omega
  have hss : s.data.toList.length = s.size := rfl
  go_enter Try.func69, Try.ntmps69
  go_wp2_with (refine Lib.wpList_append_own_string w rfl (.tmp 13) (.tmp 14) 24 9 rfl p 5 i0 Try.underlying24 Try.underlying9 hi hz0 hz1 hz2 (.slice a bs.length c) bs.length (Lib.byteCells bs) rfl hrow s rfl hm1.out hm2.out hp0 ?_; intro v' w' hown hgrow hnil; obtain ⟨a2, c2, hv2⟩ := ownsRow_form hown; subst hv2; obtain ⟨hcc, hff⟩ := gcell hgrow hlt (Ne.symm hne))
  go_end0
  obtain ⟨p1, p2⟩ := h.pushed (k := s.size) (news := s.data.toList) c0 (Below.refl _ _) hown hss hgrow
  exact ⟨rfl, p1, p2⟩

set_option maxHeartbeats 400000 in
/-- How a flag is written. -/
theorem putFlag {w : World} {p : Nat} {bs : List UInt8} (h : WAt w p bs 0) (v : Bool) (hl : (bs.length : Int) ≤ 1099511627776) :
    Calls Try.prog 65 #[.pointer (some ⟨p, 0, none⟩), .bool v] w fun e w' => e = .returned (.tuple #[]) ∧ WAt w' p (bs ++ enc v.toNat) 0 ∧ WFr p w w' := by
  cases v
  · go_enter Try.func65, Try.ntmps65
    go_wp2_with (go_at_call 54; refine (number_ok h 0 (by decide) hl).mono ?_; rintro e w' ⟨rfl, hw'⟩)
    go_end0
    exact ⟨rfl, hw'⟩
  · go_enter Try.func65, Try.ntmps65
    go_wp2_with (go_at_call 54; refine (number_ok h 1 (by decide) hl).mono ?_; rintro e w' ⟨rfl, hw'⟩)
    go_end0
    exact ⟨rfl, hw'⟩

set_option maxHeartbeats 400000 in
/-- How a text is written: mb is where its bound lies. -/
theorem putText_big {w : World} {p mb : Nat} {bs : List UInt8} (h : WAt w p bs 0) (most : Int) (hm : w.cell? ⟨mb, 0, none⟩ = some (.int .i64 most)) (s : ByteArray) (hs : most < (s.size : Int)) :
    Calls Try.prog 68 #[.pointer (some ⟨p, 0, none⟩), .string s, .pointer (some ⟨mb, 0, none⟩)] w fun e w' => e = .returned (.tuple #[]) ∧ WAt w' p bs 22 ∧ WFr p w w' := by
  go_enter Try.func68, Try.ntmps68
  go_wp2_with (first
    | (go_at_call 59; refine (count_big h _ _ hs).mono ?_; rintro e w1 ⟨rfl, hw1, hf1⟩)
    | (go_at_call 69; refine (text_err hw1 (by decide) _).mono ?_; rintro e w2 ⟨rfl, hw2⟩; subst hw2))
  go_end0
  exact ⟨rfl, hw1, hf1⟩

set_option maxHeartbeats 400000 in
theorem putText_ok {w : World} {p mb : Nat} {bs : List UInt8} (h : WAt w p bs 0) (most : Int) (hm : w.cell? ⟨mb, 0, none⟩ = some (.int .i64 most)) (s : ByteArray) (hs : (s.size : Int) ≤ most) (h40 : (s.size : Int) ≤ 1099511627776) (hl : (bs.length : Int) ≤ 1099511627776) :
    Calls Try.prog 68 #[.pointer (some ⟨p, 0, none⟩), .string s, .pointer (some ⟨mb, 0, none⟩)] w fun e w' => e = .returned (.tuple #[]) ∧ WAt w' p (bs ++ (enc s.size ++ s.data.toList)) 0 ∧ WFr p w w' := by
  have hE := enc_le s.size
  have hl2 : ((bs ++ enc s.size).length : Int) ≤ 1099511627784 := by rw [List.length_append]; omega
  have h62 : Hid (s.size < 4611686018427387904) := by show s.size < _; omega
  go_enter Try.func68, Try.ntmps68
  go_wp2_with (first
    | (go_at_call 59; refine (count_ok h _ _ hs h62.out hl).mono ?_; rintro e w1 ⟨rfl, hw1, hf1⟩)
    | (go_at_call 69; refine (text_ok hw1 _ h40 hl2).mono ?_; rintro e w2 ⟨rfl, hw2, hf2⟩))
  go_end0
  rw [← List.append_assoc]
  exact ⟨rfl, hw2, hf1.trans hf2⟩

end Go.Proofs.Ytjajgllkbchapaa
