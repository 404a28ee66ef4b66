/-
  The store: calls that read, what fits, strings.Clone.
-/
import Derived.Test.YtcfmagmhnemhaaaDoorMA
import Derived.BigGuardPart
import Derived.Lib.Strings
import Derived.Lib.Walk
import Derived.Lib.BufferWrite
import Derived.Lib.UnsafeStr
import Derived.Laws.MakeOwn
namespace Go.Proofs.YtcfmagmhnemhaaaDoor
open Go.RowKit
set_option linter.unusedSimpArgs false
set_option linter.unusedVariables false

set_option maxHeartbeats 400000 in
theorem has_raw (w : World) (s : Nat) (sl : Option Addr) (n c : Nat) (t : Int) (h0 : w.cell? ⟨s, 0, none⟩ = some (.slice sl n c)) :
    Calls Tryd.prog 47 #[.pointer (some ⟨s, 0, none⟩), .int .i64 t] w fun e w' => e = .returned (.bool (decide (1 ≤ t) && decide (t ≤ n))) ∧ w' = w := by
  by_cases h1 : 1 ≤ t
  · go_enter Tryd.func47, Tryd.ntmps47
    go_wp2
    go_ret
    exact ⟨by simp [h1], rfl⟩
  · have h1' : decide (1 ≤ t) = false := by simpa using h1
    go_enter Tryd.func47, Tryd.ntmps47
    go_wp2
    go_ret
    exact ⟨by simp [h1], rfl⟩

theorem has_any {w : World} {s : Nat} {ns : List Nd} {dr : Int} (h : StoreAt w s ns dr) (t : Int) :
    Calls Tryd.prog 47 #[.pointer (some ⟨s, 0, none⟩), .int .i64 t] w fun e w' => e = .returned (.bool (hasB ns t)) ∧ w' = w := by
  obtain ⟨sl, c, mb, h0, _⟩ := h
  exact has_raw w s sl ns.length c t (by rw [cell_of_heap h0]; rfl)

set_option maxHeartbeats 400000 in
theorem node_no {w : World} {s : Nat} {ns : List Nd} {dr : Int} (h : StoreAt w s ns dr) (t : Int) (ht : hasB ns t = false) :
    Calls Tryd.prog 54 #[.pointer (some ⟨s, 0, none⟩), .int .i64 t] w fun e w' => e = .returned Nd.zero.val ∧ Below w.heap.size w w' := by
  have hb1 : ∀ o, Below w.heap.size w (w.alloc o) := fun o => (Below.refl _ _).alloc (Nat.le_refl _) _
  go_enter Tryd.func54, Tryd.ntmps54
  go_wp2_with (go_at_call 47; refine (has_any (h.below (hb1 _)) _).mono ?_; rintro e w' ⟨rfl, rfl⟩)
  exact bodyPost_ret (v := Nd.zero.val) (by simp [results, Tryd.results54, go_sem, Nd.zero, Nd.val]) rfl ⟨rfl, (Below.refl _ _).alloc (Nat.le_refl _) _⟩

set_option maxHeartbeats 400000 in
theorem node_yes {w : World} {s : Nat} {ns : List Nd} {dr : Int} (h : StoreAt w s ns dr) (t : Int) (h1 : 1 ≤ t) (h2 : t ≤ ns.length) :
    Calls Tryd.prog 54 #[.pointer (some ⟨s, 0, none⟩), .int .i64 t] w fun e w' => e = .returned (ns.getD (t.toNat - 1) Nd.zero).val ∧ Below w.heap.size w w' := by
  have hb1 : ∀ o, Below w.heap.size w (w.alloc o) := fun o => (Below.refl _ _).alloc (Nat.le_refl _) _
  have ht : hasB ns t = true := by simp [hasB]; omega
  have hst := h
  obtain ⟨sl, c, mb, h0, h3, h4, h5⟩ := h
  have hs : s < w.heap.size := hst.lt
  have c0 := cell_of_heap h0 0
  rcases h4.form with ⟨_, _, rfl⟩ | ⟨nb, rfl, hnb, hl, _⟩
  · simp at h2; omega
  obtain ⟨n0, n1, n2, n3⟩ := h4.cell (i := (t.toNat - 1)) (by omega)
  generalize ns.getD (t.toNat - 1) Nd.zero = n at *
  clear h0 h3 h4
  go_enter Tryd.func54, Tryd.ntmps54
  go_wp2_with (go_at_call 47; refine (has_any (hst.below (hb1 _)) _).mono ?_; rintro e w' ⟨rfl, rfl⟩)
  exact bodyPost_ret (v := n.val) (by simp [results, Tryd.results54, go_sem, Nd.val]) rfl ⟨rfl, (Below.refl _ _).alloc (Nat.le_refl _) _⟩

theorem node_any {w : World} {s : Nat} {ns : List Nd} {dr : Int} (h : StoreAt w s ns dr) (t : Int) :
    Calls Tryd.prog 54 #[.pointer (some ⟨s, 0, none⟩), .int .i64 t] w fun e w' => e = .returned (nodeF ns t).val ∧ Below w.heap.size w w' := by
  unfold nodeF
  by_cases ht : hasB ns t = true
  · rw [if_pos ht]
    simp only [hasB, Bool.and_eq_true, decide_eq_true_eq] at ht
    exact node_yes h t ht.1 ht.2
  · rw [if_neg ht]
    exact node_no h t (by simpa using ht)

def emptyB (l : ByteArray) : Bool := l.toList.isEmpty

theorem node_parts {w : World} {s : Nat} {ns : List Nd} {dr : Int} (h : StoreAt w s ns dr) (t : Int) {k a b : Int} {l : ByteArray} (hn : nodeF ns t = ⟨k, l, a, b⟩) :
    Calls Tryd.prog 54 #[.pointer (some ⟨s, 0, none⟩), .int .i64 t] w fun e w' => e = .returned (.agg #[.int .i64 k, .string l, .int .i64 a, .int .i64 b]) ∧ Below w.heap.size w w' := by
  have := node_any h t
  rw [hn] at this
  exact this

theorem field27_0 (w : World) (k a b : Int) (l : ByteArray) : (Instr.field 71 (.agg #[.int .i64 k, .string l, .int .i64 a, .int .i64 b]) 0).run Tryd.prog w = .ok (.int .i64 k) w := by
  simp [Instr.field, run_underlying Tryd.underlying71, go_sem, part, asAgg]

theorem dec_false1 {p : Prop} [Decidable p] (h : ¬ p) : decide p = false := by simpa using h

set_option maxHeartbeats 400000 in
theorem fits_1 {w : World} {s : Nat} {ns : List Nd} {dr : Int} (h : StoreAt w s ns dr) (l : ByteArray) (a b : Int) :
    Calls Tryd.prog 59 #[.pointer (some ⟨s, 0, none⟩), .agg #[.int .i64 1, .string l, .int .i64 a, .int .i64 b]] w fun e w' => e = .returned (.bool (emptyB l && (decide (1 ≤ a) && (decide (a ≤ 1099511627776) && b == 0)))) ∧ Below w.heap.size w w' := by
  go_enter Tryd.func59, Tryd.ntmps59
  go_wp2
  all_goals go_ret
  all_goals refine ⟨?_, (Below.refl _ _).alloc (Nat.le_refl _) _⟩
  all_goals simp [emptyB, *]
  all_goals omega

set_option maxHeartbeats 400000 in
theorem fits_2 {w : World} {s : Nat} {ns : List Nd} {dr : Int} (h : StoreAt w s ns dr) (l : ByteArray) (a b : Int) :
    Calls Tryd.prog 59 #[.pointer (some ⟨s, 0, none⟩), .agg #[.int .i64 2, .string l, .int .i64 a, .int .i64 b]] w fun e w' => e = .returned (.bool (decide (l.size ≤ 1024) && (a == 0 && b == 0))) ∧ Below w.heap.size w w' := by
  go_enter Tryd.func59, Tryd.ntmps59
  go_wp2
  all_goals go_ret
  all_goals refine ⟨?_, (Below.refl _ _).alloc (Nat.le_refl _) _⟩
  all_goals simp [emptyB, *]
  all_goals omega

set_option maxHeartbeats 400000 in
theorem fits_4 {w : World} {s : Nat} {ns : List Nd} {dr : Int} (h : StoreAt w s ns dr) (l : ByteArray) (a b : Int) :
    Calls Tryd.prog 59 #[.pointer (some ⟨s, 0, none⟩), .agg #[.int .i64 4, .string l, .int .i64 a, .int .i64 b]] w fun e w' => e = .returned (.bool (decide (l.size ≤ 32) && (hasB ns a && b == 0))) ∧ Below w.heap.size w w' := by
  have hb1 : ∀ o, StoreAt (w.alloc o) s ns dr := fun o => h.below ((Below.refl _ _).alloc (Nat.le_refl _) _)
  go_enter Tryd.func59, Tryd.ntmps59
  go_wp2_with (go_at_call 47; refine (has_any (hb1 _) _).mono ?_; rintro e w' ⟨rfl, rfl⟩)
  all_goals go_ret
  all_goals refine ⟨?_, (Below.refl _ _).alloc (Nat.le_refl _) _⟩
  all_goals simp [emptyB, *]
  all_goals omega

set_option maxHeartbeats 400000 in
theorem fits_8 {w : World} {s : Nat} {ns : List Nd} {dr : Int} (h : StoreAt w s ns dr) (l : ByteArray) (a b : Int) :
    Calls Tryd.prog 59 #[.pointer (some ⟨s, 0, none⟩), .agg #[.int .i64 8, .string l, .int .i64 a, .int .i64 b]] w fun e w' => e = .returned (.bool (emptyB l && ((nodeF ns a).kind == 6 && hasB ns b))) ∧ Below w.heap.size w w' := by
  obtain ⟨k1, l1, a1, b1, hn⟩ : ∃ k l x y, nodeF ns a = ⟨k, l, x, y⟩ := ⟨_, _, _, _, rfl⟩
  have hb1 : ∀ o, StoreAt (w.alloc o) s ns dr := fun o => h.below ((Below.refl _ _).alloc (Nat.le_refl _) _)
  have hB : ∀ o, Below w.heap.size w (w.alloc o) := fun o => (Below.refl _ _).alloc (Nat.le_refl _) _
  have Hn : Hid (nodeF ns a = ⟨k1, l1, a1, b1⟩) := hn
  have hfld := fun wx => field27_0 wx k1 a1 b1 l1
  rw [hn]
  clear hn
  go_enter Tryd.func59, Tryd.ntmps59
  go_wp2_with (first
    | (go_at_call 54; refine (node_parts (hb1 _) _ Hn.out).mono ?_; rintro e w1 ⟨rfl, hb2⟩; obtain ⟨hcc, hff⟩ := bcell hb2; have hz := hb2.size; simp at hz hcc hff)
    | (go_at_call 47; refine (has_any ((hb1 _).below hb2) _).mono ?_; rintro e w' ⟨rfl, rfl⟩))
  all_goals go_ret
  all_goals refine ⟨?_, ?_⟩
  all_goals first | exact (hB _).trans (hb2.mono (by simp)) | exact hB _ | simp [emptyB, *]

set_option maxHeartbeats 400000 in
theorem fits_5 {w : World} {s : Nat} {ns : List Nd} {dr : Int} (h : StoreAt w s ns dr) (l : ByteArray) (a b : Int) :
    Calls Tryd.prog 59 #[.pointer (some ⟨s, 0, none⟩), .agg #[.int .i64 5, .string l, .int .i64 a, .int .i64 b]] w fun e w' => e = .returned (.bool (decide (l.size ≤ 32) && (hasB ns a && hasB ns b))) ∧ Below w.heap.size w w' := by
  have hb1 : ∀ o, StoreAt (w.alloc o) s ns dr := fun o => h.below ((Below.refl _ _).alloc (Nat.le_refl _) _)
  go_enter Tryd.func59, Tryd.ntmps59
  go_wp2_with (go_at_call 47; refine (has_any (hb1 _) _).mono ?_; rintro e w' ⟨rfl, rfl⟩)
  all_goals go_ret
  all_goals refine ⟨?_, (Below.refl _ _).alloc (Nat.le_refl _) _⟩
  all_goals simp [emptyB, *]
  all_goals omega

set_option maxHeartbeats 400000 in
theorem fits_6 {w : World} {s : Nat} {ns : List Nd} {dr : Int} (h : StoreAt w s ns dr) (l : ByteArray) (a b : Int) :
    Calls Tryd.prog 59 #[.pointer (some ⟨s, 0, none⟩), .agg #[.int .i64 6, .string l, .int .i64 a, .int .i64 b]] w fun e w' => e = .returned (.bool (emptyB l && (hasB ns a && b == 0))) ∧ Below w.heap.size w w' := by
  have hb1 : ∀ o, StoreAt (w.alloc o) s ns dr := fun o => h.below ((Below.refl _ _).alloc (Nat.le_refl _) _)
  go_enter Tryd.func59, Tryd.ntmps59
  go_wp2_with (go_at_call 47; refine (has_any (hb1 _) _).mono ?_; rintro e w' ⟨rfl, rfl⟩)
  all_goals go_ret
  all_goals refine ⟨?_, (Below.refl _ _).alloc (Nat.le_refl _) _⟩
  all_goals simp [emptyB, *]
  all_goals omega

set_option maxHeartbeats 400000 in
theorem fits_3 {w : World} {s : Nat} {ns : List Nd} {dr : Int} (h : StoreAt w s ns dr) (l : ByteArray) (a b : Int) :
    Calls Tryd.prog 59 #[.pointer (some ⟨s, 0, none⟩), .agg #[.int .i64 3, .string l, .int .i64 a, .int .i64 b]] w fun e w' => e = .returned (.bool (emptyB l && (hasB ns a && hasB ns b))) ∧ Below w.heap.size w w' := by
  have hb1 : ∀ o, StoreAt (w.alloc o) s ns dr := fun o => h.below ((Below.refl _ _).alloc (Nat.le_refl _) _)
  go_enter Tryd.func59, Tryd.ntmps59
  go_wp2_with (go_at_call 47; refine (has_any (hb1 _) _).mono ?_; rintro e w' ⟨rfl, rfl⟩)
  all_goals go_ret
  all_goals refine ⟨?_, (Below.refl _ _).alloc (Nat.le_refl _) _⟩
  all_goals simp [emptyB, *]
  all_goals omega

set_option maxHeartbeats 400000 in
theorem fits_7 {w : World} {s : Nat} {ns : List Nd} {dr : Int} (h : StoreAt w s ns dr) (l : ByteArray) (a b : Int) :
    Calls Tryd.prog 59 #[.pointer (some ⟨s, 0, none⟩), .agg #[.int .i64 7, .string l, .int .i64 a, .int .i64 b]] w fun e w' => e = .returned (.bool (emptyB l && (hasB ns a && hasB ns b))) ∧ Below w.heap.size w w' := by
  have hb1 : ∀ o, StoreAt (w.alloc o) s ns dr := fun o => h.below ((Below.refl _ _).alloc (Nat.le_refl _) _)
  go_enter Tryd.func59, Tryd.ntmps59
  go_wp2_with (go_at_call 47; refine (has_any (hb1 _) _).mono ?_; rintro e w' ⟨rfl, rfl⟩)
  all_goals go_ret
  all_goals refine ⟨?_, (Below.refl _ _).alloc (Nat.le_refl _) _⟩
  all_goals simp [emptyB, *]
  all_goals omega

set_option maxHeartbeats 400000 in
theorem fits_9 {w : World} {s : Nat} {ns : List Nd} {dr : Int} (h : StoreAt w s ns dr) (l : ByteArray) (a b : Int) :
    Calls Tryd.prog 59 #[.pointer (some ⟨s, 0, none⟩), .agg #[.int .i64 9, .string l, .int .i64 a, .int .i64 b]] w fun e w' => e = .returned (.bool (emptyB l && (hasB ns a && hasB ns b))) ∧ Below w.heap.size w w' := by
  have hb1 : ∀ o, StoreAt (w.alloc o) s ns dr := fun o => h.below ((Below.refl _ _).alloc (Nat.le_refl _) _)
  go_enter Tryd.func59, Tryd.ntmps59
  go_wp2_with (go_at_call 47; refine (has_any (hb1 _) _).mono ?_; rintro e w' ⟨rfl, rfl⟩)
  all_goals go_ret
  all_goals refine ⟨?_, (Below.refl _ _).alloc (Nat.le_refl _) _⟩
  all_goals simp [emptyB, *]
  all_goals omega

set_option maxHeartbeats 400000 in
theorem fits_0 {w : World} {s : Nat} {ns : List Nd} {dr : Int} (h : StoreAt w s ns dr) (k : Int) (l : ByteArray) (a b : Int) (hk : k < 1 ∨ 9 < k) :
    Calls Tryd.prog 59 #[.pointer (some ⟨s, 0, none⟩), .agg #[.int .i64 k, .string l, .int .i64 a, .int .i64 b]] w fun e w' => e = .returned (.bool false) ∧ Below w.heap.size w w' := by
  have k1 : (k == 1) = false := beq_eq_false_iff_ne.2 (by omega)
  have k2 : (k == 2) = false := beq_eq_false_iff_ne.2 (by omega)
  have k3 : (k == 3) = false := beq_eq_false_iff_ne.2 (by omega)
  have k4 : (k == 4) = false := beq_eq_false_iff_ne.2 (by omega)
  have k5 : (k == 5) = false := beq_eq_false_iff_ne.2 (by omega)
  have k6 : (k == 6) = false := beq_eq_false_iff_ne.2 (by omega)
  have k7 : (k == 7) = false := beq_eq_false_iff_ne.2 (by omega)
  have k8 : (k == 8) = false := beq_eq_false_iff_ne.2 (by omega)
  have k9 : (k == 9) = false := beq_eq_false_iff_ne.2 (by omega)
  go_enter Tryd.func59, Tryd.ntmps59
  go_wp2
  all_goals go_ret
  exact ⟨rfl, (Below.refl _ _).alloc (Nat.le_refl _) _⟩

/-- What the store takes for a term. -/
def fitsB (ns : List Nd) (n : Nd) : Bool :=
  if n.kind = 1 then emptyB n.label && (decide (1 ≤ n.a) && (decide (n.a ≤ 1099511627776) && n.b == 0))
  else if n.kind = 2 then decide (n.label.size ≤ 1024) && (n.a == 0 && n.b == 0)
  else if n.kind = 3 then emptyB n.label && (hasB ns n.a && hasB ns n.b)
  else if n.kind = 4 then decide (n.label.size ≤ 32) && (hasB ns n.a && n.b == 0)
  else if n.kind = 5 then decide (n.label.size ≤ 32) && (hasB ns n.a && hasB ns n.b)
  else if n.kind = 6 then emptyB n.label && (hasB ns n.a && n.b == 0)
  else if n.kind = 7 then emptyB n.label && (hasB ns n.a && hasB ns n.b)
  else if n.kind = 8 then emptyB n.label && ((nodeF ns n.a).kind == 6 && hasB ns n.b)
  else if n.kind = 9 then emptyB n.label && (hasB ns n.a && hasB ns n.b)
  else false

theorem fits_any {w : World} {s : Nat} {ns : List Nd} {dr : Int} (h : StoreAt w s ns dr) (n : Nd) :
    Calls Tryd.prog 59 #[.pointer (some ⟨s, 0, none⟩), .agg #[.int .i64 n.kind, .string n.label, .int .i64 n.a, .int .i64 n.b]] w fun e w' => e = .returned (.bool (fitsB ns n)) ∧ Below w.heap.size w w' := by
  obtain ⟨k, l, a, b⟩ := n
  unfold fitsB
  simp only
  by_cases h1 : k = 1
  · subst h1; rw [if_pos rfl]; exact fits_1 h l a b
  rw [if_neg h1]
  by_cases h2 : k = 2
  · subst h2; rw [if_pos rfl]; exact fits_2 h l a b
  rw [if_neg h2]
  by_cases h3 : k = 3
  · subst h3; rw [if_pos rfl]; exact fits_3 h l a b
  rw [if_neg h3]
  by_cases h4 : k = 4
  · subst h4; rw [if_pos rfl]; exact fits_4 h l a b
  rw [if_neg h4]
  by_cases h5 : k = 5
  · subst h5; rw [if_pos rfl]; exact fits_5 h l a b
  rw [if_neg h5]
  by_cases h6 : k = 6
  · subst h6; rw [if_pos rfl]; exact fits_6 h l a b
  rw [if_neg h6]
  by_cases h7 : k = 7
  · subst h7; rw [if_pos rfl]; exact fits_7 h l a b
  rw [if_neg h7]
  by_cases h8 : k = 8
  · subst h8; rw [if_pos rfl]; exact fits_8 h l a b
  rw [if_neg h8]
  by_cases h9 : k = 9
  · subst h9; rw [if_pos rfl]; exact fits_9 h l a b
  rw [if_neg h9]
  exact fits_0 h k l a b (by omega)

theorem info5 : (Tryd.prog.info? 5).map (fun i => (i.zero, i.size, i.bytes)) = some (some (.int .u8 0), 1, 1) := by kernel_rfl

set_option maxHeartbeats 1000000 in
set_option maxRecDepth 100000 in
theorem clone_in (s : ByteArray) (w : World) (hlim : s.size ≤ 281474976710656) :
    Calls Tryd.prog 62 #[.string s] w fun e w' => e = .returned (.string s) ∧ Below w.heap.size w w' := by
  by_cases h0 : s.size = 0
  · have hs : s = ⟨#[]⟩ := by
      apply ByteArray.ext
      exact Array.eq_empty_of_size_eq_zero h0
    subst hs
    go_enter Tryd.func62, Tryd.ntmps62
    go_wp2
    go_ret
    exact ⟨rfl, Below.refl _ _⟩
  · obtain ⟨i0, hi, hz0, hz1, hz2⟩ := info_parts info5
    have hinfo : (Tryd.prog.info? 5).map (·.size) = some 1 := by rw [hi]; simp [hz1]
    have hco : Tryd.prog.cellsOf 5 = 1 := by simp [Program.cellsOf, hi, hz1]
    obtain ⟨M, hM⟩ : ∃ M, M = madeCells (Value.int .u8 0).cells (((s.size : Nat) : Int).toNat * i0.size) := ⟨_, rfl⟩
    have hMs : M.size = s.size := by rw [hM, size_madeCells, hz1]; simp
    have hmk : ∀ W : World, (Instr.makeSlice 93 (.int .i64 (s.size : Int)) (.int .i64 (s.size : Int))).run Tryd.prog W = .ok (.slice (some ⟨W.heap.size, 0, none⟩) s.size s.size) (W.alloc (.cells M 5)) := fun W => by
      have h := run_make (P := Tryd.prog) W 93 5 i0 (.int .u8 0) Tryd.underlying93 hi hz0 .i64 .i64 (s.size : Int) (s.size : Int) (by omega) (by omega) (by rw [hz2]; omega) (by omega)
      rw [← hM] at h
      simpa using h
    clear hM
    have hcp := Lib.run_copy_row_string (P := Tryd.prog) (w.alloc (.cells M 5)) 93 9 3 5 w.heap.size 0 s.size s.size s M 5 Tryd.underlying93 hinfo (heap_alloc_new w _) (Nat.le_refl _) (by omega)
    obtain ⟨Y, hY⟩ : ∃ Y, Y = (M.toList.take 0 ++ Lib.byteCells s.data.toList ++ M.toList.drop (0 + s.size)).toArray := ⟨_, rfl⟩
    rw [← hY] at hcp
    have hYl : Y.toList = Lib.byteCells s.data.toList := by
      rw [hY, List.toList_toArray, List.take_zero, List.nil_append, List.drop_of_length_le (by rw [Array.length_toList]; omega), List.append_nil]
    have hYs : Y.size = s.size := by rw [← Array.length_toList, hYl, Lib.byteCells_length, ← Lib.size_eq]
    have hgY : ((w.alloc (.cells M 5)).setRow w.heap.size Y).heap[w.heap.size]? = some (.cells Y 5 (0, 0)) := setRow_heap _ _ M _ 5 (0, 0) (heap_alloc_new w _)
    have hne : s.data.toList ≠ [] := fun e => h0 (by rw [Lib.size_eq, e]; rfl)
    have hUS := Lib.run_unsafeString_row (P := Tryd.prog) ((w.alloc (.cells M 5)).setRow w.heap.size Y) 103 3 9 5 Tryd.underlying103 hco w.heap.size Y.size (by unfold World.shape?; rw [hgY]) s.data.toList hne (by rw [← Lib.size_eq]; omega) (by rw [← Lib.size_eq]; omega)
      (fun j x hx => Lib.cells_of_row hgY Y.size j _ (by rw [List.take_of_length_le (by rw [Array.length_toList]; exact Nat.le_refl _), hYl]; simp [Lib.byteCells, hx]))
    rw [← Lib.size_eq] at hUS
    clear hY
    go_enter Tryd.func62, Tryd.ntmps62
    go_wp2
    go_ret
    have hb1 : Below w.heap.size w (w.alloc (.cells M 5)) := (Below.refl _ w).alloc (Nat.le_refl _) _
    have hb2 : Below w.heap.size (w.alloc (.cells M 5)) ((w.alloc (.cells M 5)).setRow w.heap.size Y) := ⟨rfl, rfl, rfl, by simp, fun k hk => setRow_other _ _ _ _ (by omega)⟩
    exact ⟨rfl, Lib.below_freeze (hb1.trans hb2) (p := ⟨w.heap.size, 0, none⟩) (Nat.le_refl _) _⟩

set_option maxHeartbeats 400000 in
theorem clone_str (s : ByteArray) (w : World) (hlim : s.size ≤ 281474976710656) :
    Calls Tryd.prog 60 #[.string s] w fun e w' => e = .returned (.string s) ∧ Below w.heap.size w w' := by
  go_enter Tryd.func60, Tryd.ntmps60
  go_wp2_with (go_at_call 62; refine (clone_in s _ hlim).mono ?_; rintro e w' ⟨rfl, hb⟩)
  go_ret
  exact ⟨rfl, hb⟩

end Go.Proofs.YtcfmagmhnemhaaaDoor
