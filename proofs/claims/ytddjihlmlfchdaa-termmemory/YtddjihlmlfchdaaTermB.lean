/-
  What the store takes for a term: isPub and fits.
-/
import Derived.Test.YtddjihlmlfchdaaTermA
import Derived.Test.YtddjihlmlfchdaaKeys
import Derived.BigGuardPart
namespace Go.Proofs.Ytddjihlmlfchdaa
open Go.RowKit
set_option linter.unusedSimpArgs false
set_option linter.unusedVariables false

def emptyB (l : ByteArray) : Bool := l.toList.isEmpty

theorem node_parts {w : World} {s : Nat} {ns : List Nd} {dr : Int} (h : StoreAt w s ns dr) (t : Int) {k a b : Int} {l : ByteArray} (hn : nodeF ns t = ⟨k, l, a, b⟩) :
    Calls Try.prog 30 #[.pointer (some ⟨s, 0, none⟩), .int .i64 t] w fun e w' => e = .returned (.agg #[.int .i64 k, .string l, .int .i64 a, .int .i64 b]) ∧ Below w.heap.size w w' := by
  have := node_any h t
  rw [hn] at this
  exact this

set_option maxHeartbeats 400000 in
theorem isPub_any {w : World} {s : Nat} {ns : List Nd} {dr : Int} (h : StoreAt w s ns dr) (pub sec : Int) :
    Calls Try.prog 33 #[.pointer (some ⟨s, 0, none⟩), .int .i64 pub, .int .i64 sec] w fun e w' => e = .returned (.bool ((nodeF ns pub).beq ⟨6, ⟨#[]⟩, sec, 0⟩)) ∧ Below w.heap.size w w' := by
  obtain ⟨k, l, a, b, hn⟩ : ∃ k l a b, nodeF ns pub = ⟨k, l, a, b⟩ := ⟨_, _, _, _, rfl⟩
  have Hn : Hid (nodeF ns pub = ⟨k, l, a, b⟩) := hn
  rw [hn]
  clear hn
  have hq := fun wx => run_equal27 wx ⟨k, l, a, b⟩ ⟨6, ⟨#[]⟩, sec, 0⟩ 9998
  generalize hbq : Nd.beq ⟨k, l, a, b⟩ ⟨6, ⟨#[]⟩, sec, 0⟩ = bq at *
  clear hbq
  simp only [Nd.val] at hq
  have hm := guard27
  go_enter Try.func33, Try.ntmps33
  go_wp2_with (go_at_call 30; refine (node_parts h _ Hn.out).mono ?_; rintro e w' ⟨rfl, hb⟩)
  go_ret
  exact ⟨rfl, hb⟩

theorem field27_0 (w : World) (k a b : Int) (l : ByteArray) : (Instr.field 27 (.agg #[.int .i64 k, .string l, .int .i64 a, .int .i64 b]) 0).run Try.prog w = .ok (.int .i64 k) w := by
  simp [Instr.field, run_underlying Try.underlying27, go_sem, part, asAgg]

theorem dec_false {p : Prop} [Decidable p] (h : ¬ p) : decide p = false := by simpa using h

set_option maxHeartbeats 400000 in
theorem fits_1 {w : World} {s : Nat} {ns : List Nd} {dr : Int} (h : StoreAt w s ns dr) (l : ByteArray) (a b : Int) :
    Calls Try.prog 28 #[.pointer (some ⟨s, 0, none⟩), .agg #[.int .i64 1, .string l, .int .i64 a, .int .i64 b]] w fun e w' => e = .returned (.bool (emptyB l && (decide (1 ≤ a) && (decide (a ≤ 1099511627776) && b == 0)))) ∧ Below w.heap.size w w' := by
  go_enter Try.func28, Try.ntmps28
  go_wp2
  all_goals go_ret
  all_goals refine ⟨?_, (Below.refl _ _).alloc (Nat.le_refl _) _⟩
  all_goals simp [emptyB, *]
  all_goals omega

set_option maxHeartbeats 400000 in
theorem fits_2 {w : World} {s : Nat} {ns : List Nd} {dr : Int} (h : StoreAt w s ns dr) (l : ByteArray) (a b : Int) :
    Calls Try.prog 28 #[.pointer (some ⟨s, 0, none⟩), .agg #[.int .i64 2, .string l, .int .i64 a, .int .i64 b]] w fun e w' => e = .returned (.bool (decide (l.size ≤ 1024) && (a == 0 && b == 0))) ∧ Below w.heap.size w w' := by
  go_enter Try.func28, Try.ntmps28
  go_wp2
  all_goals go_ret
  all_goals refine ⟨?_, (Below.refl _ _).alloc (Nat.le_refl _) _⟩
  all_goals simp [emptyB, *]
  all_goals omega

set_option maxHeartbeats 400000 in
theorem fits_4 {w : World} {s : Nat} {ns : List Nd} {dr : Int} (h : StoreAt w s ns dr) (l : ByteArray) (a b : Int) :
    Calls Try.prog 28 #[.pointer (some ⟨s, 0, none⟩), .agg #[.int .i64 4, .string l, .int .i64 a, .int .i64 b]] w fun e w' => e = .returned (.bool (decide (l.size ≤ 32) && (hasB ns a && b == 0))) ∧ Below w.heap.size w w' := by
  have hb1 : ∀ o, StoreAt (w.alloc o) s ns dr := fun o => h.below ((Below.refl _ _).alloc (Nat.le_refl _) _)
  go_enter Try.func28, Try.ntmps28
  go_wp2_with (go_at_call 31; refine (has_any (hb1 _) _).mono ?_; rintro e w' ⟨rfl, rfl⟩)
  all_goals go_ret
  all_goals refine ⟨?_, (Below.refl _ _).alloc (Nat.le_refl _) _⟩
  all_goals simp [emptyB, *]
  all_goals omega

set_option maxHeartbeats 400000 in
theorem fits_8 {w : World} {s : Nat} {ns : List Nd} {dr : Int} (h : StoreAt w s ns dr) (l : ByteArray) (a b : Int) :
    Calls Try.prog 28 #[.pointer (some ⟨s, 0, none⟩), .agg #[.int .i64 8, .string l, .int .i64 a, .int .i64 b]] w fun e w' => e = .returned (.bool (emptyB l && ((nodeF ns a).kind == 6 && hasB ns b))) ∧ Below w.heap.size w w' := by
  obtain ⟨k1, l1, a1, b1, hn⟩ : ∃ k l x y, nodeF ns a = ⟨k, l, x, y⟩ := ⟨_, _, _, _, rfl⟩
  have hb1 : ∀ o, StoreAt (w.alloc o) s ns dr := fun o => h.below ((Below.refl _ _).alloc (Nat.le_refl _) _)
  have hB : ∀ o, Below w.heap.size w (w.alloc o) := fun o => (Below.refl _ _).alloc (Nat.le_refl _) _
  have Hn : Hid (nodeF ns a = ⟨k1, l1, a1, b1⟩) := hn
  have hfld := fun wx => field27_0 wx k1 a1 b1 l1
  rw [hn]
  clear hn
  go_enter Try.func28, Try.ntmps28
  go_wp2_with (first
    | (go_at_call 30; refine (node_parts (hb1 _) _ Hn.out).mono ?_; rintro e w1 ⟨rfl, hb2⟩; obtain ⟨hcc, hff⟩ := bcell hb2; have hz := hb2.size; simp at hz hcc hff)
    | (go_at_call 31; refine (has_any ((hb1 _).below hb2) _).mono ?_; rintro e w' ⟨rfl, rfl⟩))
  all_goals go_ret
  all_goals refine ⟨?_, ?_⟩
  all_goals first | exact (hB _).trans (hb2.mono (by simp)) | exact hB _ | simp [emptyB, *]

set_option maxHeartbeats 400000 in
theorem fits_5 {w : World} {s : Nat} {ns : List Nd} {dr : Int} (h : StoreAt w s ns dr) (l : ByteArray) (a b : Int) :
    Calls Try.prog 28 #[.pointer (some ⟨s, 0, none⟩), .agg #[.int .i64 5, .string l, .int .i64 a, .int .i64 b]] w fun e w' => e = .returned (.bool (decide (l.size ≤ 32) && (hasB ns a && hasB ns b))) ∧ Below w.heap.size w w' := by
  have hb1 : ∀ o, StoreAt (w.alloc o) s ns dr := fun o => h.below ((Below.refl _ _).alloc (Nat.le_refl _) _)
  go_enter Try.func28, Try.ntmps28
  go_wp2_with (go_at_call 31; refine (has_any (hb1 _) _).mono ?_; rintro e w' ⟨rfl, rfl⟩)
  all_goals go_ret
  all_goals refine ⟨?_, (Below.refl _ _).alloc (Nat.le_refl _) _⟩
  all_goals simp [emptyB, *]
  all_goals omega

set_option maxHeartbeats 400000 in
theorem fits_6 {w : World} {s : Nat} {ns : List Nd} {dr : Int} (h : StoreAt w s ns dr) (l : ByteArray) (a b : Int) :
    Calls Try.prog 28 #[.pointer (some ⟨s, 0, none⟩), .agg #[.int .i64 6, .string l, .int .i64 a, .int .i64 b]] w fun e w' => e = .returned (.bool (emptyB l && (hasB ns a && b == 0))) ∧ Below w.heap.size w w' := by
  have hb1 : ∀ o, StoreAt (w.alloc o) s ns dr := fun o => h.below ((Below.refl _ _).alloc (Nat.le_refl _) _)
  go_enter Try.func28, Try.ntmps28
  go_wp2_with (go_at_call 31; refine (has_any (hb1 _) _).mono ?_; rintro e w' ⟨rfl, rfl⟩)
  all_goals go_ret
  all_goals refine ⟨?_, (Below.refl _ _).alloc (Nat.le_refl _) _⟩
  all_goals simp [emptyB, *]
  all_goals omega

set_option maxHeartbeats 400000 in
theorem fits_3 {w : World} {s : Nat} {ns : List Nd} {dr : Int} (h : StoreAt w s ns dr) (l : ByteArray) (a b : Int) :
    Calls Try.prog 28 #[.pointer (some ⟨s, 0, none⟩), .agg #[.int .i64 3, .string l, .int .i64 a, .int .i64 b]] w fun e w' => e = .returned (.bool (emptyB l && (hasB ns a && hasB ns b))) ∧ Below w.heap.size w w' := by
  have hb1 : ∀ o, StoreAt (w.alloc o) s ns dr := fun o => h.below ((Below.refl _ _).alloc (Nat.le_refl _) _)
  go_enter Try.func28, Try.ntmps28
  go_wp2_with (go_at_call 31; refine (has_any (hb1 _) _).mono ?_; rintro e w' ⟨rfl, rfl⟩)
  all_goals go_ret
  all_goals refine ⟨?_, (Below.refl _ _).alloc (Nat.le_refl _) _⟩
  all_goals simp [emptyB, *]
  all_goals omega

set_option maxHeartbeats 400000 in
theorem fits_7 {w : World} {s : Nat} {ns : List Nd} {dr : Int} (h : StoreAt w s ns dr) (l : ByteArray) (a b : Int) :
    Calls Try.prog 28 #[.pointer (some ⟨s, 0, none⟩), .agg #[.int .i64 7, .string l, .int .i64 a, .int .i64 b]] w fun e w' => e = .returned (.bool (emptyB l && (hasB ns a && hasB ns b))) ∧ Below w.heap.size w w' := by
  have hb1 : ∀ o, StoreAt (w.alloc o) s ns dr := fun o => h.below ((Below.refl _ _).alloc (Nat.le_refl _) _)
  go_enter Try.func28, Try.ntmps28
  go_wp2_with (go_at_call 31; refine (has_any (hb1 _) _).mono ?_; rintro e w' ⟨rfl, rfl⟩)
  all_goals go_ret
  all_goals refine ⟨?_, (Below.refl _ _).alloc (Nat.le_refl _) _⟩
  all_goals simp [emptyB, *]
  all_goals omega

set_option maxHeartbeats 400000 in
theorem fits_9 {w : World} {s : Nat} {ns : List Nd} {dr : Int} (h : StoreAt w s ns dr) (l : ByteArray) (a b : Int) :
    Calls Try.prog 28 #[.pointer (some ⟨s, 0, none⟩), .agg #[.int .i64 9, .string l, .int .i64 a, .int .i64 b]] w fun e w' => e = .returned (.bool (emptyB l && (hasB ns a && hasB ns b))) ∧ Below w.heap.size w w' := by
  have hb1 : ∀ o, StoreAt (w.alloc o) s ns dr := fun o => h.below ((Below.refl _ _).alloc (Nat.le_refl _) _)
  go_enter Try.func28, Try.ntmps28
  go_wp2_with (go_at_call 31; refine (has_any (hb1 _) _).mono ?_; rintro e w' ⟨rfl, rfl⟩)
  all_goals go_ret
  all_goals refine ⟨?_, (Below.refl _ _).alloc (Nat.le_refl _) _⟩
  all_goals simp [emptyB, *]
  all_goals omega

set_option maxHeartbeats 400000 in
theorem fits_0 {w : World} {s : Nat} {ns : List Nd} {dr : Int} (h : StoreAt w s ns dr) (k : Int) (l : ByteArray) (a b : Int) (hk : k < 1 ∨ 9 < k) :
    Calls Try.prog 28 #[.pointer (some ⟨s, 0, none⟩), .agg #[.int .i64 k, .string l, .int .i64 a, .int .i64 b]] w fun e w' => e = .returned (.bool false) ∧ Below w.heap.size w w' := by
  have k1 : (k == 1) = false := beq_eq_false_iff_ne.2 (by omega)
  have k2 : (k == 2) = false := beq_eq_false_iff_ne.2 (by omega)
  have k3 : (k == 3) = false := beq_eq_false_iff_ne.2 (by omega)
  have k4 : (k == 4) = false := beq_eq_false_iff_ne.2 (by omega)
  have k5 : (k == 5) = false := beq_eq_false_iff_ne.2 (by omega)
  have k6 : (k == 6) = false := beq_eq_false_iff_ne.2 (by omega)
  have k7 : (k == 7) = false := beq_eq_false_iff_ne.2 (by omega)
  have k8 : (k == 8) = false := beq_eq_false_iff_ne.2 (by omega)
  have k9 : (k == 9) = false := beq_eq_false_iff_ne.2 (by omega)
  go_enter Try.func28, Try.ntmps28
  go_wp2
  all_goals go_ret
  exact ⟨rfl, (Below.refl _ _).alloc (Nat.le_refl _) _⟩

/-- What the store takes for a term. -/
def fitsB (ns : List Nd) (n : Nd) : Bool :=
  if n.kind = 1 then emptyB n.label && (decide (1 ≤ n.a) && (decide (n.a ≤ 1099511627776) && n.b == 0))
  else if n.kind = 2 then decide (n.label.size ≤ 1024) && (n.a == 0 && n.b == 0)
  else if n.kind = 3 then emptyB n.label && (hasB ns n.a && hasB ns n.b)
  else if n.kind = 4 then decide (n.label.size ≤ 32) && (hasB ns n.a && n.b == 0)
  else if n.kind = 5 then decide (n.label.size ≤ 32) && (hasB ns n.a && hasB ns n.b)
  else if n.kind = 6 then emptyB n.label && (hasB ns n.a && n.b == 0)
  else if n.kind = 7 then emptyB n.label && (hasB ns n.a && hasB ns n.b)
  else if n.kind = 8 then emptyB n.label && ((nodeF ns n.a).kind == 6 && hasB ns n.b)
  else if n.kind = 9 then emptyB n.label && (hasB ns n.a && hasB ns n.b)
  else false

theorem fits_any {w : World} {s : Nat} {ns : List Nd} {dr : Int} (h : StoreAt w s ns dr) (n : Nd) :
    Calls Try.prog 28 #[.pointer (some ⟨s, 0, none⟩), .agg #[.int .i64 n.kind, .string n.label, .int .i64 n.a, .int .i64 n.b]] w fun e w' => e = .returned (.bool (fitsB ns n)) ∧ Below w.heap.size w w' := by
  obtain ⟨k, l, a, b⟩ := n
  unfold fitsB
  simp only
  by_cases h1 : k = 1
  · subst h1; rw [if_pos rfl]; exact fits_1 h l a b
  rw [if_neg h1]
  by_cases h2 : k = 2
  · subst h2; rw [if_pos rfl]; exact fits_2 h l a b
  rw [if_neg h2]
  by_cases h3 : k = 3
  · subst h3; rw [if_pos rfl]; exact fits_3 h l a b
  rw [if_neg h3]
  by_cases h4 : k = 4
  · subst h4; rw [if_pos rfl]; exact fits_4 h l a b
  rw [if_neg h4]
  by_cases h5 : k = 5
  · subst h5; rw [if_pos rfl]; exact fits_5 h l a b
  rw [if_neg h5]
  by_cases h6 : k = 6
  · subst h6; rw [if_pos rfl]; exact fits_6 h l a b
  rw [if_neg h6]
  by_cases h7 : k = 7
  · subst h7; rw [if_pos rfl]; exact fits_7 h l a b
  rw [if_neg h7]
  by_cases h8 : k = 8
  · subst h8; rw [if_pos rfl]; exact fits_8 h l a b
  rw [if_neg h8]
  by_cases h9 : k = 9
  · subst h9; rw [if_pos rfl]; exact fits_9 h l a b
  rw [if_neg h9]
  exact fits_0 h k l a b (by omega)

end Go.Proofs.Ytddjihlmlfchdaa
