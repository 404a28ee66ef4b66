/-
  Open, Unbox, Verify.
-/
import Derived.Test.YtddjihlmlfchdaaTermE
namespace Go.Proofs.Ytddjihlmlfchdaa
open Go.RowKit
set_option linter.unusedSimpArgs false
set_option linter.unusedVariables false

def openB (ns : List Nd) (key t : Int) : Bool := (nodeF ns t).kind == 7 && (nodeF ns t).a == key
def openF (ns : List Nd) (key t : Int) : Int := if openB ns key t then (nodeF ns t).b else 0

set_option maxHeartbeats 400000 in
theorem open_any {w : World} {s : Nat} {ns : List Nd} {dr : Int} (h : StoreAt w s ns dr) (key t : Int) :
    Calls Try.prog 21 #[.pointer (some ⟨s, 0, none⟩), .int .i64 key, .int .i64 t] w fun e w' => e = .returned (.tuple #[.int .i64 (openF ns key t), .bool (openB ns key t)]) ∧ Below w.heap.size w w' := by
  unfold openF openB
  obtain ⟨k, l, a, b, hn⟩ : ∃ k l a b, nodeF ns t = ⟨k, l, a, b⟩ := ⟨_, _, _, _, rfl⟩
  have Hn : Hid (nodeF ns t = ⟨k, l, a, b⟩) := hn
  rw [hn]
  clear hn
  simp only
  by_cases hk : k = 7
  · subst hk
    by_cases ha : a = key
    · subst ha
      simp only [BEq.rfl, Bool.and_true, if_true]
      go_enter Try.func21, Try.ntmps21
      go_wp2_with (go_at_call 30; refine (node_parts h _ Hn.out).mono ?_; rintro e w1 ⟨rfl, hb2⟩)
      all_goals go_ret2
      all_goals exact ⟨rfl, hb2.alloc hb2.size _⟩
    · have ha' : (a != key) = true := by simp [ha]
      have ha2 : (a == key) = false := by simp [ha]
      simp only [ha2, Bool.and_false, Bool.false_eq_true, if_false]
      go_enter Try.func21, Try.ntmps21
      go_wp2_with (go_at_call 30; refine (node_parts h _ Hn.out).mono ?_; rintro e w1 ⟨rfl, hb2⟩)
      all_goals go_ret2
      all_goals exact ⟨rfl, hb2.alloc hb2.size _⟩
  · have hk' : (k != 7) = true := by simp [hk]
    have hk2 : (k == 7) = false := by simp [hk]
    simp only [hk2, Bool.false_and, Bool.false_eq_true, if_false]
    go_enter Try.func21, Try.ntmps21
    go_wp2_with (go_at_call 30; refine (node_parts h _ Hn.out).mono ?_; rintro e w1 ⟨rfl, hb2⟩)
    all_goals go_ret2
    all_goals exact ⟨rfl, hb2.alloc hb2.size _⟩

def pubB (ns : List Nd) (pub sec : Int) : Bool := (nodeF ns pub).beq ⟨6, ⟨#[]⟩, sec, 0⟩
def unboxB (ns : List Nd) (sec t : Int) : Bool := (nodeF ns t).kind == 8 && pubB ns (nodeF ns t).a sec
def unboxF (ns : List Nd) (sec t : Int) : Int := if unboxB ns sec t then (nodeF ns t).b else 0

set_option maxHeartbeats 400000 in
theorem unbox_any {w : World} {s : Nat} {ns : List Nd} {dr : Int} (h : StoreAt w s ns dr) (sec t : Int) :
    Calls Try.prog 22 #[.pointer (some ⟨s, 0, none⟩), .int .i64 sec, .int .i64 t] w fun e w' => e = .returned (.tuple #[.int .i64 (unboxF ns sec t), .bool (unboxB ns sec t)]) ∧ Below w.heap.size w w' := by
  unfold unboxF unboxB
  obtain ⟨k, l, a, b, hn⟩ : ∃ k l a b, nodeF ns t = ⟨k, l, a, b⟩ := ⟨_, _, _, _, rfl⟩
  have Hn : Hid (nodeF ns t = ⟨k, l, a, b⟩) := hn
  rw [hn]
  clear hn
  simp only
  generalize hp : pubB ns a sec = p
  have Hp : Hid (pubB ns a sec = p) := hp
  clear hp
  have Hc : Hid (∀ wx, StoreAt wx s ns dr → Calls Try.prog 33 #[.pointer (some ⟨s, 0, none⟩), .int .i64 a, .int .i64 sec] wx fun e w' => e = .returned (.bool p) ∧ Below wx.heap.size wx w') := by
    intro wx hx
    have := isPub_any hx a sec
    have e := Hp.out
    unfold pubB at e
    rw [e] at this
    exact this
  by_cases hk : k = 8
  · subst hk
    go_enter Try.func22, Try.ntmps22
    go_wp2_with fail
    refine (node_parts h _ Hn.out).mono ?_
    rintro e w1 ⟨rfl, hb2⟩
    have hst : ∀ o, StoreAt (w1.alloc o) s ns dr := fun o => h.below (hb2.alloc hb2.size _)
    go_wp2_with fail
    refine (Hc.out _ (hst _)).mono ?_
    rintro e w2 ⟨rfl, hb3⟩
    obtain ⟨hcc, hff⟩ := bcell hb3
    have hz := hb3.size
    simp at hz hcc hff
    cases p
    all_goals go_wp2
    all_goals go_ret2
    all_goals exact ⟨by simp, (hb2.alloc hb2.size _).trans (hb3.mono (by have := hb2.size; simp; omega))⟩
  · have hk' : (k != 8) = true := by simp [hk]
    have hk2 : (k == 8) = false := by simp [hk]
    simp only [hk2, Bool.false_and, Bool.false_eq_true, if_false]
    go_enter Try.func22, Try.ntmps22
    go_wp2_with (go_at_call 30; refine (node_parts h _ Hn.out).mono ?_; rintro e w1 ⟨rfl, hb2⟩)
    all_goals go_ret2
    all_goals exact ⟨rfl, hb2.alloc hb2.size _⟩

def verifyB (ns : List Nd) (pub text sig : Int) : Bool := (nodeF ns sig).kind == 9 && ((nodeF ns sig).b == text && pubB ns pub (nodeF ns sig).a)

set_option maxHeartbeats 400000 in
theorem verify_any {w : World} {s : Nat} {ns : List Nd} {dr : Int} (h : StoreAt w s ns dr) (pub text sig : Int) :
    Calls Try.prog 23 #[.pointer (some ⟨s, 0, none⟩), .int .i64 pub, .int .i64 text, .int .i64 sig] w fun e w' => e = .returned (.bool (verifyB ns pub text sig)) ∧ Below w.heap.size w w' := by
  unfold verifyB
  obtain ⟨k, l, a, b, hn⟩ : ∃ k l a b, nodeF ns sig = ⟨k, l, a, b⟩ := ⟨_, _, _, _, rfl⟩
  have Hn : Hid (nodeF ns sig = ⟨k, l, a, b⟩) := hn
  rw [hn]
  clear hn
  simp only
  generalize hp : pubB ns pub a = p
  have Hp : Hid (pubB ns pub a = p) := hp
  clear hp
  have Hc : Hid (∀ wx, StoreAt wx s ns dr → Calls Try.prog 33 #[.pointer (some ⟨s, 0, none⟩), .int .i64 pub, .int .i64 a] wx fun e w' => e = .returned (.bool p) ∧ Below wx.heap.size wx w') := by
    intro wx hx
    have := isPub_any hx pub a
    have e := Hp.out
    unfold pubB at e
    rw [e] at this
    exact this
  go_enter Try.func23, Try.ntmps23
  go_wp2_with fail
  refine (node_parts h _ Hn.out).mono ?_
  rintro e w1 ⟨rfl, hb2⟩
  have hst : ∀ o, StoreAt (w1.alloc o) s ns dr := fun o => h.below (hb2.alloc hb2.size _)
  by_cases hk : k = 9
  · subst hk
    by_cases hb : b = text
    · subst hb
      go_wp2_with fail
      refine (Hc.out _ (hst _)).mono ?_
      rintro e w2 ⟨rfl, hb3⟩
      obtain ⟨hcc, hff⟩ := bcell hb3
      have hz := hb3.size
      simp at hz hcc hff
      go_wp2
      all_goals go_ret
      all_goals exact ⟨by simp, (hb2.alloc hb2.size _).trans (hb3.mono (by have := hb2.size; simp; omega))⟩
    · have hb' : (b == text) = false := by simp [hb]
      go_wp2
      all_goals go_ret
      all_goals exact ⟨by simp [hb], hb2.alloc hb2.size _⟩
  · have hk' : (k == 9) = false := by simp [hk]
    go_wp2
    all_goals go_ret
    all_goals exact ⟨by simp [hk], hb2.alloc hb2.size _⟩

end Go.Proofs.Ytddjihlmlfchdaa
