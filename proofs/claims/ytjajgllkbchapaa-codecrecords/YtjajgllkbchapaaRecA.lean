/-
  A record's parts: where each lies, and what each writes and reads.
-/
import Derived.Test.YtjajgllkbchapaaTops
namespace Go.Proofs.Ytjajgllkbchapaa
open Go.RowKit
set_option linter.unusedSimpArgs false
set_option linter.unusedVariables false

set_option maxHeartbeats 400000 in
theorem partA (w : World) (b : Nat) : Calls Try.prog 43 #[.pointer (some ⟨b, 0, none⟩)] w fun e w' => e = .returned (.pointer (some ⟨b, 0, none⟩)) ∧ w' = w := by
  go_enter Try.func43, Try.ntmps43
  go_wp2_with fail
  go_ret
  exact ⟨rfl, rfl⟩

set_option maxHeartbeats 400000 in
theorem fieldA (w : World) (x y : Value) : Calls Try.prog 42 #[.func (.func 43) #[] #[], .agg #[x, y]] w fun e w' => ∃ k q, e = .returned (.agg #[.func (.func 90) #[] #[.pointer (some ⟨k, 0, none⟩), .pointer (some ⟨q, 0, none⟩)], .func (.func 91) #[] #[.pointer (some ⟨k, 0, none⟩), .pointer (some ⟨q, 0, none⟩)]]) ∧
    k < w'.heap.size ∧ q < w'.heap.size ∧ w'.cell? ⟨k, 0, none⟩ = some x ∧ w'.cell? ⟨k, 1, none⟩ = some y ∧ w'.cell? ⟨q, 0, none⟩ = some (.func (.func 43) #[] #[]) ∧ Below w.heap.size w w' := by
  have hmf : ∀ (fn : Fn) (first cap : Array Value) (w : World), (Instr.makeFunc fn first cap).run Try.prog w = .ok (.func fn first cap) w := fun _ _ _ _ => rfl
  have hsf := fun (wx : World) (a : Addr) (fn : Fn) (f c : Array Value) => run_store Try.prog wx a (.func fn f c) .plain rfl
  go_enter Try.func42, Try.ntmps42
  go_wp2_with fail
  exact bodyPost_ret (v := .agg #[.func (.func 90) #[] #[.pointer (some ⟨w.heap.size + 1, 0, none⟩), .pointer (some ⟨w.heap.size, 0, none⟩)], .func (.func 91) #[] #[.pointer (some ⟨w.heap.size + 1, 0, none⟩), .pointer (some ⟨w.heap.size, 0, none⟩)]]) (by simp [results, Try.results42, go_sem]) rfl
    ⟨w.heap.size + 1, w.heap.size, rfl, by simp, by simp; omega, by go_simp, by go_simp, by go_simp, (((Below.refl _ _).alloc (Nat.le_refl _) _).alloc (by simp) _).alloc (by simp; omega) _⟩

set_option maxRecDepth 100000 in
set_option maxHeartbeats 1000000 in
theorem fputA {w : World} {p b k q : Nat} {bs : List UInt8} {v : Value} {x : List UInt8 × Bool} (hk : w.cell? ⟨k, 0, none⟩ = some (.func (.func 54) #[] #[])) (hq : w.cell? ⟨q, 0, none⟩ = some (.func (.func 43) #[] #[])) (hv : w.cell? ⟨b, 0, none⟩ = some v)
    (hin : Calls Try.prog 54 #[.pointer (some ⟨p, 0, none⟩), v] w.drew (wrote w.drew p bs x)) :
    Calls Try.prog 90 #[.pointer (some ⟨p, 0, none⟩), .pointer (some ⟨b, 0, none⟩), .pointer (some ⟨k, 0, none⟩), .pointer (some ⟨q, 0, none⟩)] w (wrote w p bs x) := by
  go_enter Try.func90, Try.ntmps90
  go_wp2_with fail
  go_region_with (first | (go_at_call 43; refine (partA _ _).mono ?_; rintro e w1 ⟨rfl, hw1⟩; subst hw1) | (go_at_call 54; refine hin.mono ?_; intro e w3 hw3; obtain ⟨he3, h3, f3⟩ := hw3; subst he3))
  all_goals
    go_wp2_with fail
    go_end0
    exact ⟨rfl, h3, ⟨f3.os, f3.tape, f3.output, f3.size, f3.block⟩⟩

set_option maxHeartbeats 400000 in
theorem partS (w : World) (b : Nat) : Calls Try.prog 45 #[.pointer (some ⟨b, 0, none⟩)] w fun e w' => e = .returned (.pointer (some ⟨b, 1, none⟩)) ∧ w' = w := by
  go_enter Try.func45, Try.ntmps45
  go_wp2_with fail
  go_ret
  exact ⟨rfl, rfl⟩

set_option maxHeartbeats 400000 in
theorem fieldS (w : World) (x y : Value) : Calls Try.prog 44 #[.func (.func 45) #[] #[], .agg #[x, y]] w fun e w' => ∃ k q, e = .returned (.agg #[.func (.func 92) #[] #[.pointer (some ⟨k, 0, none⟩), .pointer (some ⟨q, 0, none⟩)], .func (.func 93) #[] #[.pointer (some ⟨k, 0, none⟩), .pointer (some ⟨q, 0, none⟩)]]) ∧
    k < w'.heap.size ∧ q < w'.heap.size ∧ w'.cell? ⟨k, 0, none⟩ = some x ∧ w'.cell? ⟨k, 1, none⟩ = some y ∧ w'.cell? ⟨q, 0, none⟩ = some (.func (.func 45) #[] #[]) ∧ Below w.heap.size w w' := by
  have hmf : ∀ (fn : Fn) (first cap : Array Value) (w : World), (Instr.makeFunc fn first cap).run Try.prog w = .ok (.func fn first cap) w := fun _ _ _ _ => rfl
  have hsf := fun (wx : World) (a : Addr) (fn : Fn) (f c : Array Value) => run_store Try.prog wx a (.func fn f c) .plain rfl
  go_enter Try.func44, Try.ntmps44
  go_wp2_with fail
  exact bodyPost_ret (v := .agg #[.func (.func 92) #[] #[.pointer (some ⟨w.heap.size + 1, 0, none⟩), .pointer (some ⟨w.heap.size, 0, none⟩)], .func (.func 93) #[] #[.pointer (some ⟨w.heap.size + 1, 0, none⟩), .pointer (some ⟨w.heap.size, 0, none⟩)]]) (by simp [results, Try.results44, go_sem]) rfl
    ⟨w.heap.size + 1, w.heap.size, rfl, by simp, by simp; omega, by go_simp, by go_simp, by go_simp, (((Below.refl _ _).alloc (Nat.le_refl _) _).alloc (by simp) _).alloc (by simp; omega) _⟩

set_option maxRecDepth 100000 in
set_option maxHeartbeats 1000000 in
theorem fputS {tb : Nat} {w : World} {p b k q : Nat} {bs : List UInt8} {v : Value} {x : List UInt8 × Bool} (hk : w.cell? ⟨k, 0, none⟩ = some (.func (.func 68) #[] #[.pointer (some ⟨tb, 0, none⟩)])) (hq : w.cell? ⟨q, 0, none⟩ = some (.func (.func 45) #[] #[])) (hv : w.cell? ⟨b, 1, none⟩ = some v)
    (hin : Calls Try.prog 68 #[.pointer (some ⟨p, 0, none⟩), v, .pointer (some ⟨tb, 0, none⟩)] w.drew (wrote w.drew p bs x)) :
    Calls Try.prog 92 #[.pointer (some ⟨p, 0, none⟩), .pointer (some ⟨b, 0, none⟩), .pointer (some ⟨k, 0, none⟩), .pointer (some ⟨q, 0, none⟩)] w (wrote w p bs x) := by
  go_enter Try.func92, Try.ntmps92
  go_wp2_with fail
  go_region_with (first | (go_at_call 45; refine (partS _ _).mono ?_; rintro e w1 ⟨rfl, hw1⟩; subst hw1) | (go_at_call 68; refine hin.mono ?_; intro e w3 hw3; obtain ⟨he3, h3, f3⟩ := hw3; subst he3))
  all_goals
    go_wp2_with fail
    go_end0
    exact ⟨rfl, h3, ⟨f3.os, f3.tape, f3.output, f3.size, f3.block⟩⟩

set_option maxHeartbeats 400000 in
theorem partL (w : World) (b : Nat) : Calls Try.prog 47 #[.pointer (some ⟨b, 0, none⟩)] w fun e w' => e = .returned (.pointer (some ⟨b, 2, none⟩)) ∧ w' = w := by
  go_enter Try.func47, Try.ntmps47
  go_wp2_with fail
  go_ret
  exact ⟨rfl, rfl⟩

set_option maxHeartbeats 400000 in
theorem fieldL (w : World) (x y : Value) : Calls Try.prog 46 #[.func (.func 47) #[] #[], .agg #[x, y]] w fun e w' => ∃ k q, e = .returned (.agg #[.func (.func 94) #[] #[.pointer (some ⟨k, 0, none⟩), .pointer (some ⟨q, 0, none⟩)], .func (.func 95) #[] #[.pointer (some ⟨k, 0, none⟩), .pointer (some ⟨q, 0, none⟩)]]) ∧
    k < w'.heap.size ∧ q < w'.heap.size ∧ w'.cell? ⟨k, 0, none⟩ = some x ∧ w'.cell? ⟨k, 1, none⟩ = some y ∧ w'.cell? ⟨q, 0, none⟩ = some (.func (.func 47) #[] #[]) ∧ Below w.heap.size w w' := by
  have hmf : ∀ (fn : Fn) (first cap : Array Value) (w : World), (Instr.makeFunc fn first cap).run Try.prog w = .ok (.func fn first cap) w := fun _ _ _ _ => rfl
  have hsf := fun (wx : World) (a : Addr) (fn : Fn) (f c : Array Value) => run_store Try.prog wx a (.func fn f c) .plain rfl
  go_enter Try.func46, Try.ntmps46
  go_wp2_with fail
  exact bodyPost_ret (v := .agg #[.func (.func 94) #[] #[.pointer (some ⟨w.heap.size + 1, 0, none⟩), .pointer (some ⟨w.heap.size, 0, none⟩)], .func (.func 95) #[] #[.pointer (some ⟨w.heap.size + 1, 0, none⟩), .pointer (some ⟨w.heap.size, 0, none⟩)]]) (by simp [results, Try.results46, go_sem]) rfl
    ⟨w.heap.size + 1, w.heap.size, rfl, by simp, by simp; omega, by go_simp, by go_simp, by go_simp, (((Below.refl _ _).alloc (Nat.le_refl _) _).alloc (by simp) _).alloc (by simp; omega) _⟩

set_option maxRecDepth 100000 in
set_option maxHeartbeats 1000000 in
theorem fputL {mb cb : Nat} {w : World} {p b k q : Nat} {bs : List UInt8} {v : Value} {x : List UInt8 × Bool} (hk : w.cell? ⟨k, 0, none⟩ = some (.func (.func 58) #[] #[.pointer (some ⟨mb, 0, none⟩), .pointer (some ⟨cb, 0, none⟩)])) (hq : w.cell? ⟨q, 0, none⟩ = some (.func (.func 47) #[] #[])) (hv : w.cell? ⟨b, 2, none⟩ = some v)
    (hin : Calls Try.prog 58 #[.pointer (some ⟨p, 0, none⟩), v, .pointer (some ⟨mb, 0, none⟩), .pointer (some ⟨cb, 0, none⟩)] w.drew (wrote w.drew p bs x)) :
    Calls Try.prog 94 #[.pointer (some ⟨p, 0, none⟩), .pointer (some ⟨b, 0, none⟩), .pointer (some ⟨k, 0, none⟩), .pointer (some ⟨q, 0, none⟩)] w (wrote w p bs x) := by
  go_enter Try.func94, Try.ntmps94
  go_wp2_with fail
  go_region_with (first | (go_at_call 47; refine (partL _ _).mono ?_; rintro e w1 ⟨rfl, hw1⟩; subst hw1) | (go_at_call 58; refine hin.mono ?_; intro e w3 hw3; obtain ⟨he3, h3, f3⟩ := hw3; subst he3))
  all_goals
    go_wp2_with fail
    go_end0
    exact ⟨rfl, h3, ⟨f3.os, f3.tape, f3.output, f3.size, f3.block⟩⟩

set_option maxHeartbeats 400000 in
theorem partF (w : World) (b : Nat) : Calls Try.prog 49 #[.pointer (some ⟨b, 0, none⟩)] w fun e w' => e = .returned (.pointer (some ⟨b, 3, none⟩)) ∧ w' = w := by
  go_enter Try.func49, Try.ntmps49
  go_wp2_with fail
  go_ret
  exact ⟨rfl, rfl⟩

set_option maxHeartbeats 400000 in
theorem fieldF (w : World) (x y : Value) : Calls Try.prog 48 #[.func (.func 49) #[] #[], .agg #[x, y]] w fun e w' => ∃ k q, e = .returned (.agg #[.func (.func 96) #[] #[.pointer (some ⟨k, 0, none⟩), .pointer (some ⟨q, 0, none⟩)], .func (.func 97) #[] #[.pointer (some ⟨k, 0, none⟩), .pointer (some ⟨q, 0, none⟩)]]) ∧
    k < w'.heap.size ∧ q < w'.heap.size ∧ w'.cell? ⟨k, 0, none⟩ = some x ∧ w'.cell? ⟨k, 1, none⟩ = some y ∧ w'.cell? ⟨q, 0, none⟩ = some (.func (.func 49) #[] #[]) ∧ Below w.heap.size w w' := by
  have hmf : ∀ (fn : Fn) (first cap : Array Value) (w : World), (Instr.makeFunc fn first cap).run Try.prog w = .ok (.func fn first cap) w := fun _ _ _ _ => rfl
  have hsf := fun (wx : World) (a : Addr) (fn : Fn) (f c : Array Value) => run_store Try.prog wx a (.func fn f c) .plain rfl
  go_enter Try.func48, Try.ntmps48
  go_wp2_with fail
  exact bodyPost_ret (v := .agg #[.func (.func 96) #[] #[.pointer (some ⟨w.heap.size + 1, 0, none⟩), .pointer (some ⟨w.heap.size, 0, none⟩)], .func (.func 97) #[] #[.pointer (some ⟨w.heap.size + 1, 0, none⟩), .pointer (some ⟨w.heap.size, 0, none⟩)]]) (by simp [results, Try.results48, go_sem]) rfl
    ⟨w.heap.size + 1, w.heap.size, rfl, by simp, by simp; omega, by go_simp, by go_simp, by go_simp, (((Below.refl _ _).alloc (Nat.le_refl _) _).alloc (by simp) _).alloc (by simp; omega) _⟩

set_option maxRecDepth 100000 in
set_option maxHeartbeats 1000000 in
theorem fputF {w : World} {p b k q : Nat} {bs : List UInt8} {v : Value} {x : List UInt8 × Bool} (hk : w.cell? ⟨k, 0, none⟩ = some (.func (.func 65) #[] #[])) (hq : w.cell? ⟨q, 0, none⟩ = some (.func (.func 49) #[] #[])) (hv : w.cell? ⟨b, 3, none⟩ = some v)
    (hin : Calls Try.prog 65 #[.pointer (some ⟨p, 0, none⟩), v] w.drew (wrote w.drew p bs x)) :
    Calls Try.prog 96 #[.pointer (some ⟨p, 0, none⟩), .pointer (some ⟨b, 0, none⟩), .pointer (some ⟨k, 0, none⟩), .pointer (some ⟨q, 0, none⟩)] w (wrote w p bs x) := by
  go_enter Try.func96, Try.ntmps96
  go_wp2_with fail
  go_region_with (first | (go_at_call 49; refine (partF _ _).mono ?_; rintro e w1 ⟨rfl, hw1⟩; subst hw1) | (go_at_call 65; refine hin.mono ?_; intro e w3 hw3; obtain ⟨he3, h3, f3⟩ := hw3; subst he3))
  all_goals
    go_wp2_with fail
    go_end0
    exact ⟨rfl, h3, ⟨f3.os, f3.tape, f3.output, f3.size, f3.block⟩⟩

end Go.Proofs.Ytjajgllkbchapaa
