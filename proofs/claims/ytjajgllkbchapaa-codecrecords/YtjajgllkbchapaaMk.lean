/-
  The codecs that the calls make.
-/
import Derived.Test.YtjajgllkbchapaaLow
namespace Go.Proofs.Ytjajgllkbchapaa
open Go.RowKit
set_option linter.unusedSimpArgs false
set_option linter.unusedVariables false

set_option maxHeartbeats 400000 in
theorem bound_any (w : World) (m : Int) : Calls Try.prog 57 #[.int .i64 m] w fun e w' => e = .returned (.int .i64 (boundF m)) ∧ w' = w := by
  go_enter Try.func57, Try.ntmps57
  go_wp2_with fail
  go_ret
  exact ⟨rfl, rfl⟩

theorem bound_nonneg (m : Int) : 0 ≤ boundF m ∧ boundF m ≤ 1048576 := by unfold boundF; omega

set_option maxHeartbeats 400000 in
theorem number_codec (w : World) : Calls Try.prog 16 #[] w fun e w' => e = .returned (.agg #[.func (.func 54) #[] #[], .func (.func 55) #[] #[]]) ∧ Below w.heap.size w w' := by
  have hsf := fun (wx : World) (a : Addr) (fn : Fn) (f c : Array Value) => run_store Try.prog wx a (.func fn f c) .plain rfl
  go_enter Try.func16, Try.ntmps16
  go_wp2_with fail
  exact bodyPost_ret (v := .agg #[.func (.func 54) #[] #[], .func (.func 55) #[] #[]]) (by simp [results, Try.results16, go_sem]) rfl ⟨rfl, (Below.refl _ _).alloc (Nat.le_refl _) _⟩

set_option maxHeartbeats 400000 in
theorem flag_codec (w : World) : Calls Try.prog 22 #[] w fun e w' => e = .returned (.agg #[.func (.func 65) #[] #[], .func (.func 66) #[] #[]]) ∧ Below w.heap.size w w' := by
  have hsf := fun (wx : World) (a : Addr) (fn : Fn) (f c : Array Value) => run_store Try.prog wx a (.func fn f c) .plain rfl
  go_enter Try.func22, Try.ntmps22
  go_wp2_with fail
  exact bodyPost_ret (v := .agg #[.func (.func 65) #[] #[], .func (.func 66) #[] #[]]) (by simp [results, Try.results22, go_sem]) rfl ⟨rfl, (Below.refl _ _).alloc (Nat.le_refl _) _⟩

set_option maxHeartbeats 400000 in
theorem text_codec (w : World) (m : Int) : Calls Try.prog 24 #[.int .i64 m] w fun e w' => ∃ tb, e = .returned (.agg #[.func (.func 68) #[] #[.pointer (some ⟨tb, 0, none⟩)], .func (.func 70) #[] #[.pointer (some ⟨tb, 0, none⟩)]]) ∧ tb < w'.heap.size ∧ w'.cell? ⟨tb, 0, none⟩ = some (.int .i64 (boundF m)) ∧ Below w.heap.size w w' := by
  have hmf : ∀ (fn : Fn) (first cap : Array Value) (w : World), (Instr.makeFunc fn first cap).run Try.prog w = .ok (.func fn first cap) w := fun _ _ _ _ => rfl
  have hsf := fun (wx : World) (a : Addr) (fn : Fn) (f c : Array Value) => run_store Try.prog wx a (.func fn f c) .plain rfl
  go_enter Try.func24, Try.ntmps24
  go_wp2_with (go_at_call 57; refine (bound_any _ _).mono ?_; rintro e w1 ⟨rfl, hw1⟩; subst hw1)
  exact bodyPost_ret (v := .agg #[.func (.func 68) #[] #[.pointer (some ⟨w.heap.size, 0, none⟩)], .func (.func 70) #[] #[.pointer (some ⟨w.heap.size, 0, none⟩)]]) (by simp [results, Try.results24, go_sem]) rfl
    ⟨w.heap.size, rfl, by simp; omega, by go_simp, ((Below.refl _ _).alloc (Nat.le_refl _) _).alloc (by simp) _⟩

set_option maxHeartbeats 400000 in
theorem list_codecInt (w : World) (x y : Value) (m : Int) : Calls Try.prog 18 #[.agg #[x, y], .int .i64 m] w fun e w' => ∃ mb cb, e = .returned (.agg #[.func (.func 58) #[] #[.pointer (some ⟨mb, 0, none⟩), .pointer (some ⟨cb, 0, none⟩)], .func (.func 60) #[] #[.pointer (some ⟨mb, 0, none⟩), .pointer (some ⟨cb, 0, none⟩)]]) ∧
    mb < w'.heap.size ∧ cb < w'.heap.size ∧ w'.cell? ⟨mb, 0, none⟩ = some (.int .i64 (boundF m)) ∧ w'.cell? ⟨cb, 0, none⟩ = some x ∧ w'.cell? ⟨cb, 1, none⟩ = some y ∧ Below w.heap.size w w' := by
  have hmf : ∀ (fn : Fn) (first cap : Array Value) (w : World), (Instr.makeFunc fn first cap).run Try.prog w = .ok (.func fn first cap) w := fun _ _ _ _ => rfl
  have hsf := fun (wx : World) (a : Addr) (fn : Fn) (f c : Array Value) => run_store Try.prog wx a (.func fn f c) .plain rfl
  go_enter Try.func18, Try.ntmps18
  go_wp2_with (go_at_call 57; refine (bound_any _ _).mono ?_; rintro e w1 ⟨rfl, hw1⟩; subst hw1)
  exact bodyPost_ret (v := .agg #[.func (.func 58) #[] #[.pointer (some ⟨w.heap.size + 1, 0, none⟩), .pointer (some ⟨w.heap.size, 0, none⟩)], .func (.func 60) #[] #[.pointer (some ⟨w.heap.size + 1, 0, none⟩), .pointer (some ⟨w.heap.size, 0, none⟩)]]) (by simp [results, Try.results18, go_sem]) rfl
    ⟨w.heap.size + 1, w.heap.size, rfl, by simp, by simp; omega, by go_simp, by go_simp, by go_simp, (((Below.refl _ _).alloc (Nat.le_refl _) _).alloc (by simp) _).alloc (by simp; omega) _⟩

set_option maxHeartbeats 400000 in
theorem list_codecStr (w : World) (x y : Value) (m : Int) : Calls Try.prog 30 #[.agg #[x, y], .int .i64 m] w fun e w' => ∃ mb cb, e = .returned (.agg #[.func (.func 75) #[] #[.pointer (some ⟨mb, 0, none⟩), .pointer (some ⟨cb, 0, none⟩)], .func (.func 76) #[] #[.pointer (some ⟨mb, 0, none⟩), .pointer (some ⟨cb, 0, none⟩)]]) ∧
    mb < w'.heap.size ∧ cb < w'.heap.size ∧ w'.cell? ⟨mb, 0, none⟩ = some (.int .i64 (boundF m)) ∧ w'.cell? ⟨cb, 0, none⟩ = some x ∧ w'.cell? ⟨cb, 1, none⟩ = some y ∧ Below w.heap.size w w' := by
  have hmf : ∀ (fn : Fn) (first cap : Array Value) (w : World), (Instr.makeFunc fn first cap).run Try.prog w = .ok (.func fn first cap) w := fun _ _ _ _ => rfl
  have hsf := fun (wx : World) (a : Addr) (fn : Fn) (f c : Array Value) => run_store Try.prog wx a (.func fn f c) .plain rfl
  go_enter Try.func30, Try.ntmps30
  go_wp2_with (go_at_call 57; refine (bound_any _ _).mono ?_; rintro e w1 ⟨rfl, hw1⟩; subst hw1)
  exact bodyPost_ret (v := .agg #[.func (.func 75) #[] #[.pointer (some ⟨w.heap.size + 1, 0, none⟩), .pointer (some ⟨w.heap.size, 0, none⟩)], .func (.func 76) #[] #[.pointer (some ⟨w.heap.size + 1, 0, none⟩), .pointer (some ⟨w.heap.size, 0, none⟩)]]) (by simp [results, Try.results30, go_sem]) rfl
    ⟨w.heap.size + 1, w.heap.size, rfl, by simp, by simp; omega, by go_simp, by go_simp, by go_simp, (((Below.refl _ _).alloc (Nat.le_refl _) _).alloc (by simp) _).alloc (by simp; omega) _⟩

set_option maxHeartbeats 400000 in
theorem list_codecStrs (w : World) (x y : Value) (m : Int) : Calls Try.prog 33 #[.agg #[x, y], .int .i64 m] w fun e w' => ∃ mb cb, e = .returned (.agg #[.func (.func 77) #[] #[.pointer (some ⟨mb, 0, none⟩), .pointer (some ⟨cb, 0, none⟩)], .func (.func 78) #[] #[.pointer (some ⟨mb, 0, none⟩), .pointer (some ⟨cb, 0, none⟩)]]) ∧
    mb < w'.heap.size ∧ cb < w'.heap.size ∧ w'.cell? ⟨mb, 0, none⟩ = some (.int .i64 (boundF m)) ∧ w'.cell? ⟨cb, 0, none⟩ = some x ∧ w'.cell? ⟨cb, 1, none⟩ = some y ∧ Below w.heap.size w w' := by
  have hmf : ∀ (fn : Fn) (first cap : Array Value) (w : World), (Instr.makeFunc fn first cap).run Try.prog w = .ok (.func fn first cap) w := fun _ _ _ _ => rfl
  have hsf := fun (wx : World) (a : Addr) (fn : Fn) (f c : Array Value) => run_store Try.prog wx a (.func fn f c) .plain rfl
  go_enter Try.func33, Try.ntmps33
  go_wp2_with (go_at_call 57; refine (bound_any _ _).mono ?_; rintro e w1 ⟨rfl, hw1⟩; subst hw1)
  exact bodyPost_ret (v := .agg #[.func (.func 77) #[] #[.pointer (some ⟨w.heap.size + 1, 0, none⟩), .pointer (some ⟨w.heap.size, 0, none⟩)], .func (.func 78) #[] #[.pointer (some ⟨w.heap.size + 1, 0, none⟩), .pointer (some ⟨w.heap.size, 0, none⟩)]]) (by simp [results, Try.results33, go_sem]) rfl
    ⟨w.heap.size + 1, w.heap.size, rfl, by simp, by simp; omega, by go_simp, by go_simp, by go_simp, (((Below.refl _ _).alloc (Nat.le_refl _) _).alloc (by simp) _).alloc (by simp; omega) _⟩

set_option maxHeartbeats 400000 in
theorem list_codecBool (w : World) (x y : Value) (m : Int) : Calls Try.prog 36 #[.agg #[x, y], .int .i64 m] w fun e w' => ∃ mb cb, e = .returned (.agg #[.func (.func 81) #[] #[.pointer (some ⟨mb, 0, none⟩), .pointer (some ⟨cb, 0, none⟩)], .func (.func 82) #[] #[.pointer (some ⟨mb, 0, none⟩), .pointer (some ⟨cb, 0, none⟩)]]) ∧
    mb < w'.heap.size ∧ cb < w'.heap.size ∧ w'.cell? ⟨mb, 0, none⟩ = some (.int .i64 (boundF m)) ∧ w'.cell? ⟨cb, 0, none⟩ = some x ∧ w'.cell? ⟨cb, 1, none⟩ = some y ∧ Below w.heap.size w w' := by
  have hmf : ∀ (fn : Fn) (first cap : Array Value) (w : World), (Instr.makeFunc fn first cap).run Try.prog w = .ok (.func fn first cap) w := fun _ _ _ _ => rfl
  have hsf := fun (wx : World) (a : Addr) (fn : Fn) (f c : Array Value) => run_store Try.prog wx a (.func fn f c) .plain rfl
  go_enter Try.func36, Try.ntmps36
  go_wp2_with (go_at_call 57; refine (bound_any _ _).mono ?_; rintro e w1 ⟨rfl, hw1⟩; subst hw1)
  exact bodyPost_ret (v := .agg #[.func (.func 81) #[] #[.pointer (some ⟨w.heap.size + 1, 0, none⟩), .pointer (some ⟨w.heap.size, 0, none⟩)], .func (.func 82) #[] #[.pointer (some ⟨w.heap.size + 1, 0, none⟩), .pointer (some ⟨w.heap.size, 0, none⟩)]]) (by simp [results, Try.results36, go_sem]) rfl
    ⟨w.heap.size + 1, w.heap.size, rfl, by simp, by simp; omega, by go_simp, by go_simp, by go_simp, (((Below.refl _ _).alloc (Nat.le_refl _) _).alloc (by simp) _).alloc (by simp; omega) _⟩

end Go.Proofs.Ytjajgllkbchapaa
