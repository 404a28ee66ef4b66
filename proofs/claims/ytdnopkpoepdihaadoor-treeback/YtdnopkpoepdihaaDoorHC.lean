/-
  The way up from a place to the root, as package heap's iterator yields it.
-/
import Derived.Test.YtdnopkpoepdihaaDoorHB
import Derived.RangeFuncNested
import Derived.RangeFuncBound
import Derived.RangeFuncCalls
import Derived.RangeFuncLeaves
import Derived.RangeFuncBox
import Derived.Shelf.Abstract
import Derived.Shelf.RegionOpen
import Derived.OwnWalkIn
import Derived.TacticsInMore
import Derived.LoopNIn
import Derived.LoopIn
import Derived.Maps.AppendAt
namespace Go.Proofs.YtdnopkpoepdihaaDoor
open Go.RowKit Go.Shelf
set_option linter.unusedSimpArgs false
set_option linter.unusedVariables false
attribute [local go_sem] Oper.semAt_some

/-- What a round keeps: what lay below n0, and the cell of n. -/
def Kp (n0 Bn : Nat) (v : Value) (W W' : World) : Prop := Below n0 W W' ∧ (W.cell? ⟨Bn, 0, none⟩ = some v → W'.cell? ⟨Bn, 0, none⟩ = some v)

theorem cell_new (W : World) (v : Value) (t : TypeId) : (W.alloc (.cells #[v] t)).cell? ⟨W.heap.size, 0, none⟩ = some v ∧ (W.alloc (.cells #[v] t)).frozen? ⟨W.heap.size, 0, none⟩ = false :=
  ⟨(Boxed.new W t v).cell, (Boxed.new W t v).frozen⟩
theorem cell_al {W : World} {a : Addr} {v : Value} (o : Obj) (h : W.cell? a = some v) : (W.alloc o).cell? a = some v := cell_kept h (World.grownBy_alloc W o none) (fun r e => by cases e)
theorem frozen_al {W : World} {a : Addr} {v : Value} (o : Obj) (h : W.cell? a = some v) (hf : W.frozen? a = false) : (W.alloc o).frozen? a = false := (frozen_kept h (World.grownBy_alloc W o none) (fun r e => by cases e)).trans hf

theorem lev_par {x n : Int} (h : inB x n = true) (hr : (x == n - 1) = false) : 0 ≤ lev x ∧ lev (parI x) = lev x + 1 ∧ lev x < 5 := by
  have := forall_in (fun x n => x == n - 1 || decide (0 ≤ lev x ∧ lev (parI x) = lev x + 1 ∧ lev x < 5)) (by decide +kernel) x n h
  simpa [hr] using this

theorem upF_ok {f : Nat} {a n : Int} (h : upOk f a n = true) (hr : (a == n - 1) = false) : ∃ g, f = g + 1 ∧ upF f a n = a :: upF g (parI a) n ∧ upOk g (parI a) n = true := by
  cases f with
  | zero => simp [upOk] at h; simp [h] at hr
  | succ g => exact ⟨g, rfl, by simp [upF, hr], by simpa [upOk, hr] using h⟩

theorem upF_root {f : Nat} {a n : Int} (hr : (a == n - 1) = true) : upF f a n = [a] := by
  cases f <;> simp [upF, hr]

theorem upF_head (f : Nat) (a n : Int) : ∃ r, upF f a n = a :: r := by
  cases f with
  | zero => exact ⟨[], rfl⟩
  | succ f => unfold upF; split <;> exact ⟨_, rfl⟩

theorem Kp.t {n0 Bn : Nat} {v : Value} {A B C : World} (h : Kp n0 Bn v A B) (k : Kp n0 Bn v B C) : Kp n0 Bn v A C := ⟨h.1.trans k.1, fun e => k.2 (h.2 e)⟩

theorem Kp.b {n0 Bn : Nat} {v : Value} {w : World} (hn : n0 ≤ w.heap.size) (hb : Bn < w.heap.size) (W : World) (l : Nat) (o o' : Obj) (hl : w.heap.size ≤ l) (h : W.heap[l]? = some o) (h1 : o.isCells = false) (h2 : o.isWalk = false) : Kp n0 Bn v W (W.putObj l o') :=
  ⟨belowK_b hn W l o o' hl h h1 h2, fun e => ((belowK_b (n₀ := Bn + 1) (w := w) (by omega) W l o o' hl h h1 h2).cell (p := ⟨Bn, 0, none⟩) (by simp)).trans e⟩

set_option maxRecDepth 100000 in
set_option maxHeartbeats 1000000 in
theorem up1_in (n1 : Nat) (hn1 : 1 ≤ n1) (l Bx Bn n0 : Nat) (x n : Int) (hx : inB x n = true) (hn0 : 1 < n0) (J Jx : List Int → World → Prop)
    (hY : ∀ pre x W, J pre W → pre.length < 7 → YieldAt Fence.wide (n1 - 1) Tryd.prog l #[.int .i64 x] W fun e W' =>
      (e = .returned (.bool true) ∧ J (pre ++ [x]) W' ∧ Kp n0 Bn (.int .i64 n) W W') ∨ (e = .returned (.bool false) ∧ Jx (pre ++ [x]) W'))
    (W : World) (hT : Tab W) (hBx : W.cell? ⟨Bx, 0, none⟩ = some (.int .i64 x)) (hBn : W.cell? ⟨Bn, 0, none⟩ = some (.int .i64 n)) (h0 : J [] W) :
    CallsIn Fence.wide n1 Tryd.prog 88 #[.func (.yield l) #[] #[], .pointer (some ⟨Bx, 0, none⟩), .pointer (some ⟨Bn, 0, none⟩)] W fun e W' => (∃ v, e = .returned v) ∧
      ((∃ ys, ys = up x n ∧ J ys W') ∨ (∃ pre, pre <+: up x n ∧ Jx pre W')) := by
  have hr := inB_right hx
  refine callsIn_of_wp Tryd.func88 rfl trivial ?_ rfl
  simp only [Tryd.ntmps88, List.size_toArray, List.length_cons, List.length_nil, Nat.reduceAdd, Nat.reduceSub, Array.replicate_succ, Array.replicate_zero, List.push_toArray, List.append_toArray, List.nil_append, List.cons_append]
  gi_wp2
  gi_loopw [4] (fun p wr => ∃ (pre : List Int) (a : Int) (f : Nat), p = .int .i64 a ∧ up x n = pre ++ upF f a n ∧ upOk f a n = true ∧ inB a n = true ∧ pre.length + f = 6 ∧ Tab wr ∧ wr.cell? ⟨Bn, 0, none⟩ = some (.int .i64 n) ∧ J pre wr)
    (fun p _ => 6 - (lev (intOf p)).toNat)
  case atStart => exact ⟨[], x, 6, rfl, rfl, up_ok hx, hx, rfl, hT, hBn, h0⟩
  case round =>
    obtain ⟨pre, a, f, rfl, hu, hok, ha, hf, hTr, hBr, hJ⟩ := hrel
    obtain ⟨fn, tmps, assign, body, hy, hR⟩ := hY pre a wr hJ (by omega)
    gi_wp2
    refine hR.mono ?_
    rintro e W3 (⟨rfl, hJ3, hk3⟩ | ⟨rfl, hJx3⟩)
    · have hT3 : Tab W3 := hTr.below hk3.1 hn0
      have hB3 := hk3.2 hBr
      have hal := inB_lt ha
      cases hroot : (a == n - 1) with
      | true =>
        have hroot' : (a != n - 1) = false := by simpa using hroot
        gi_wp2_with (refine ⟨trivial, ?_⟩; gi_at_call 76; refine (callsIn_wide.2 (root_right hr _)).mono ?_; rintro e w' ⟨rfl, rfl⟩)
        go_end0
        exact ⟨⟨_, rfl⟩, .inl ⟨_, by rw [hu, upF_root hroot], hJ3⟩⟩
      | false =>
      have hroot' : (a != n - 1) = true := by simpa using hroot
      obtain ⟨g, rfl, hug, hokg⟩ := upF_ok hok hroot
      have hlp := lev_par ha hroot
      gi_wp2_with first
        | (refine ⟨trivial, ?_⟩; gi_at_call 76; refine (callsIn_wide.2 (root_right hr _)).mono ?_; rintro e w' ⟨rfl, rfl⟩)
        | (refine ⟨trivial, ?_⟩; gi_at_call 89; refine (callsIn_wide.2 (parent_any a hal.1 hal.2 hT3)).mono ?_; rintro e w' ⟨rfl, rfl⟩)
      go_roundw
      case rel => exact ⟨pre ++ [a], parI a, g, rfl, by rw [hu, hug]; simp, hokg, par_in ha hroot, by simp; omega, hT3, hB3, hJ3⟩
      case measure => simp [intOf]; omega
    · gi_wp2
      refine ⟨trivial, ?_⟩
      gi_wp2
      go_end0
      obtain ⟨r, hr'⟩ := upF_head f a n
      exact ⟨⟨_, rfl⟩, .inr ⟨pre ++ [a], ⟨r, by rw [hu, hr']; simp⟩, hJx3⟩⟩


theorem up_stops (n1 : Nat) (hn1 : 1 ≤ n1) (Bx Bn n0 : Nat) (x n : Int) (hx : inB x n = true) (hn0 : 1 < n0) (w : World) (hT : Tab w) (hbx : Bx < w.heap.size) (hbn : Bn < w.heap.size)
    (hBx : w.cell? ⟨Bx, 0, none⟩ = some (.int .i64 x)) (hBn : w.cell? ⟨Bn, 0, none⟩ = some (.int .i64 n)) :
    SeqStopsK Fence.wide n1 Tryd.prog 88 #[.pointer (some ⟨Bx, 0, none⟩), .pointer (some ⟨Bn, 0, none⟩)] (fun x : Int => #[Value.int .i64 x]) (Kp n0 Bn (.int .i64 n)) (fun ys => ys = up x n) (fun pre => pre <+: up x n) 7 w := fun l J Jx W hW _ _ hY h0 =>
  up1_in n1 hn1 l Bx Bn n0 x n hx hn0 J Jx hY W (hT.below hW hT.size) ((hW.cell (p := ⟨Bx, 0, none⟩) hbx).trans hBx) ((hW.cell (p := ⟨Bn, 0, none⟩) hbn).trans hBn) h0

/-- The places that there may be. -/
abbrev Pl := { z : Int // 0 ≤ z ∧ z < 63 }
def vals (l : List Pl) : List Int := l.map fun z => z.1
theorem vals_snoc (l : List Pl) (z : Pl) : vals (l ++ [z]) = vals l ++ [z.1] := by simp [vals]
theorem vals_len (l : List Pl) : (vals l).length = l.length := by simp [vals]

set_option maxRecDepth 100000 in
set_option maxHeartbeats 1000000 in
theorem up1p_in (n1 : Nat) (hn1 : 1 ≤ n1) (l Bx Bn n0 : Nat) (x n : Int) (hx : inB x n = true) (hn0 : 1 < n0) (J Jx : List Pl → World → Prop)
    (hY : ∀ pre (x : Pl) W, J pre W → pre.length < 7 → YieldAt Fence.wide (n1 - 1) Tryd.prog l #[.int .i64 x.1] W fun e W' =>
      (e = .returned (.bool true) ∧ J (pre ++ [x]) W' ∧ Kp n0 Bn (.int .i64 n) W W') ∨ (e = .returned (.bool false) ∧ Jx (pre ++ [x]) W'))
    (W : World) (hT : Tab W) (hBx : W.cell? ⟨Bx, 0, none⟩ = some (.int .i64 x)) (hBn : W.cell? ⟨Bn, 0, none⟩ = some (.int .i64 n)) (h0 : J [] W) :
    CallsIn Fence.wide n1 Tryd.prog 88 #[.func (.yield l) #[] #[], .pointer (some ⟨Bx, 0, none⟩), .pointer (some ⟨Bn, 0, none⟩)] W fun e W' => (∃ v, e = .returned v) ∧
      ((∃ ys : List Pl, vals ys = up x n ∧ J ys W') ∨ (∃ pre : List Pl, vals pre <+: up x n ∧ Jx pre W')) := by
  have hr := inB_right hx
  refine callsIn_of_wp Tryd.func88 rfl trivial ?_ rfl
  simp only [Tryd.ntmps88, List.size_toArray, List.length_cons, List.length_nil, Nat.reduceAdd, Nat.reduceSub, Array.replicate_succ, Array.replicate_zero, List.push_toArray, List.append_toArray, List.nil_append, List.cons_append]
  gi_wp2
  gi_loopw [4] (fun p wr => ∃ (pre : List Pl) (a : Int) (f : Nat), p = .int .i64 a ∧ up x n = vals pre ++ upF f a n ∧ upOk f a n = true ∧ inB a n = true ∧ pre.length + f = 6 ∧ Tab wr ∧ wr.cell? ⟨Bn, 0, none⟩ = some (.int .i64 n) ∧ J pre wr)
    (fun p _ => 6 - (lev (intOf p)).toNat)
  case atStart => exact ⟨[], x, 6, rfl, rfl, up_ok hx, hx, rfl, hT, hBn, h0⟩
  case round =>
    obtain ⟨pre, a, f, rfl, hu, hok, ha, hf, hTr, hBr, hJ⟩ := hrel
    obtain ⟨fn, tmps, assign, body, hy, hR⟩ := hY pre ⟨a, inB_lt ha⟩ wr hJ (by omega)
    gi_wp2
    refine hR.mono ?_
    rintro e W3 (⟨rfl, hJ3, hk3⟩ | ⟨rfl, hJx3⟩)
    · have hT3 : Tab W3 := hTr.below hk3.1 hn0
      have hB3 := hk3.2 hBr
      have hal := inB_lt ha
      cases hroot : (a == n - 1) with
      | true =>
        have hroot' : (a != n - 1) = false := by simpa using hroot
        gi_wp2_with (refine ⟨trivial, ?_⟩; gi_at_call 76; refine (callsIn_wide.2 (root_right hr _)).mono ?_; rintro e w' ⟨rfl, rfl⟩)
        go_end0
        exact ⟨⟨_, rfl⟩, .inl ⟨_, by rw [hu, upF_root hroot, vals_snoc], hJ3⟩⟩
      | false =>
      have hroot' : (a != n - 1) = true := by simpa using hroot
      obtain ⟨g, rfl, hug, hokg⟩ := upF_ok hok hroot
      have hlp := lev_par ha hroot
      gi_wp2_with first
        | (refine ⟨trivial, ?_⟩; gi_at_call 76; refine (callsIn_wide.2 (root_right hr _)).mono ?_; rintro e w' ⟨rfl, rfl⟩)
        | (refine ⟨trivial, ?_⟩; gi_at_call 89; refine (callsIn_wide.2 (parent_any a hal.1 hal.2 hT3)).mono ?_; rintro e w' ⟨rfl, rfl⟩)
      go_roundw
      case rel => exact ⟨pre ++ [⟨a, inB_lt ha⟩], parI a, g, rfl, by rw [hu, hug, vals_snoc]; simp, hokg, par_in ha hroot, by simp; omega, hT3, hB3, hJ3⟩
      case measure => simp [intOf]; omega
    · gi_wp2
      refine ⟨trivial, ?_⟩
      gi_wp2
      go_end0
      obtain ⟨r, hr'⟩ := upF_head f a n
      exact ⟨⟨_, rfl⟩, .inr ⟨pre ++ [⟨a, inB_lt ha⟩], ⟨r, by rw [hu, hr', vals_snoc]; simp⟩, hJx3⟩⟩


theorem upp_stops (n1 : Nat) (hn1 : 1 ≤ n1) (Bx Bn n0 : Nat) (x n : Int) (hx : inB x n = true) (hn0 : 1 < n0) (w : World) (hT : Tab w) (hbx : Bx < w.heap.size) (hbn : Bn < w.heap.size)
    (hBx : w.cell? ⟨Bx, 0, none⟩ = some (.int .i64 x)) (hBn : w.cell? ⟨Bn, 0, none⟩ = some (.int .i64 n)) :
    SeqStopsK Fence.wide n1 Tryd.prog 88 #[.pointer (some ⟨Bx, 0, none⟩), .pointer (some ⟨Bn, 0, none⟩)] (fun x : Pl => #[Value.int .i64 x.1]) (Kp n0 Bn (.int .i64 n)) (fun ys => vals ys = up x n) (fun pre => vals pre <+: up x n) 7 w := fun l J Jx W hW _ _ hY h0 =>
  up1p_in n1 hn1 l Bx Bn n0 x n hx hn0 J Jx hY W (hT.below hW hT.size) ((hW.cell (p := ⟨Bx, 0, none⟩) hbx).trans hBx) ((hW.cell (p := ⟨Bn, 0, none⟩) hbn).trans hBn) h0

set_option maxHeartbeats 1000000 in
theorem upward_any (x n : Int) (w : World) :
    Calls Tryd.prog 75 #[.int .i64 x, .int .i64 n] w fun e w' => e = .returned (.func (.func 88) #[] #[.pointer (some ⟨w.heap.size, 0, none⟩), .pointer (some ⟨w.heap.size + 1, 0, none⟩)]) ∧ w' = (w.alloc (.cells #[.int .i64 x] 3)).alloc (.cells #[.int .i64 n] 3) := by
  go_enter Tryd.func75, Tryd.ntmps75
  go_wp2
  go_ret
  exact ⟨by simp, rfl⟩

end Go.Proofs.YtdnopkpoepdihaaDoor
