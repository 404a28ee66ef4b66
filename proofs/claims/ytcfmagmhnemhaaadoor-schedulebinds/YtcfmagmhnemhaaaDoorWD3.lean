/-
  ScheduleBinds, way 3: contexts and transcripts are one term just if all that they are made of is the same.
-/
import Derived.Test.YtcfmagmhnemhaaaDoorWD0
import Derived.Deep.RegionHeld3
import Derived.Deep.QuietTactic
namespace Go.Proofs.YtcfmagmhnemhaaaDoor
open Go.RowKit
set_option linter.unusedSimpArgs false
set_option linter.unusedVariables false
attribute [local go_sem ↓] Go.wp_at_zero Go.wp_at_succ

set_option maxRecDepth 100000 in
set_option maxHeartbeats 8000000 in
theorem binds_3 {w : World} (hL : Laid0 w) {lb lo lcap mb mo mcap : Nat} {x0 x1 x2 x3 x4 y0 y1 y2 y3 y4 : Int} (kl3 : 3 ≤ lcap) (km3 : 3 ≤ mcap)
    (HA : Hid (∀ w', Below w.heap.size w w' → Calls Tryd.prog 7 #[.slice (some ⟨lb, lo, none⟩) 3 lcap, .int .i64 9] w' fun e w2 => e = .returned (.bool true) ∧ w2 = w'))
    (HB : Hid (∀ w', Below w.heap.size w w' → Calls Tryd.prog 7 #[.slice (some ⟨mb, mo, none⟩) 3 mcap, .int .i64 9] w' fun e w2 => e = .returned (.bool true) ∧ w2 = w'))
    (SA : Hid (∀ w', Below w.heap.size w w' → w'.cell? ⟨lb, lo, none⟩ = some (.int .i64 x0) ∧ w'.cell? ⟨lb, lo + 1, none⟩ = some (.int .i64 x1) ∧ w'.cell? ⟨lb, lo + 2, none⟩ = some (.int .i64 x2) ∧ w'.cell? ⟨lb, lo + 3, none⟩ = some (.int .i64 x3) ∧ w'.cell? ⟨lb, lo + 4, none⟩ = some (.int .i64 x4) ∧ w'.cell? ⟨mb, mo, none⟩ = some (.int .i64 y0) ∧ w'.cell? ⟨mb, mo + 1, none⟩ = some (.int .i64 y1) ∧ w'.cell? ⟨mb, mo + 2, none⟩ = some (.int .i64 y2) ∧ w'.cell? ⟨mb, mo + 3, none⟩ = some (.int .i64 y3) ∧ w'.cell? ⟨mb, mo + 4, none⟩ = some (.int .i64 y4)))
    (HI : Hid ((I64 x3 ∧ I64 x4) ∧ (I64 y3 ∧ I64 y4)))
    (HAx : Hid (∀ (i : Nat) (x : Int), [x0, x1, x2][i]? = some x → Means (atoms 9) x (.atom x)))
    (HAy : Hid (∀ (i : Nat) (x : Int), [y0, y1, y2][i]? = some x → Means (atoms 9) x (.atom x)))
    (p0 : (x0 == y0) = true) (p1 : (x1 == y1) = true) (p3 : (x3 == y3) = false) :
    Calls Tryd.prog 4 #[.slice (some ⟨lb, lo, none⟩) 5 lcap, .slice (some ⟨mb, mo, none⟩) 5 mcap] w fun e w' => e = .returned (.bool true) ∧ Below w.heap.size w w' := by
  go_enter Tryd.func4, Tryd.ntmps4
  go_wp2_with fail
  refine (anchor_m hL).mono ?_
  rintro e w1 ⟨rfl, b1⟩
  go_wp2_with fail
  refine Calls.mono (HA.out _ b1) ?_; rintro e w2 ⟨rfl, hw2⟩; obtain rfl := hw2.symm
  go_wp2_with fail
  refine Calls.mono (HB.out _ b1) ?_; rintro e w3 ⟨rfl, hw3⟩; obtain rfl := hw3.symm
  go_wp2_with fail
  refine (stores_m (hL.low hL.big (fun k hk => b1.block k hk)) 9 (by decide)).mono ?_
  rintro e w3 ⟨s, r, rfl, hT⟩
  have HB1 : Hid (Below w.heap.size w w1) := b1
  have hlow := b1.trans (hT.low.mono b1.size)
  have HB80 : Hid (Below w.heap.size w w3.drew) := hlow.drew
  have HT80 : Hid (Two w1 s r w3.drew (atoms 9) 9 (atoms 9) 9) := hT.below ((Below.refl _ _).drew)
  have Hn8 : Hid ((atoms 9).length ≤ 9) := by rw [atoms_length]; exact Nat.le_refl 9
  have HP8 : atoms 9 <+: atoms 9 := List.prefix_refl _
  clear hT hlow b1 HA HB kl3 km3 hw2 hw3
  go_wp2_with fail
  go_region_held3 (fun w' => w'.cell? ⟨lb, lo, none⟩ = some (.int .i64 x0) ∧ w'.cell? ⟨lb, lo + 1, none⟩ = some (.int .i64 x1) ∧ w'.cell? ⟨lb, lo + 2, none⟩ = some (.int .i64 x2) ∧ w'.cell? ⟨lb, lo + 3, none⟩ = some (.int .i64 x3) ∧ w'.cell? ⟨lb, lo + 4, none⟩ = some (.int .i64 x4) ∧ w'.cell? ⟨mb, mo, none⟩ = some (.int .i64 y0) ∧ w'.cell? ⟨mb, mo + 1, none⟩ = some (.int .i64 y1) ∧ w'.cell? ⟨mb, mo + 2, none⟩ = some (.int .i64 y2) ∧ w'.cell? ⟨mb, mo + 3, none⟩ = some (.int .i64 y3) ∧ w'.cell? ⟨mb, mo + 4, none⟩ = some (.int .i64 y4))
    (first | with_reducible exact SA.out _ HB80.out | with_reducible exact SA.out _ HB81.out | with_reducible exact SA.out _ HB82.out)
    (first
      | (go_at_call 9
         have hq := context_m HT80.out.seat x3 x4 HI.out.1.1 HI.out.1.2 ((HAx.out 0 x0 rfl).keeps (HP8)) ((HAx.out 1 x1 rfl).keeps (HP8)) (by have := Hn8.out; omega)
         with_reducible refine Calls.mono hq ?_
         clear hq
         rintro e u81 ⟨t81, n81, rfl, r2, m2⟩
         have HT81 : Hid (Two w1 s r u81 n81 9 (atoms 9) 9) := HT80.out.run r2
         have HB81 : Hid (Below w.heap.size w u81) := HB1.out.trans (HT81.out.low.mono HB1.out.size)
         have M81 : Hid (Means n81 t81 (contextT x3 x4 (.atom x0) (.atom x1))) := m2
         have P81 : Hid (Stp (atoms 9) n81 7) := r2.st.mono (by decide)
         clear r2 m2)
      | (go_at_call 9
         have hq := context_m HT81.out.seat y3 y4 HI.out.2.1 HI.out.2.2 ((HAy.out 0 y0 rfl).keeps (HP8.trans P81.out.pre)) ((HAy.out 1 y1 rfl).keeps (HP8.trans P81.out.pre)) (by have := P81.out.len; have := Hn8.out; omega)
         with_reducible refine Calls.mono hq ?_
         clear hq
         rintro e u82 ⟨t82, n82, rfl, r2, m2⟩
         have HT82 : Hid (Two w1 s r u82 n82 9 (atoms 9) 9) := HT81.out.run r2
         have HB82 : Hid (Below w.heap.size w u82) := HB1.out.trans (HT82.out.low.mono HB1.out.size)
         have M82 : Hid (Means n82 t82 (contextT y3 y4 (.atom y0) (.atom y1))) := m2
         have P82 : Hid (Stp (atoms 9) n82 14) := (P81.out.trans r2.st).mono (by decide)
         have R8 : Hid (n81 <+: n82) := r2.st.pre
         clear r2 m2)
      | fail)
  have hlow := HB82.out
  have HB90 : Hid (Below w.heap.size w u82.drew) := hlow.drew
  have HT90 : Hid (Two w1 s r u82.drew n82 9 (atoms 9) 9) := HT82.out.below ((Below.refl _ _).drew)
  have Hn9 : Hid (n82.length ≤ 23) := by have := P82.out.len; have := Hn8.out; unfold Hid; omega
  have HP9 : atoms 9 <+: n82 := HP8.trans P82.out.pre
  clear hlow HB80 HB81 HT80 HT81
  go_wp2_with fail
  go_region_held3 (fun w' => w'.cell? ⟨lb, lo, none⟩ = some (.int .i64 x0) ∧ w'.cell? ⟨lb, lo + 1, none⟩ = some (.int .i64 x1) ∧ w'.cell? ⟨lb, lo + 2, none⟩ = some (.int .i64 x2) ∧ w'.cell? ⟨lb, lo + 3, none⟩ = some (.int .i64 x3) ∧ w'.cell? ⟨lb, lo + 4, none⟩ = some (.int .i64 x4) ∧ w'.cell? ⟨mb, mo, none⟩ = some (.int .i64 y0) ∧ w'.cell? ⟨mb, mo + 1, none⟩ = some (.int .i64 y1) ∧ w'.cell? ⟨mb, mo + 2, none⟩ = some (.int .i64 y2) ∧ w'.cell? ⟨mb, mo + 3, none⟩ = some (.int .i64 y3) ∧ w'.cell? ⟨mb, mo + 4, none⟩ = some (.int .i64 y4))
    (first | with_reducible exact SA.out _ HB90.out | with_reducible exact SA.out _ HB91.out | with_reducible exact SA.out _ HB92.out)
    (first
      | (go_at_call 17
         have hq := confirmed_m HT90.out.seat ((HAx.out 0 x0 rfl).keeps (HP9)) ((HAx.out 1 x1 rfl).keeps (HP9)) ((HAx.out 2 x2 rfl).keeps (HP9)) (by have := Hn9.out; omega)
         with_reducible refine Calls.mono hq ?_
         clear hq
         rintro e u91 ⟨t91, n91, rfl, r2, m2⟩
         have HT91 : Hid (Two w1 s r u91 n91 9 (atoms 9) 9) := HT90.out.run r2
         have HB91 : Hid (Below w.heap.size w u91) := HB1.out.trans (HT91.out.low.mono HB1.out.size)
         have M91 : Hid (Means n91 t91 (confirmedT (.atom x0) (.atom x1) (.atom x2))) := m2
         have P91 : Hid (Stp n82 n91 7) := r2.st.mono (by decide)
         clear r2 m2)
      | (go_at_call 17
         have hq := confirmed_m HT91.out.seat ((HAy.out 0 y0 rfl).keeps (HP9.trans P91.out.pre)) ((HAy.out 1 y1 rfl).keeps (HP9.trans P91.out.pre)) ((HAy.out 2 y2 rfl).keeps (HP9.trans P91.out.pre)) (by have := P91.out.len; have := Hn9.out; omega)
         with_reducible refine Calls.mono hq ?_
         clear hq
         rintro e u92 ⟨t92, n92, rfl, r2, m2⟩
         have HT92 : Hid (Two w1 s r u92 n92 9 (atoms 9) 9) := HT91.out.run r2
         have HB92 : Hid (Below w.heap.size w u92) := HB1.out.trans (HT92.out.low.mono HB1.out.size)
         have M92 : Hid (Means n92 t92 (confirmedT (.atom y0) (.atom y1) (.atom y2))) := m2
         have P92 : Hid (Stp n82 n92 14) := (P91.out.trans r2.st).mono (by decide)
         have R9 : Hid (n91 <+: n92) := r2.st.pre
         clear r2 m2)
      | fail)
  have hlow := HB92.out
  have HB100 : Hid (Below w.heap.size w u92.drew) := hlow.drew
  have HT100 : Hid (Two w1 s r u92.drew n92 9 (atoms 9) 9) := HT92.out.below ((Below.refl _ _).drew)
  have Hn10 : Hid (n92.length ≤ 37) := by have := P92.out.len; have := Hn9.out; unfold Hid; omega
  have HP10 : atoms 9 <+: n92 := HP9.trans P92.out.pre
  clear hlow HB90 HB91 HT90 HT91
  go_wp2_with fail
  go_region_held3 (fun w' => w'.cell? ⟨lb, lo, none⟩ = some (.int .i64 x0) ∧ w'.cell? ⟨lb, lo + 1, none⟩ = some (.int .i64 x1) ∧ w'.cell? ⟨lb, lo + 2, none⟩ = some (.int .i64 x2) ∧ w'.cell? ⟨lb, lo + 3, none⟩ = some (.int .i64 x3) ∧ w'.cell? ⟨lb, lo + 4, none⟩ = some (.int .i64 x4) ∧ w'.cell? ⟨mb, mo, none⟩ = some (.int .i64 y0) ∧ w'.cell? ⟨mb, mo + 1, none⟩ = some (.int .i64 y1) ∧ w'.cell? ⟨mb, mo + 2, none⟩ = some (.int .i64 y2) ∧ w'.cell? ⟨mb, mo + 3, none⟩ = some (.int .i64 y3) ∧ w'.cell? ⟨mb, mo + 4, none⟩ = some (.int .i64 y4))
    (first | with_reducible exact SA.out _ HB100.out | with_reducible exact SA.out _ HB101.out | with_reducible exact SA.out _ HB102.out)
    (first
      | (go_at_call 18
         have hq := interim_m HT100.out.seat ((HAx.out 0 x0 rfl).keeps (HP10)) ((HAx.out 1 x1 rfl).keeps (HP10)) (by have := Hn10.out; omega)
         with_reducible refine Calls.mono hq ?_
         clear hq
         rintro e u101 ⟨t101, n101, rfl, r2, m2⟩
         have HT101 : Hid (Two w1 s r u101 n101 9 (atoms 9) 9) := HT100.out.run r2
         have HB101 : Hid (Below w.heap.size w u101) := HB1.out.trans (HT101.out.low.mono HB1.out.size)
         have M101 : Hid (Means n101 t101 (interimT (.atom x0) (.atom x1))) := m2
         have P101 : Hid (Stp n92 n101 7) := r2.st.mono (by decide)
         clear r2 m2)
      | (go_at_call 18
         have hq := interim_m HT101.out.seat ((HAy.out 0 y0 rfl).keeps (HP10.trans P101.out.pre)) ((HAy.out 1 y1 rfl).keeps (HP10.trans P101.out.pre)) (by have := P101.out.len; have := Hn10.out; omega)
         with_reducible refine Calls.mono hq ?_
         clear hq
         rintro e u102 ⟨t102, n102, rfl, r2, m2⟩
         have HT102 : Hid (Two w1 s r u102 n102 9 (atoms 9) 9) := HT101.out.run r2
         have HB102 : Hid (Below w.heap.size w u102) := HB1.out.trans (HT102.out.low.mono HB1.out.size)
         have M102 : Hid (Means n102 t102 (interimT (.atom y0) (.atom y1))) := m2
         have P102 : Hid (Stp n92 n102 14) := (P101.out.trans r2.st).mono (by decide)
         have R10 : Hid (n101 <+: n102) := r2.st.pre
         clear r2 m2)
      | fail)
  have MA : Hid (Means n102 t81 (contextT x3 x4 (.atom x0) (.atom x1))) := M81.out.keeps (R8.out.trans (P92.out.pre.trans P102.out.pre))
  have MB : Hid (Means n102 t82 (contextT y3 y4 (.atom y0) (.atom y1))) := M82.out.keeps (P92.out.pre.trans P102.out.pre)
  have MC : Hid (Means n102 t91 (confirmedT (.atom x0) (.atom x1) (.atom x2))) := M91.out.keeps (R9.out.trans P102.out.pre)
  have MD : Hid (Means n102 t92 (confirmedT (.atom y0) (.atom y1) (.atom y2))) := M92.out.keeps P102.out.pre
  have ME : Hid (Means n102 t101 (interimT (.atom x0) (.atom x1))) := M101.out.keeps (R10.out)
  have hw := HT102.out.seat.wf
  have e1 : (t81 == t82) = (((x0 == y0 && x1 == y1) && x3 == y3) && x4 == y4) := by
    rw [Bool.eq_iff_iff]
    simp only [beq_iff_eq, Bool.and_eq_true]
    rw [Means.eq_iff hw MA.out MB.out, contextT_iff]
    simp only [Tm.atom.injEq]
    constructor
    · rintro ⟨a, b, c, d⟩; exact ⟨⟨⟨c, d⟩, a⟩, b⟩
    · rintro ⟨⟨⟨c, d⟩, a⟩, b⟩; exact ⟨a, b, c, d⟩
  have e2 : (t91 == t92) = ((x0 == y0 && x1 == y1) && x2 == y2) := by
    rw [Bool.eq_iff_iff]
    simp only [beq_iff_eq, Bool.and_eq_true]
    rw [Means.eq_iff hw MC.out MD.out, confirmedT_iff]
    simp only [Tm.atom.injEq]
    constructor
    · rintro ⟨a, b, c⟩; exact ⟨⟨a, b⟩, c⟩
    · rintro ⟨⟨a, b⟩, c⟩; exact ⟨a, b, c⟩
  have e3 : (t101 == t102) = (x0 == y0 && x1 == y1) := by
    rw [Bool.eq_iff_iff]
    simp only [beq_iff_eq, Bool.and_eq_true]
    rw [Means.eq_iff hw ME.out M102.out, interimT_iff]
    simp only [Tm.atom.injEq]
  have z1 : (t81 != 0) = true := by have := (hasB_iff _ _).1 (Means.has MA.out); simp; omega
  have z2 : (t91 != 0) = true := by have := (hasB_iff _ _).1 (Means.has MC.out); simp; omega
  have z3 : (t101 != 0) = true := by have := (hasB_iff _ _).1 (Means.has ME.out); simp; omega
  have z4 : (t81 != t91) = true := by
    rw [bne_iff_ne]
    rintro rfl
    exact context_confirmed (MA.out.one MC.out)
  have z5 : (t91 != t101) = true := by
    rw [bne_iff_ne]
    rintro rfl
    exact confirmed_interim (MC.out.one ME.out)
  have HLo : Hid (∀ n, Below w.heap.size w (u102.drewN n)) := fun n => below_drewN HB102.out n
  have S11 := SA.out u102 HB102.out
  have HS12 : Hid (u102.drew.drew.cell? ⟨lb, lo, none⟩ = some (.int .i64 x0) ∧ u102.drew.drew.cell? ⟨lb, lo + 1, none⟩ = some (.int .i64 x1) ∧ u102.drew.drew.cell? ⟨lb, lo + 2, none⟩ = some (.int .i64 x2) ∧ u102.drew.drew.cell? ⟨lb, lo + 3, none⟩ = some (.int .i64 x3) ∧ u102.drew.drew.cell? ⟨lb, lo + 4, none⟩ = some (.int .i64 x4) ∧ u102.drew.drew.cell? ⟨mb, mo, none⟩ = some (.int .i64 y0) ∧ u102.drew.drew.cell? ⟨mb, mo + 1, none⟩ = some (.int .i64 y1) ∧ u102.drew.drew.cell? ⟨mb, mo + 2, none⟩ = some (.int .i64 y2) ∧ u102.drew.drew.cell? ⟨mb, mo + 3, none⟩ = some (.int .i64 y3) ∧ u102.drew.drew.cell? ⟨mb, mo + 4, none⟩ = some (.int .i64 y4)) := SA.out u102.drew.drew HB102.out.drew.drew
  clear MA MB MC MD ME hw M81 M82 M91 M92 M101 M102 P81 P82 P91 P92 P101 P102 HT102 HT101 HT100 HB102 HB101 HB100 Hn8 Hn9 Hn10 HP8 HP9 HP10 HAx HAy HI HB1 SA
  obtain ⟨v0, v1, v2, v3, v4, u0, u1, u2, u3, u4⟩ := S11
  obtain ⟨q2, p2⟩ : ∃ q, (x2 == y2) = q := ⟨_, rfl⟩
  rw [p0, p1, p3] at e1
  rw [p0, p1, p2] at e2
  rw [p0, p1] at e3
  simp only [Bool.true_and, Bool.false_and] at e1 e2 e3
  go_wp2_with fail
  go_quiet (fail)
  clear v0 v1 v2 v3 v4 u0 u1 u2 u3 u4
  go_wp2_with fail
  refine wp_region_held_drew (S := fun w' => w'.cell? ⟨lb, lo, none⟩ = some (.int .i64 x0) ∧ w'.cell? ⟨lb, lo + 1, none⟩ = some (.int .i64 x1) ∧ w'.cell? ⟨lb, lo + 2, none⟩ = some (.int .i64 x2) ∧ w'.cell? ⟨lb, lo + 3, none⟩ = some (.int .i64 x3) ∧ w'.cell? ⟨lb, lo + 4, none⟩ = some (.int .i64 x4) ∧ w'.cell? ⟨mb, mo, none⟩ = some (.int .i64 y0) ∧ w'.cell? ⟨mb, mo + 1, none⟩ = some (.int .i64 y1) ∧ w'.cell? ⟨mb, mo + 2, none⟩ = some (.int .i64 y2) ∧ w'.cell? ⟨mb, mo + 3, none⟩ = some (.int .i64 y3) ∧ w'.cell? ⟨mb, mo + 4, none⟩ = some (.int .i64 y4)) (by kernel_rfl) HS12.out (fun hS => ?_)
  refine wpAnyH_take (i := 0) (oi := _) (v := .int .i64 t81) rfl (by kernel_rfl) (by kernel_rfl) (by kernel_rfl) (fun _ _ _ h => h) (Or.inl ⟨by kernel_rfl, fun w' hw' => by
    try dsimp only at hw'
    go_simp⟩) hS ?_
  try simp only [Act.put, List.setIfInBounds_toArray, List.set_cons_zero, List.set_cons_succ]
  refine wpAnyH_take (i := 1) (oi := _) (v := .bool true) rfl (by kernel_rfl) (by kernel_rfl) (by kernel_rfl) (fun _ _ _ h => h) (Or.inl ⟨by kernel_rfl, fun w' hw' => by
    try dsimp only at hw'
    go_simp⟩) hS ?_
  try simp only [Act.put, List.setIfInBounds_toArray, List.set_cons_zero, List.set_cons_succ]
  refine wpAnyH_take (i := 2) (oi := _) (v := .bool true) rfl (by kernel_rfl) (by kernel_rfl) (by kernel_rfl) (fun _ _ _ h => h) (Or.inl ⟨by kernel_rfl, fun w' hw' => by
    try dsimp only at hw'
    go_simp⟩) hS ?_
  try simp only [Act.put, List.setIfInBounds_toArray, List.set_cons_zero, List.set_cons_succ]
  refine wpAnyH_take (i := 3) (oi := _) (v := .int .i64 t91) rfl (by kernel_rfl) (by kernel_rfl) (by kernel_rfl) (fun _ _ _ h => h) (Or.inl ⟨by kernel_rfl, fun w' hw' => by
    try dsimp only at hw'
    go_simp⟩) hS ?_
  try simp only [Act.put, List.setIfInBounds_toArray, List.set_cons_zero, List.set_cons_succ]
  refine wpAnyH_take (i := 4) (oi := _) (v := .bool true) rfl (by kernel_rfl) (by kernel_rfl) (by kernel_rfl) (fun _ _ _ h => h) (Or.inl ⟨by kernel_rfl, fun w' hw' => by
    try dsimp only at hw'
    go_simp⟩) hS ?_
  try simp only [Act.put, List.setIfInBounds_toArray, List.set_cons_zero, List.set_cons_succ]
  refine wpAnyH_take (i := 5) (oi := _) (v := .bool true) rfl (by kernel_rfl) (by kernel_rfl) (by kernel_rfl) (fun _ _ _ h => h) (Or.inl ⟨by kernel_rfl, fun w' hw' => by
    try dsimp only at hw'
    go_simp⟩) hS ?_
  try simp only [Act.put, List.setIfInBounds_toArray, List.set_cons_zero, List.set_cons_succ]
  refine wpAnyH_take (i := 6) (oi := _) (v := .bool true) rfl (by kernel_rfl) (by kernel_rfl) (by kernel_rfl) (fun _ _ _ h => h) (Or.inl ⟨by kernel_rfl, fun w' hw' => by
    try dsimp only at hw'
    go_simp⟩) hS ?_
  try simp only [Act.put, List.setIfInBounds_toArray, List.set_cons_zero, List.set_cons_succ]
  refine wpAnyH_take (i := 7) (oi := _) (v := .int .i64 t101) rfl (by kernel_rfl) (by kernel_rfl) (by kernel_rfl) (fun _ _ _ h => h) (Or.inl ⟨by kernel_rfl, fun w' hw' => by
    try dsimp only at hw'
    go_simp⟩) hS ?_
  try simp only [Act.put, List.setIfInBounds_toArray, List.set_cons_zero, List.set_cons_succ]
  refine wpAnyH_take (i := 8) (oi := _) (v := .bool true) rfl (by kernel_rfl) (by kernel_rfl) (by kernel_rfl) (fun _ _ _ h => h) (Or.inl ⟨by kernel_rfl, fun w' hw' => by
    try dsimp only at hw'
    go_simp⟩) hS ?_
  try simp only [Act.put, List.setIfInBounds_toArray, List.set_cons_zero, List.set_cons_succ]
  refine wpAnyH_take (i := 9) (oi := _) (v := .bool true) rfl (by kernel_rfl) (by kernel_rfl) (by kernel_rfl) (fun _ _ _ h => h) (Or.inl ⟨by kernel_rfl, fun w' hw' => by
    try dsimp only at hw'
    go_simp⟩) hS ?_
  try simp only [Act.put, List.setIfInBounds_toArray, List.set_cons_zero, List.set_cons_succ]
  refine wpAnyH_take (i := 10) (oi := _) (v := .bool true) rfl (by kernel_rfl) (by kernel_rfl) (by kernel_rfl) (fun _ _ _ h => h) (Or.inl ⟨by kernel_rfl, fun w' hw' => by
    try dsimp only at hw'
    go_simp⟩) hS ?_
  try simp only [Act.put, List.setIfInBounds_toArray, List.set_cons_zero, List.set_cons_succ]
  refine wpAnyH_take (i := 11) (oi := _) (v := .int .i64 t81) rfl (by kernel_rfl) (by kernel_rfl) (by kernel_rfl) (fun _ _ _ h => h) (Or.inl ⟨by kernel_rfl, fun w' hw' => by
    try dsimp only at hw'
    go_simp⟩) hS ?_
  try simp only [Act.put, List.setIfInBounds_toArray, List.set_cons_zero, List.set_cons_succ]
  refine wpAnyH_take (i := 12) (oi := _) (v := .int .i64 t82) rfl (by kernel_rfl) (by kernel_rfl) (by kernel_rfl) (fun _ _ _ h => h) (Or.inl ⟨by kernel_rfl, fun w' hw' => by
    try dsimp only at hw'
    go_simp⟩) hS ?_
  try simp only [Act.put, List.setIfInBounds_toArray, List.set_cons_zero, List.set_cons_succ]
  refine wpAnyH_take (i := 13) (oi := _) (v := .bool false) rfl (by kernel_rfl) (by kernel_rfl) (by kernel_rfl) (fun _ _ _ h => h) (Or.inl ⟨by kernel_rfl, fun w' hw' => by
    try dsimp only at hw'
    go_simp⟩) hS ?_
  try simp only [Act.put, List.setIfInBounds_toArray, List.set_cons_zero, List.set_cons_succ]
  refine wpAnyH_take (i := 14) (oi := _) (v := .bool true) rfl (by kernel_rfl) (by kernel_rfl) (by kernel_rfl) (fun _ _ _ h => h) (Or.inl ⟨by kernel_rfl, fun w' hw' => by
    try dsimp only at hw'
    go_simp⟩) hS ?_
  try simp only [Act.put, List.setIfInBounds_toArray, List.set_cons_zero, List.set_cons_succ]
  refine wpAnyH_take (i := 15) (oi := _) (v := .bool true) rfl (by kernel_rfl) (by kernel_rfl) (by kernel_rfl) (fun _ _ _ h => h) (Or.inl ⟨by kernel_rfl, fun w' hw' => by
    try dsimp only at hw'
    go_simp⟩) hS ?_
  try simp only [Act.put, List.setIfInBounds_toArray, List.set_cons_zero, List.set_cons_succ]
  refine wpAnyH_take (i := 16) (oi := _) (v := .slice (some ⟨lb, lo, none⟩) 5 lcap) rfl (by kernel_rfl) (by kernel_rfl) (by kernel_rfl) (fun _ _ _ h => h) (Or.inl ⟨by kernel_rfl, fun w' hw' => by
    try dsimp only at hw'
    go_simp⟩) hS ?_
  try simp only [Act.put, List.setIfInBounds_toArray, List.set_cons_zero, List.set_cons_succ]
  refine wpAnyH_take (i := 17) (oi := _) (v := .pointer (some ⟨lb, lo + 3, none⟩)) rfl (by kernel_rfl) (by kernel_rfl) (by kernel_rfl) (fun _ _ _ h => h) (Or.inl ⟨by kernel_rfl, fun w' hw' => by
    try dsimp only at hw'
    go_simp⟩) hS ?_
  try simp only [Act.put, List.setIfInBounds_toArray, List.set_cons_zero, List.set_cons_succ]
  refine wpAnyH_take (i := 18) (oi := _) (v := .int .i64 x3) rfl (by kernel_rfl) (by kernel_rfl) (by kernel_rfl) (fun _ _ _ h => h) (Or.inl ⟨by kernel_rfl, fun w' hw' => by
    try dsimp only at hw'
    obtain ⟨r0, r1, r2, r3, r4, s0, s1, s2, s3, s4⟩ := hw'
    go_simp⟩) hS ?_
  try simp only [Act.put, List.setIfInBounds_toArray, List.set_cons_zero, List.set_cons_succ]
  refine wpAnyH_take (i := 19) (oi := _) (v := .slice (some ⟨mb, mo, none⟩) 5 mcap) rfl (by kernel_rfl) (by kernel_rfl) (by kernel_rfl) (fun _ _ _ h => h) (Or.inl ⟨by kernel_rfl, fun w' hw' => by
    try dsimp only at hw'
    go_simp⟩) hS ?_
  try simp only [Act.put, List.setIfInBounds_toArray, List.set_cons_zero, List.set_cons_succ]
  refine wpAnyH_take (i := 20) (oi := _) (v := .pointer (some ⟨mb, mo + 3, none⟩)) rfl (by kernel_rfl) (by kernel_rfl) (by kernel_rfl) (fun _ _ _ h => h) (Or.inl ⟨by kernel_rfl, fun w' hw' => by
    try dsimp only at hw'
    go_simp⟩) hS ?_
  try simp only [Act.put, List.setIfInBounds_toArray, List.set_cons_zero, List.set_cons_succ]
  refine wpAnyH_take (i := 21) (oi := _) (v := .int .i64 y3) rfl (by kernel_rfl) (by kernel_rfl) (by kernel_rfl) (fun _ _ _ h => h) (Or.inl ⟨by kernel_rfl, fun w' hw' => by
    try dsimp only at hw'
    obtain ⟨r0, r1, r2, r3, r4, s0, s1, s2, s3, s4⟩ := hw'
    go_simp⟩) hS ?_
  try simp only [Act.put, List.setIfInBounds_toArray, List.set_cons_zero, List.set_cons_succ]
  refine wpAnyH_take (i := 22) (oi := _) (v := .bool false) rfl (by kernel_rfl) (by kernel_rfl) (by kernel_rfl) (fun _ _ _ h => h) (Or.inl ⟨by kernel_rfl, fun w' hw' => by
    try dsimp only at hw'
    go_simp⟩) hS ?_
  try simp only [Act.put, List.setIfInBounds_toArray, List.set_cons_zero, List.set_cons_succ]
  refine wpAnyH_take (i := 23) (oi := _) (v := .bool false) rfl (by kernel_rfl) (by kernel_rfl) (by kernel_rfl) (fun _ _ _ h => h) (Or.inl ⟨by kernel_rfl, fun w' hw' => by
    try dsimp only at hw'
    go_simp⟩) hS ?_
  try simp only [Act.put, List.setIfInBounds_toArray, List.set_cons_zero, List.set_cons_succ]
  refine wpAnyH_take (i := 24) (oi := _) (v := .bool false) rfl (by kernel_rfl) (by kernel_rfl) (by kernel_rfl) (fun _ _ _ h => h) (Or.inl ⟨by kernel_rfl, fun w' hw' => by
    try dsimp only at hw'
    go_simp⟩) hS ?_
  try simp only [Act.put, List.setIfInBounds_toArray, List.set_cons_zero, List.set_cons_succ]
  refine wpAnyH_take (i := 25) (oi := _) (v := undef) rfl (by kernel_rfl) (by kernel_rfl) (by kernel_rfl) (fun _ _ _ h => h) (Or.inr ⟨by kernel_rfl, rfl⟩) hS ?_
  try simp only [Act.put, List.setIfInBounds_toArray, List.set_cons_zero, List.set_cons_succ]
  refine wpAnyH_take (i := 26) (oi := _) (v := undef) rfl (by kernel_rfl) (by kernel_rfl) (by kernel_rfl) (fun _ _ _ h => h) (Or.inr ⟨by kernel_rfl, rfl⟩) hS ?_
  try simp only [Act.put, List.setIfInBounds_toArray, List.set_cons_zero, List.set_cons_succ]
  refine wpAnyH_take (i := 27) (oi := _) (v := undef) rfl (by kernel_rfl) (by kernel_rfl) (by kernel_rfl) (fun _ _ _ h => h) (Or.inr ⟨by kernel_rfl, rfl⟩) hS ?_
  try simp only [Act.put, List.setIfInBounds_toArray, List.set_cons_zero, List.set_cons_succ]
  refine wpAnyH_take (i := 28) (oi := _) (v := undef) rfl (by kernel_rfl) (by kernel_rfl) (by kernel_rfl) (fun _ _ _ h => h) (Or.inr ⟨by kernel_rfl, rfl⟩) hS ?_
  try simp only [Act.put, List.setIfInBounds_toArray, List.set_cons_zero, List.set_cons_succ]
  refine wpAnyH_take (i := 29) (oi := _) (v := undef) rfl (by kernel_rfl) (by kernel_rfl) (by kernel_rfl) (fun _ _ _ h => h) (Or.inr ⟨by kernel_rfl, rfl⟩) hS ?_
  try simp only [Act.put, List.setIfInBounds_toArray, List.set_cons_zero, List.set_cons_succ]
  refine wpAnyH_take (i := 30) (oi := _) (v := undef) rfl (by kernel_rfl) (by kernel_rfl) (by kernel_rfl) (fun _ _ _ h => h) (Or.inr ⟨by kernel_rfl, rfl⟩) hS ?_
  try simp only [Act.put, List.setIfInBounds_toArray, List.set_cons_zero, List.set_cons_succ]
  refine wpAnyH_take (i := 31) (oi := _) (v := undef) rfl (by kernel_rfl) (by kernel_rfl) (by kernel_rfl) (fun _ _ _ h => h) (Or.inr ⟨by kernel_rfl, rfl⟩) hS ?_
  try simp only [Act.put, List.setIfInBounds_toArray, List.set_cons_zero, List.set_cons_succ]
  refine wpAnyH_take (i := 32) (oi := _) (v := .bool false) rfl (by kernel_rfl) (by kernel_rfl) (by kernel_rfl) (fun _ _ _ h => h) (Or.inl ⟨by kernel_rfl, fun w' hw' => by
    try dsimp only at hw'
    go_simp⟩) hS ?_
  try simp only [Act.put, List.setIfInBounds_toArray, List.set_cons_zero, List.set_cons_succ]
  refine wpAnyH_take (i := 33) (oi := _) (v := .bool true) rfl (by kernel_rfl) (by kernel_rfl) (by kernel_rfl) (fun _ _ _ h => h) (Or.inl ⟨by kernel_rfl, fun w' hw' => by
    try dsimp only at hw'
    go_simp⟩) hS ?_
  try simp only [Act.put, List.setIfInBounds_toArray, List.set_cons_zero, List.set_cons_succ]
  refine wpAnyH_take (i := 34) (oi := _) (v := .bool true) rfl (by kernel_rfl) (by kernel_rfl) (by kernel_rfl) (fun _ _ _ h => h) (Or.inl ⟨by kernel_rfl, fun w' hw' => by
    try dsimp only at hw'
    go_simp⟩) hS ?_
  try simp only [Act.put, List.setIfInBounds_toArray, List.set_cons_zero, List.set_cons_succ]
  refine wpAnyH_take (i := 35) (oi := _) (v := .bool true) rfl (by kernel_rfl) (by kernel_rfl) (by kernel_rfl) (fun _ _ _ h => h) (Or.inl ⟨by kernel_rfl, fun w' hw' => by
    try dsimp only at hw'
    go_simp⟩) hS ?_
  try simp only [Act.put, List.setIfInBounds_toArray, List.set_cons_zero, List.set_cons_succ]
  refine wpAnyH_take (i := 36) (oi := _) (v := .int .i64 t91) rfl (by kernel_rfl) (by kernel_rfl) (by kernel_rfl) (fun _ _ _ h => h) (Or.inl ⟨by kernel_rfl, fun w' hw' => by
    try dsimp only at hw'
    go_simp⟩) hS ?_
  try simp only [Act.put, List.setIfInBounds_toArray, List.set_cons_zero, List.set_cons_succ]
  refine wpAnyH_take (i := 37) (oi := _) (v := .int .i64 t92) rfl (by kernel_rfl) (by kernel_rfl) (by kernel_rfl) (fun _ _ _ h => h) (Or.inl ⟨by kernel_rfl, fun w' hw' => by
    try dsimp only at hw'
    go_simp⟩) hS ?_
  try simp only [Act.put, List.setIfInBounds_toArray, List.set_cons_zero, List.set_cons_succ]
  refine wpAnyH_take (i := 38) (oi := _) (v := .bool q2) rfl (by kernel_rfl) (by kernel_rfl) (by kernel_rfl) (fun _ _ _ h => h) (Or.inl ⟨by kernel_rfl, fun w' hw' => by
    try dsimp only at hw'
    go_simp⟩) hS ?_
  try simp only [Act.put, List.setIfInBounds_toArray, List.set_cons_zero, List.set_cons_succ]
  refine wpAnyH_take (i := 39) (oi := _) (v := .bool true) rfl (by kernel_rfl) (by kernel_rfl) (by kernel_rfl) (fun _ _ _ h => h) (Or.inl ⟨by kernel_rfl, fun w' hw' => by
    try dsimp only at hw'
    go_simp⟩) hS ?_
  try simp only [Act.put, List.setIfInBounds_toArray, List.set_cons_zero, List.set_cons_succ]
  refine wpAnyH_take (i := 40) (oi := _) (v := .bool true) rfl (by kernel_rfl) (by kernel_rfl) (by kernel_rfl) (fun _ _ _ h => h) (Or.inl ⟨by kernel_rfl, fun w' hw' => by
    try dsimp only at hw'
    go_simp⟩) hS ?_
  try simp only [Act.put, List.setIfInBounds_toArray, List.set_cons_zero, List.set_cons_succ]
  refine wpAnyH_take (i := 41) (oi := _) (v := .slice (some ⟨lb, lo, none⟩) 5 lcap) rfl (by kernel_rfl) (by kernel_rfl) (by kernel_rfl) (fun _ _ _ h => h) (Or.inl ⟨by kernel_rfl, fun w' hw' => by
    try dsimp only at hw'
    go_simp⟩) hS ?_
  try simp only [Act.put, List.setIfInBounds_toArray, List.set_cons_zero, List.set_cons_succ]
  refine wpAnyH_take (i := 42) (oi := _) (v := .pointer (some ⟨lb, lo + 2, none⟩)) rfl (by kernel_rfl) (by kernel_rfl) (by kernel_rfl) (fun _ _ _ h => h) (Or.inl ⟨by kernel_rfl, fun w' hw' => by
    try dsimp only at hw'
    go_simp⟩) hS ?_
  try simp only [Act.put, List.setIfInBounds_toArray, List.set_cons_zero, List.set_cons_succ]
  refine wpAnyH_take (i := 43) (oi := _) (v := .int .i64 x2) rfl (by kernel_rfl) (by kernel_rfl) (by kernel_rfl) (fun _ _ _ h => h) (Or.inl ⟨by kernel_rfl, fun w' hw' => by
    try dsimp only at hw'
    obtain ⟨r0, r1, r2, r3, r4, s0, s1, s2, s3, s4⟩ := hw'
    go_simp⟩) hS ?_
  try simp only [Act.put, List.setIfInBounds_toArray, List.set_cons_zero, List.set_cons_succ]
  refine wpAnyH_take (i := 44) (oi := _) (v := .slice (some ⟨mb, mo, none⟩) 5 mcap) rfl (by kernel_rfl) (by kernel_rfl) (by kernel_rfl) (fun _ _ _ h => h) (Or.inl ⟨by kernel_rfl, fun w' hw' => by
    try dsimp only at hw'
    go_simp⟩) hS ?_
  try simp only [Act.put, List.setIfInBounds_toArray, List.set_cons_zero, List.set_cons_succ]
  refine wpAnyH_take (i := 45) (oi := _) (v := .pointer (some ⟨mb, mo + 2, none⟩)) rfl (by kernel_rfl) (by kernel_rfl) (by kernel_rfl) (fun _ _ _ h => h) (Or.inl ⟨by kernel_rfl, fun w' hw' => by
    try dsimp only at hw'
    go_simp⟩) hS ?_
  try simp only [Act.put, List.setIfInBounds_toArray, List.set_cons_zero, List.set_cons_succ]
  refine wpAnyH_take (i := 46) (oi := _) (v := .int .i64 y2) rfl (by kernel_rfl) (by kernel_rfl) (by kernel_rfl) (fun _ _ _ h => h) (Or.inl ⟨by kernel_rfl, fun w' hw' => by
    try dsimp only at hw'
    obtain ⟨r0, r1, r2, r3, r4, s0, s1, s2, s3, s4⟩ := hw'
    go_simp⟩) hS ?_
  try simp only [Act.put, List.setIfInBounds_toArray, List.set_cons_zero, List.set_cons_succ]
  refine wpAnyH_take (i := 47) (oi := _) (v := .bool q2) rfl (by kernel_rfl) (by kernel_rfl) (by kernel_rfl) (fun _ _ _ h => h) (Or.inl ⟨by kernel_rfl, fun w' hw' => by
    try dsimp only at hw'
    go_simp⟩) hS ?_
  try simp only [Act.put, List.setIfInBounds_toArray, List.set_cons_zero, List.set_cons_succ]
  refine wpAnyH_take (i := 48) (oi := _) (v := .bool q2) rfl (by kernel_rfl) (by kernel_rfl) (by kernel_rfl) (fun _ _ _ h => h) (Or.inl ⟨by kernel_rfl, fun w' hw' => by
    try dsimp only at hw'
    go_simp⟩) hS ?_
  try simp only [Act.put, List.setIfInBounds_toArray, List.set_cons_zero, List.set_cons_succ]
  refine wpAnyH_take (i := 49) (oi := _) (v := .bool true) rfl (by kernel_rfl) (by kernel_rfl) (by kernel_rfl) (fun _ _ _ h => h) (Or.inl ⟨by kernel_rfl, fun w' hw' => by
    try dsimp only at hw'
    go_simp⟩) hS ?_
  try simp only [Act.put, List.setIfInBounds_toArray, List.set_cons_zero, List.set_cons_succ]
  refine wpAnyH_take (i := 50) (oi := _) (v := .bool true) rfl (by kernel_rfl) (by kernel_rfl) (by kernel_rfl) (fun _ _ _ h => h) (Or.inl ⟨by kernel_rfl, fun w' hw' => by
    try dsimp only at hw'
    go_simp⟩) hS ?_
  try simp only [Act.put, List.setIfInBounds_toArray, List.set_cons_zero, List.set_cons_succ]
  refine wpAnyH_take (i := 51) (oi := _) (v := .bool true) rfl (by kernel_rfl) (by kernel_rfl) (by kernel_rfl) (fun _ _ _ h => h) (Or.inl ⟨by kernel_rfl, fun w' hw' => by
    try dsimp only at hw'
    go_simp⟩) hS ?_
  try simp only [Act.put, List.setIfInBounds_toArray, List.set_cons_zero, List.set_cons_succ]
  refine wpAnyH_take (i := 52) (oi := _) (v := .int .i64 t101) rfl (by kernel_rfl) (by kernel_rfl) (by kernel_rfl) (fun _ _ _ h => h) (Or.inl ⟨by kernel_rfl, fun w' hw' => by
    try dsimp only at hw'
    go_simp⟩) hS ?_
  try simp only [Act.put, List.setIfInBounds_toArray, List.set_cons_zero, List.set_cons_succ]
  refine wpAnyH_take (i := 53) (oi := _) (v := .int .i64 t102) rfl (by kernel_rfl) (by kernel_rfl) (by kernel_rfl) (fun _ _ _ h => h) (Or.inl ⟨by kernel_rfl, fun w' hw' => by
    try dsimp only at hw'
    go_simp⟩) hS ?_
  try simp only [Act.put, List.setIfInBounds_toArray, List.set_cons_zero, List.set_cons_succ]
  refine wpAnyH_take (i := 54) (oi := _) (v := .bool true) rfl (by kernel_rfl) (by kernel_rfl) (by kernel_rfl) (fun _ _ _ h => h) (Or.inl ⟨by kernel_rfl, fun w' hw' => by
    try dsimp only at hw'
    go_simp⟩) hS ?_
  try simp only [Act.put, List.setIfInBounds_toArray, List.set_cons_zero, List.set_cons_succ]
  refine wpAnyH_take (i := 55) (oi := _) (v := .bool true) rfl (by kernel_rfl) (by kernel_rfl) (by kernel_rfl) (fun _ _ _ h => h) (Or.inl ⟨by kernel_rfl, fun w' hw' => by
    try dsimp only at hw'
    go_simp⟩) hS ?_
  try simp only [Act.put, List.setIfInBounds_toArray, List.set_cons_zero, List.set_cons_succ]
  refine wpAnyH_take (i := 56) (oi := _) (v := .bool true) rfl (by kernel_rfl) (by kernel_rfl) (by kernel_rfl) (fun _ _ _ h => h) (Or.inl ⟨by kernel_rfl, fun w' hw' => by
    try dsimp only at hw'
    go_simp⟩) hS ?_
  try simp only [Act.put, List.setIfInBounds_toArray, List.set_cons_zero, List.set_cons_succ]
  refine wpAnyH_take (i := 57) (oi := _) (v := .bool true) rfl (by kernel_rfl) (by kernel_rfl) (by kernel_rfl) (fun _ _ _ h => h) (Or.inl ⟨by kernel_rfl, fun w' hw' => by
    try dsimp only at hw'
    go_simp⟩) hS ?_
  try simp only [Act.put, List.setIfInBounds_toArray, List.set_cons_zero, List.set_cons_succ]
  refine wpAnyH_take (i := 58) (oi := _) (v := .bool true) rfl (by kernel_rfl) (by kernel_rfl) (by kernel_rfl) (fun _ _ _ h => h) (Or.inl ⟨by kernel_rfl, fun w' hw' => by
    try dsimp only at hw'
    go_simp⟩) hS ?_
  try simp only [Act.put, List.setIfInBounds_toArray, List.set_cons_zero, List.set_cons_succ]
  refine wpAnyH_take (i := 59) (oi := _) (v := .int .i64 t81) rfl (by kernel_rfl) (by kernel_rfl) (by kernel_rfl) (fun _ _ _ h => h) (Or.inl ⟨by kernel_rfl, fun w' hw' => by
    try dsimp only at hw'
    go_simp⟩) hS ?_
  try simp only [Act.put, List.setIfInBounds_toArray, List.set_cons_zero, List.set_cons_succ]
  refine wpAnyH_take (i := 60) (oi := _) (v := .int .i64 t91) rfl (by kernel_rfl) (by kernel_rfl) (by kernel_rfl) (fun _ _ _ h => h) (Or.inl ⟨by kernel_rfl, fun w' hw' => by
    try dsimp only at hw'
    go_simp⟩) hS ?_
  try simp only [Act.put, List.setIfInBounds_toArray, List.set_cons_zero, List.set_cons_succ]
  refine wpAnyH_take (i := 61) (oi := _) (v := .bool true) rfl (by kernel_rfl) (by kernel_rfl) (by kernel_rfl) (fun _ _ _ h => h) (Or.inl ⟨by kernel_rfl, fun w' hw' => by
    try dsimp only at hw'
    go_simp⟩) hS ?_
  try simp only [Act.put, List.setIfInBounds_toArray, List.set_cons_zero, List.set_cons_succ]
  refine wpAnyH_take (i := 62) (oi := _) (v := .bool true) rfl (by kernel_rfl) (by kernel_rfl) (by kernel_rfl) (fun _ _ _ h => h) (Or.inl ⟨by kernel_rfl, fun w' hw' => by
    try dsimp only at hw'
    go_simp⟩) hS ?_
  try simp only [Act.put, List.setIfInBounds_toArray, List.set_cons_zero, List.set_cons_succ]
  refine wpAnyH_take (i := 63) (oi := _) (v := .bool true) rfl (by kernel_rfl) (by kernel_rfl) (by kernel_rfl) (fun _ _ _ h => h) (Or.inl ⟨by kernel_rfl, fun w' hw' => by
    try dsimp only at hw'
    go_simp⟩) hS ?_
  try simp only [Act.put, List.setIfInBounds_toArray, List.set_cons_zero, List.set_cons_succ]
  refine wpAnyH_take (i := 64) (oi := _) (v := .int .i64 t91) rfl (by kernel_rfl) (by kernel_rfl) (by kernel_rfl) (fun _ _ _ h => h) (Or.inl ⟨by kernel_rfl, fun w' hw' => by
    try dsimp only at hw'
    go_simp⟩) hS ?_
  try simp only [Act.put, List.setIfInBounds_toArray, List.set_cons_zero, List.set_cons_succ]
  refine wpAnyH_take (i := 65) (oi := _) (v := .int .i64 t101) rfl (by kernel_rfl) (by kernel_rfl) (by kernel_rfl) (fun _ _ _ h => h) (Or.inl ⟨by kernel_rfl, fun w' hw' => by
    try dsimp only at hw'
    go_simp⟩) hS ?_
  try simp only [Act.put, List.setIfInBounds_toArray, List.set_cons_zero, List.set_cons_succ]
  refine wpAnyH_take (i := 66) (oi := _) (v := .bool true) rfl (by kernel_rfl) (by kernel_rfl) (by kernel_rfl) (fun _ _ _ h => h) (Or.inl ⟨by kernel_rfl, fun w' hw' => by
    try dsimp only at hw'
    go_simp⟩) hS ?_
  try simp only [Act.put, List.setIfInBounds_toArray, List.set_cons_zero, List.set_cons_succ]
  refine wpAnyH_take (i := 67) (oi := _) (v := .bool true) rfl (by kernel_rfl) (by kernel_rfl) (by kernel_rfl) (fun _ _ _ h => h) (Or.inl ⟨by kernel_rfl, fun w' hw' => by
    try dsimp only at hw'
    go_simp⟩) hS ?_
  try simp only [Act.put, List.setIfInBounds_toArray, List.set_cons_zero, List.set_cons_succ]
  refine wpAnyH_take (i := 68) (oi := _) (v := .bool true) rfl (by kernel_rfl) (by kernel_rfl) (by kernel_rfl) (fun _ _ _ h => h) (Or.inl ⟨by kernel_rfl, fun w' hw' => by
    try dsimp only at hw'
    go_simp⟩) hS ?_
  try simp only [Act.put, List.setIfInBounds_toArray, List.set_cons_zero, List.set_cons_succ]
  refine wpAnyH_done (by kernel_rfl) ?_ _
  go_wp2_with fail
  go_ret
  refine ⟨?_, HLo.out _⟩
  rename_i o1 d1 f1 o2 d2 f2
  first
    | (have k1 : 4 = d1 := Option.some.inj (show some 4 = some d1 from f1)
       have k2 : 191 = d2 := Option.some.inj (show some 191 = some d2 from f2)
       subst k1
       subst k2
       simp
       done)
    | (have k1 : 191 = d1 := Option.some.inj (show some 191 = some d1 from f1)
       have k2 : 4 = d2 := Option.some.inj (show some 4 = some d2 from f2)
       subst k1
       subst k2
       simp
       done)

end Go.Proofs.YtcfmagmhnemhaaaDoor
