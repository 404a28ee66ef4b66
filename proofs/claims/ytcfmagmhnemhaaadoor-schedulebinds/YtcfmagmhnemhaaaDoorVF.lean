/-
  Join and Next: the epoch behind a joiner secret; what is exported.
-/
import Derived.Test.YtcfmagmhnemhaaaDoorVD
import Derived.Test.YtcfmagmhnemhaaaDoorVE
namespace Go.Proofs.YtcfmagmhnemhaaaDoor
open Go.RowKit
set_option linter.unusedSimpArgs false
set_option linter.unusedVariables false
attribute [local go_sem ↓] Go.wp_at_zero Go.wp_at_succ

/-- An epoch as a value, and what its secrets mean. -/
def EpAt (ns : List Nd) (v : Value) (L : List Tm) : Prop := ∃ a0 a1 a2 a3 a4 a5 a6 a7 a8 a9 a10 a11 a12 : Int, v = .agg #[.int .i64 a0, .int .i64 a1, .int .i64 a2, .int .i64 a3, .int .i64 a4, .int .i64 a5, .int .i64 a6, .int .i64 a7, .int .i64 a8, .int .i64 a9, .int .i64 a10, .int .i64 a11, .int .i64 a12] ∧ Mean2 ns [a0, a1, a2, a3, a4, a5, a6, a7, a8, a9, a10, a11, a12] L

theorem EpAt.keeps {ns ns' : List Nd} {v : Value} {L : List Tm} (h : EpAt ns v L) (hp : ns <+: ns') : EpAt ns' v L := by
  obtain ⟨a0, a1, a2, a3, a4, a5, a6, a7, a8, a9, a10, a11, a12, e, m⟩ := h
  exact ⟨a0, a1, a2, a3, a4, a5, a6, a7, a8, a9, a10, a11, a12, e, m.keeps hp⟩

theorem Done.mean2 {ns : List Nd} {J S C : Tm} {a0 a1 a2 a3 b0 b1 b2 b3 b4 b5 b6 b7 b8 : Int} (h0 : Means ns a0 J) (h1 : Means ns a1 (memberT J S)) (h2 : Means ns a2 (.kdf kWelcome (memberT J S) noT)) (h3 : Means ns a3 (secretT J S C)) (h : Done ns (secretT J S C) [b0, b1, b2, b3, b4, b5, b6, b7, b8] 9) : Mean2 ns [a0, a1, a2, a3, b0, b1, b2, b3, b4, b5, b6, b7, b8] (epochT J S C) := by
  have g : ∀ j y k, [b0, b1, b2, b3, b4, b5, b6, b7, b8][j]? = some y → labs[4 + j]? = some k → j < 9 → Means ns y (ofT k (secretT J S C)) := fun j y k e1 e2 hj => by
    obtain ⟨y', k', e3, e4, hm⟩ := h j hj
    rw [e1] at e3; rw [e2] at e4
    cases e3; cases e4
    exact hm
  exact .cons h0 (.cons h1 (.cons h2 (.cons h3 (.cons (g 0 _ _ rfl rfl (by decide)) (.cons (g 1 _ _ rfl rfl (by decide)) (.cons (g 2 _ _ rfl rfl (by decide)) (.cons (g 3 _ _ rfl rfl (by decide)) (.cons (g 4 _ _ rfl rfl (by decide)) (.cons (g 5 _ _ rfl rfl (by decide)) (.cons (g 6 _ _ rfl rfl (by decide)) (.cons (g 7 _ _ rfl rfl (by decide)) (.cons (g 8 _ _ rfl rfl (by decide)) .nil))))))))))))

/-- An epoch that is being made in the block E. -/
structure JM (s : Nat) (w : World) (ns : List Nd) (dr : Int) (E : Nat) (W : World) (ns' : List Nd) (c : Nat) (l : List Int) : Prop where
  run : Run s w W ns ns' dr c
  ce : Cells W E 34 (l.map (Value.int .i64))
  ne : ¬ Own W s E
  ord : w.heap.size ≤ E
  big : Big w

theorem JM.ran {s : Nat} {w W W' : World} {ns ns' ns2 : List Nd} {dr : Int} {E c c2 : Nat} {l : List Int} (h : JM s w ns dr E W ns' c l) (k : Run s W W' ns' ns2 dr c2) : JM s w ns dr E W' ns2 (c + c2) l :=
  ⟨h.run.trans k, h.ce.run k h.ne, k.mv.free h.ce.lt h.ne, h.ord, h.big⟩
theorem JM.below {s : Nat} {w W W' : World} {ns ns' : List Nd} {dr : Int} {E c : Nat} {l : List Int} (h : JM s w ns dr E W ns' c l) (k : Below W.heap.size W W') : JM s w ns dr E W' ns' c l := h.ran (.ofBelow h.run.seat k)
theorem JM.set {s : Nat} {w W : World} {ns ns' : List Nd} {dr : Int} {E c : Nat} {l : List Int} (h : JM s w ns dr E W ns' c l) (i : Nat) (x : Int) : JM s w ns dr E (W.setCell ⟨E, i, none⟩ (.int .i64 x)) ns' c (l.set i x) := by
  obtain ⟨h1, h2⟩ := h.run.setE h.big h.ord h.ne i (.int .i64 x)
  exact ⟨h1, by rw [List.map_set]; exact h.ce.set i _, h2, h.ord, h.big⟩
theorem JM.cell {s : Nat} {w W : World} {ns ns' : List Nd} {dr : Int} {E c : Nat} {l : List Int} (h : JM s w ns dr E W ns' c l) (i : Nat) (x : Int) (hx : l[i]? = some x) : W.cell? ⟨E, i, none⟩ = some (.int .i64 x) := by rw [h.ce.cell]; simp [hx]

set_option maxRecDepth 100000 in
set_option maxHeartbeats 4000000 in
theorem join_m {w : World} {s : Nat} {ns : List Nd} {dr : Int} (h : Seat w s ns dr) {j sh x : Int} {J S C : Tm} (hj : Means ns j J) (hs : Means ns sh S) (hx : Means ns x C) (hr : (ns.length : Int) + 20 < 262144) :
    Calls Tryd.prog 15 #[.pointer (some ⟨s, 0, none⟩), .int .i64 j, .int .i64 sh, .int .i64 x] w fun e w' => ∃ v ns', e = .returned v ∧ Run s w w' ns ns' dr 20 ∧ EpAt ns' v (epochT J S C) := by
  have hb := h.laid.big
  have x0 := Cells.new w 34 (List.replicate 13 (.int .i64 0))
  have b0 : Below w.heap.size w (w.alloc (.cells (List.replicate 13 (Value.int .i64 0)).toArray 34)) := (Below.refl _ _).alloc (Nat.le_refl _) _
  have ez : (List.replicate 13 (Value.int .i64 0)).toArray = #[.int .i64 0, .int .i64 0, .int .i64 0, .int .i64 0, .int .i64 0, .int .i64 0, .int .i64 0, .int .i64 0, .int .i64 0, .int .i64 0, .int .i64 0, .int .i64 0, .int .i64 0] := rfl
  rw [ez] at b0
  unfold Cells at x0
  rw [ez] at x0
  obtain ⟨W0, hW0⟩ : ∃ W0, w.alloc (.cells #[.int .i64 0, .int .i64 0, .int .i64 0, .int .i64 0, .int .i64 0, .int .i64 0, .int .i64 0, .int .i64 0, .int .i64 0, .int .i64 0, .int .i64 0, .int .i64 0, .int .i64 0] 34) = W0 := ⟨_, rfl⟩
  rw [hW0] at x0 b0
  go_enter Tryd.func15, Tryd.ntmps15
  go_wp2_with (rw [hW0])
  refine (orZero_m (h.below b0).st hj.has).mono ?_
  rintro e w1 ⟨rfl, b1⟩
  have B1 : Below w.heap.size w w1 := b0.trans (b1.mono b0.size)
  have hal : Below w1.heap.size w1 (w1.alloc (.cells #[.int .i64 j, .int .i64 0, .int .i64 0, .int .i64 0, .int .i64 0, .int .i64 0, .int .i64 0, .int .i64 0, .int .i64 0, .int .i64 0, .int .i64 0, .int .i64 0, .int .i64 0] 34)) := (Below.refl _ _).alloc (Nat.le_refl _) _
  have xe := Cells.new w1 34 (.int .i64 j :: List.replicate 12 (.int .i64 0))
  have ej : (Value.int .i64 j :: List.replicate 12 (.int .i64 0)).toArray = #[.int .i64 j, .int .i64 0, .int .i64 0, .int .i64 0, .int .i64 0, .int .i64 0, .int .i64 0, .int .i64 0, .int .i64 0, .int .i64 0, .int .i64 0, .int .i64 0, .int .i64 0] := rfl
  rw [ej] at xe
  have HJM : Hid (JM s W0 ns dr w1.heap.size (w1.alloc (.cells #[.int .i64 j, .int .i64 0, .int .i64 0, .int .i64 0, .int .i64 0, .int .i64 0, .int .i64 0, .int .i64 0, .int .i64 0, .int .i64 0, .int .i64 0, .int .i64 0, .int .i64 0] 34)) ns 0 [j, 0, 0, 0, 0, 0, 0, 0, 0, 0, 0, 0, 0]) := by
    exact ⟨Run.ofBelow (h.below b0) (on b1 hal), xe, free_new (h.below B1).st _, b1.size, (h.below b0).laid.big⟩
  have HR0 : Hid (Run s w W0 ns ns dr 0) := Run.ofBelow h b0
  have HX0 : Hid (Cells W0 w.heap.size 34 (List.replicate 13 (.int .i64 0))) := x0
  have HN0 : Hid (¬ Own W0 s w.heap.size) := fun ho => by
    have hh := h.st.own_lt ((own_below1 h.st.lt b0 _).1 ho)
    omega
  obtain ⟨W2, hW2⟩ : ∃ W2, w1.alloc (.cells #[.int .i64 j, .int .i64 0, .int .i64 0, .int .i64 0, .int .i64 0, .int .i64 0, .int .i64 0, .int .i64 0, .int .i64 0, .int .i64 0, .int .i64 0, .int .i64 0, .int .i64 0] 34) = W2 := ⟨_, rfl⟩
  have HW2 : Hid (w1.alloc (.cells #[.int .i64 j, .int .i64 0, .int .i64 0, .int .i64 0, .int .i64 0, .int .i64 0, .int .i64 0, .int .i64 0, .int .i64 0, .int .i64 0, .int .i64 0, .int .i64 0, .int .i64 0] 34) = W2) := hW2
  rw [hW2] at HJM
  have Hj : Hid (Means ns j J) := hj
  have Hb0 : Hid (Big w) := hb
  have Hs : Hid (Means ns sh S) := hs
  have Hx : Hid (Means ns x C) := hx
  have Hr : Hid ((ns.length : Int) + 20 < 262144) := hr
  clear hal B1 b1 b0 x0 hW0 ez ej hr hb h hj hs hx xe hW2
  go_wp2_with fail
  rw [HW2.out]
  refine Calls.mono (orZero_m HJM.out.run.seat.st Hs.out.has) ?_
  rintro e w3 ⟨rfl, b3⟩
  replace HJM := JM.below HJM.out b3
  clear b3
  go_wp2_with fail
  refine Calls.mono (orZero_m HJM.run.seat.st Hx.out.has) ?_
  rintro e w4 ⟨rfl, b4⟩
  replace HJM := HJM.below b4
  clear b4
  -- the member secret
  have c0 := HJM.cell 0 _ rfl
  have hk := kdf_m HJM.run.seat kMember (by decide) (by have := Hr.out; omega) Hj.out Hs.out
  go_wp2_with fail
  refine hk.mono ?_
  rintro e w5 ⟨t5, ns5, rfl, r5, m5⟩
  replace HJM := HJM.ran r5
  have Hm5 : Hid (Means ns5 t5 (memberT J S)) := m5
  have Hx5 : Hid (Means ns5 x C) := Hx.out.keeps r5.st.pre
  have Hj5 : Hid (Means ns5 j J) := Hj.out.keeps r5.st.pre
  have c1 := HJM.cell 1 _ rfl
  have f1 := HJM.ce.frozen 1
  have H6 := HJM.set 1 t5
  obtain ⟨W6, hW6⟩ : ∃ W6, w5.setCell ⟨w1.heap.size, 1, none⟩ (.int .i64 t5) = W6 := ⟨_, rfl⟩
  rw [hW6] at H6
  have HW6 : Hid (w5.setCell ⟨w1.heap.size, 1, none⟩ (.int .i64 t5) = W6) := hW6
  have HJ6 : Hid (JM s W0 ns dr w1.heap.size W6.drew ns5 1 [j, t5, 0, 0, 0, 0, 0, 0, 0, 0, 0, 0, 0]) := H6.below ((Below.refl _ _).drew)
  clear c0 hk HJM Hj Hs Hx m5 r5 hW6 H6
  go_wp2_with (rw [HW6.out])
  clear c1 f1
  have c1 := HJ6.out.cell 1 _ rfl
  go_region_held3 (fun w' => w'.cell? ⟨w1.heap.size, 1, none⟩ = some (.int .i64 t5))
    (first | exact c1 | exact (HJ8.out.set 2 t8).cell 1 _ rfl)
    (first
      | (go_at_call 28; refine (text_m HJ6.out.run.seat ⟨#[]⟩ (by decide) (by have := HJ6.out.run.st.len; have := Hr.out; omega)).mono ?_; rintro r w7 ⟨t7, ns7, rfl, r7, m7⟩; have HJ7 : Hid (JM s W0 ns dr w1.heap.size w7 ns7 2 _) := HJ6.out.ran r7; replace c1 := HJ7.out.cell 1 _ rfl; have P7 : Hid (ns5 <+: ns7) := r7.st.pre; have M7 : Hid (Means ns7 t7 noT) := m7; clear r7 m7)
      | (go_at_call 29; refine (kdf_m HJ7.out.run.seat kWelcome (by decide) (by have := HJ7.out.run.st.len; have := Hr.out; omega) (Hm5.out.keeps P7.out) M7.out).mono ?_; rintro r w8 ⟨t8, ns8, rfl, r8, m8⟩; have HJ8 : Hid (JM s W0 ns dr w1.heap.size w8 ns8 3 _) := HJ7.out.ran r8; replace c1 := HJ8.out.cell 1 _ rfl; have c2 := HJ8.out.cell 2 _ rfl; have f2 := HJ8.out.ce.frozen 2; have P8 : Hid (ns5 <+: ns8) := P7.out.trans r8.st.pre; have M8 : Hid (Means ns8 t8 (.kdf kWelcome (memberT J S) noT)) := m8; clear r8 m8)
      | fail)
  have H9 := HJ8.out.set 2 t8
  obtain ⟨W9, hW9⟩ : ∃ W9, w8.setCell ⟨w1.heap.size, 2, none⟩ (.int .i64 t8) = W9 := ⟨_, rfl⟩
  rw [hW9] at H9
  have HW9 : Hid (w8.setCell ⟨w1.heap.size, 2, none⟩ (.int .i64 t8) = W9) := hW9
  have HJ9 : Hid (JM s W0 ns dr w1.heap.size W9 ns8 3 [j, t5, t8, 0, 0, 0, 0, 0, 0, 0, 0, 0, 0]) := H9
  rw [HW9.out]
  clear c1 c2 f2 hW9 H9 HJ8 HJ7 HJ6
  have c1 := HJ9.out.cell 1 _ rfl
  have hk := kdf_m HJ9.out.run.seat kEpoch (by decide) (by have := HJ9.out.run.st.len; have := Hr.out; omega) (Hm5.out.keeps P8.out) (Hx5.out.keeps P8.out)
  go_wp2_with fail
  refine hk.mono ?_
  rintro e w10 ⟨t10, ns10, rfl, r10, m10⟩
  have HJ10 := HJ9.out.ran r10
  have M10 : Hid (Means ns10 t10 (secretT J S C)) := m10
  have P10 : Hid (ns8 <+: ns10) := r10.st.pre
  clear c1
  have c3 := HJ10.cell 3 _ rfl
  have f3 := HJ10.ce.frozen 3
  have H11 := HJ10.set 3 t10
  obtain ⟨W11, hW11⟩ : ∃ W11, w10.setCell ⟨w1.heap.size, 3, none⟩ (.int .i64 t10) = W11 := ⟨_, rfl⟩
  rw [hW11] at H11
  have HW11 : Hid (w10.setCell ⟨w1.heap.size, 3, none⟩ (.int .i64 t10) = W11) := hW11
  have HJ11 : Hid (JM s W0 ns dr w1.heap.size W11 ns10 4 [j, t5, t8, t10, 0, 0, 0, 0, 0, 0, 0, 0, 0]) := H11
  clear hk hW11 H11 HJ10 HJ9 r10 m10
  go_wp2_with fail
  rw [HW11.out]
  clear c3 f3
  refine (derive_m HJ11.out.run HJ11.out.big HJ11.out.ord HJ11.out.ne HJ11.out.ce M10.out (by have := HJ11.out.run.st.len; have := Hr.out; omega)).mono ?_
  rintro r w12 ⟨rfl, ns12, l12, r12, n12, e12, hc12, hd12, p12⟩
  obtain ⟨b0, b1, b2, b3, b4, b5, b6, b7, b8, rfl⟩ : ∃ b0 b1 b2 b3 b4 b5 b6 b7 b8 : Int, l12 = [b0, b1, b2, b3, b4, b5, b6, b7, b8] := by
    match l12, e12 with
    | [b0, b1, b2, b3, b4, b5, b6, b7, b8], _ => exact ⟨b0, b1, b2, b3, b4, b5, b6, b7, b8, rfl⟩
  have hcr := Cells.run HX0.out r12 HN0.out
  have nr12 := r12.mv.free (Cells.lt HX0.out) HN0.out
  have HM : Hid (Mean2 ns12 [j, t5, t8, t10, b0, b1, b2, b3, b4, b5, b6, b7, b8] (epochT J S C)) := by
    have q := P10.out.trans p12
    exact hd12.mean2 (Hj5.out.keeps (P8.out.trans q)) (Hm5.out.keeps (P8.out.trans q)) (M8.out.keeps q) (M10.out.keeps p12)
  have HRr : Hid (Run s w w12 ns ns12 dr 20) := (HR0.out.trans r12).mono (by omega)
  have Hcr : Hid (Cells w12 w.heap.size 34 (List.replicate 13 (.int .i64 0)) ∧ ¬ Own w12 s w.heap.size) := ⟨hcr, nr12⟩
  have Hbw : Hid (Big w) := Hb0.out
  have g0 : w12.cell? ⟨w1.heap.size, 0, none⟩ = some (.int .i64 j) := by rw [Cells.cell hc12]; rfl
  have g1 : w12.cell? ⟨w1.heap.size, 1, none⟩ = some (.int .i64 t5) := by rw [Cells.cell hc12]; rfl
  have g2 : w12.cell? ⟨w1.heap.size, 2, none⟩ = some (.int .i64 t8) := by rw [Cells.cell hc12]; rfl
  have g3 : w12.cell? ⟨w1.heap.size, 3, none⟩ = some (.int .i64 t10) := by rw [Cells.cell hc12]; rfl
  have g4 : w12.cell? ⟨w1.heap.size, 4, none⟩ = some (.int .i64 b0) := by rw [Cells.cell hc12]; rfl
  have g5 : w12.cell? ⟨w1.heap.size, 5, none⟩ = some (.int .i64 b1) := by rw [Cells.cell hc12]; rfl
  have g6 : w12.cell? ⟨w1.heap.size, 6, none⟩ = some (.int .i64 b2) := by rw [Cells.cell hc12]; rfl
  have g7 : w12.cell? ⟨w1.heap.size, 7, none⟩ = some (.int .i64 b3) := by rw [Cells.cell hc12]; rfl
  have g8 : w12.cell? ⟨w1.heap.size, 8, none⟩ = some (.int .i64 b4) := by rw [Cells.cell hc12]; rfl
  have g9 : w12.cell? ⟨w1.heap.size, 9, none⟩ = some (.int .i64 b5) := by rw [Cells.cell hc12]; rfl
  have g10 : w12.cell? ⟨w1.heap.size, 10, none⟩ = some (.int .i64 b6) := by rw [Cells.cell hc12]; rfl
  have g11 : w12.cell? ⟨w1.heap.size, 11, none⟩ = some (.int .i64 b7) := by rw [Cells.cell hc12]; rfl
  have g12 : w12.cell? ⟨w1.heap.size, 12, none⟩ = some (.int .i64 b8) := by rw [Cells.cell hc12]; rfl
  have r0_ : w12.cell? ⟨w.heap.size, 0, none⟩ = some (.int .i64 0) := by rw [Cells.cell hcr]; rfl
  have f0_ : w12.frozen? ⟨w.heap.size, 0, none⟩ = false := Cells.frozen hcr _
  have r1_ : w12.cell? ⟨w.heap.size, 1, none⟩ = some (.int .i64 0) := by rw [Cells.cell hcr]; rfl
  have f1_ : w12.frozen? ⟨w.heap.size, 1, none⟩ = false := Cells.frozen hcr _
  have r2_ : w12.cell? ⟨w.heap.size, 2, none⟩ = some (.int .i64 0) := by rw [Cells.cell hcr]; rfl
  have f2_ : w12.frozen? ⟨w.heap.size, 2, none⟩ = false := Cells.frozen hcr _
  have r3_ : w12.cell? ⟨w.heap.size, 3, none⟩ = some (.int .i64 0) := by rw [Cells.cell hcr]; rfl
  have f3_ : w12.frozen? ⟨w.heap.size, 3, none⟩ = false := Cells.frozen hcr _
  have r4_ : w12.cell? ⟨w.heap.size, 4, none⟩ = some (.int .i64 0) := by rw [Cells.cell hcr]; rfl
  have f4_ : w12.frozen? ⟨w.heap.size, 4, none⟩ = false := Cells.frozen hcr _
  have r5_ : w12.cell? ⟨w.heap.size, 5, none⟩ = some (.int .i64 0) := by rw [Cells.cell hcr]; rfl
  have f5_ : w12.frozen? ⟨w.heap.size, 5, none⟩ = false := Cells.frozen hcr _
  have r6_ : w12.cell? ⟨w.heap.size, 6, none⟩ = some (.int .i64 0) := by rw [Cells.cell hcr]; rfl
  have f6_ : w12.frozen? ⟨w.heap.size, 6, none⟩ = false := Cells.frozen hcr _
  have r7_ : w12.cell? ⟨w.heap.size, 7, none⟩ = some (.int .i64 0) := by rw [Cells.cell hcr]; rfl
  have f7_ : w12.frozen? ⟨w.heap.size, 7, none⟩ = false := Cells.frozen hcr _
  have r8_ : w12.cell? ⟨w.heap.size, 8, none⟩ = some (.int .i64 0) := by rw [Cells.cell hcr]; rfl
  have f8_ : w12.frozen? ⟨w.heap.size, 8, none⟩ = false := Cells.frozen hcr _
  have r9_ : w12.cell? ⟨w.heap.size, 9, none⟩ = some (.int .i64 0) := by rw [Cells.cell hcr]; rfl
  have f9_ : w12.frozen? ⟨w.heap.size, 9, none⟩ = false := Cells.frozen hcr _
  have r10_ : w12.cell? ⟨w.heap.size, 10, none⟩ = some (.int .i64 0) := by rw [Cells.cell hcr]; rfl
  have f10_ : w12.frozen? ⟨w.heap.size, 10, none⟩ = false := Cells.frozen hcr _
  have r11_ : w12.cell? ⟨w.heap.size, 11, none⟩ = some (.int .i64 0) := by rw [Cells.cell hcr]; rfl
  have f11_ : w12.frozen? ⟨w.heap.size, 11, none⟩ = false := Cells.frozen hcr _
  have r12_ : w12.cell? ⟨w.heap.size, 12, none⟩ = some (.int .i64 0) := by rw [Cells.cell hcr]; rfl
  have f12_ : w12.frozen? ⟨w.heap.size, 12, none⟩ = false := Cells.frozen hcr _
  clear r12 n12 hc12 hd12 p12 hcr nr12 e12 HJ11 HW11 HW9 HW6 P8 P10 M8 M10 Hm5 Hx5 Hj5 HR0 HX0 HN0
  go_wp2_with fail
  have q0 := HRr.out
  have m0 := Hcr.out.2
  obtain ⟨q1, m1⟩ := q0.setE Hbw.out (Nat.le_refl _) m0 0 (.int .i64 j)
  obtain ⟨q2, m2⟩ := q1.setE Hbw.out (Nat.le_refl _) m1 1 (.int .i64 t5)
  obtain ⟨q3, m3⟩ := q2.setE Hbw.out (Nat.le_refl _) m2 2 (.int .i64 t8)
  obtain ⟨q4, m4⟩ := q3.setE Hbw.out (Nat.le_refl _) m3 3 (.int .i64 t10)
  obtain ⟨q5, m5⟩ := q4.setE Hbw.out (Nat.le_refl _) m4 4 (.int .i64 b0)
  obtain ⟨q6, m6⟩ := q5.setE Hbw.out (Nat.le_refl _) m5 5 (.int .i64 b1)
  obtain ⟨q7, m7⟩ := q6.setE Hbw.out (Nat.le_refl _) m6 6 (.int .i64 b2)
  obtain ⟨q8, m8⟩ := q7.setE Hbw.out (Nat.le_refl _) m7 7 (.int .i64 b3)
  obtain ⟨q9, m9⟩ := q8.setE Hbw.out (Nat.le_refl _) m8 8 (.int .i64 b4)
  obtain ⟨q10, m10⟩ := q9.setE Hbw.out (Nat.le_refl _) m9 9 (.int .i64 b5)
  obtain ⟨q11, m11⟩ := q10.setE Hbw.out (Nat.le_refl _) m10 10 (.int .i64 b6)
  obtain ⟨q12, m12⟩ := q11.setE Hbw.out (Nat.le_refl _) m11 11 (.int .i64 b7)
  obtain ⟨q13, m13⟩ := q12.setE Hbw.out (Nat.le_refl _) m12 12 (.int .i64 b8)
  have hc := Cells.set (Cells.set (Cells.set (Cells.set (Cells.set (Cells.set (Cells.set (Cells.set (Cells.set (Cells.set (Cells.set (Cells.set (Cells.set (Hcr.out.1) 0 (.int .i64 j)) 1 (.int .i64 t5)) 2 (.int .i64 t8)) 3 (.int .i64 t10)) 4 (.int .i64 b0)) 5 (.int .i64 b1)) 6 (.int .i64 b2)) 7 (.int .i64 b3)) 8 (.int .i64 b4)) 9 (.int .i64 b5)) 10 (.int .i64 b6)) 11 (.int .i64 b7)) 12 (.int .i64 b8)
  clear m0 m1 m2 m3 m4 m5 m6 m7 m8 m9 m10 m11 m12 m13 q0 q1 q2 q3 q4 q5 q6 q7 q8 q9 q10 q11 q12
  obtain ⟨Wf, hWf⟩ : ∃ Wf, (((((((((((((w12.setCell ⟨w.heap.size, 0, none⟩ (.int .i64 j)).setCell ⟨w.heap.size, 1, none⟩ (.int .i64 t5)).setCell ⟨w.heap.size, 2, none⟩ (.int .i64 t8)).setCell ⟨w.heap.size, 3, none⟩ (.int .i64 t10)).setCell ⟨w.heap.size, 4, none⟩ (.int .i64 b0)).setCell ⟨w.heap.size, 5, none⟩ (.int .i64 b1)).setCell ⟨w.heap.size, 6, none⟩ (.int .i64 b2)).setCell ⟨w.heap.size, 7, none⟩ (.int .i64 b3)).setCell ⟨w.heap.size, 8, none⟩ (.int .i64 b4)).setCell ⟨w.heap.size, 9, none⟩ (.int .i64 b5)).setCell ⟨w.heap.size, 10, none⟩ (.int .i64 b6)).setCell ⟨w.heap.size, 11, none⟩ (.int .i64 b7)).setCell ⟨w.heap.size, 12, none⟩ (.int .i64 b8)) = Wf := ⟨_, rfl⟩
  rw [hWf] at q13 hc
  rw [hWf]
  clear hWf
  have hc2 : Cells Wf w.heap.size 34 [.int .i64 j, .int .i64 t5, .int .i64 t8, .int .i64 t10, .int .i64 b0, .int .i64 b1, .int .i64 b2, .int .i64 b3, .int .i64 b4, .int .i64 b5, .int .i64 b6, .int .i64 b7, .int .i64 b8] := hc
  have z0 : Wf.cell? ⟨w.heap.size, 0, none⟩ = some (.int .i64 j) := by rw [Cells.cell hc2]; rfl
  have z1 : Wf.cell? ⟨w.heap.size, 1, none⟩ = some (.int .i64 t5) := by rw [Cells.cell hc2]; rfl
  have z2 : Wf.cell? ⟨w.heap.size, 2, none⟩ = some (.int .i64 t8) := by rw [Cells.cell hc2]; rfl
  have z3 : Wf.cell? ⟨w.heap.size, 3, none⟩ = some (.int .i64 t10) := by rw [Cells.cell hc2]; rfl
  have z4 : Wf.cell? ⟨w.heap.size, 4, none⟩ = some (.int .i64 b0) := by rw [Cells.cell hc2]; rfl
  have z5 : Wf.cell? ⟨w.heap.size, 5, none⟩ = some (.int .i64 b1) := by rw [Cells.cell hc2]; rfl
  have z6 : Wf.cell? ⟨w.heap.size, 6, none⟩ = some (.int .i64 b2) := by rw [Cells.cell hc2]; rfl
  have z7 : Wf.cell? ⟨w.heap.size, 7, none⟩ = some (.int .i64 b3) := by rw [Cells.cell hc2]; rfl
  have z8 : Wf.cell? ⟨w.heap.size, 8, none⟩ = some (.int .i64 b4) := by rw [Cells.cell hc2]; rfl
  have z9 : Wf.cell? ⟨w.heap.size, 9, none⟩ = some (.int .i64 b5) := by rw [Cells.cell hc2]; rfl
  have z10 : Wf.cell? ⟨w.heap.size, 10, none⟩ = some (.int .i64 b6) := by rw [Cells.cell hc2]; rfl
  have z11 : Wf.cell? ⟨w.heap.size, 11, none⟩ = some (.int .i64 b7) := by rw [Cells.cell hc2]; rfl
  have z12 : Wf.cell? ⟨w.heap.size, 12, none⟩ = some (.int .i64 b8) := by rw [Cells.cell hc2]; rfl
  refine bodyPost_ret (v := .agg #[.int .i64 j, .int .i64 t5, .int .i64 t8, .int .i64 t10, .int .i64 b0, .int .i64 b1, .int .i64 b2, .int .i64 b3, .int .i64 b4, .int .i64 b5, .int .i64 b6, .int .i64 b7, .int .i64 b8]) (by simp [results, Tryd.results15, go_sem, z0, z1, z2, z3, z4, z5, z6, z7, z8, z9, z10, z11, z12]) rfl ⟨_, ns12, rfl, q13, ⟨j, t5, t8, t10, b0, b1, b2, b3, b4, b5, b6, b7, b8, rfl, HM.out⟩⟩

end Go.Proofs.YtcfmagmhnemhaaaDoor
