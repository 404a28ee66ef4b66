/-
  Next: the epoch behind an init and a commit secret; what is exported.
-/
import Derived.Test.YtcfmagmhnemhaaaDoorVF
namespace Go.Proofs.YtcfmagmhnemhaaaDoor
open Go.RowKit
set_option linter.unusedSimpArgs false
set_option linter.unusedVariables false

set_option maxRecDepth 100000 in
set_option maxHeartbeats 4000000 in
theorem next_m {w : World} {s : Nat} {ns : List Nd} {dr : Int} (h : Seat w s ns dr) {i c sh x : Int} {I K S C : Tm} (hi : Means ns i I) (hk : Means ns c K) (hs : Means ns sh S) (hx : Means ns x C) (hr : (ns.length : Int) + 21 < 262144) :
    Calls Tryd.prog 13 #[.pointer (some ⟨s, 0, none⟩), .int .i64 i, .int .i64 c, .int .i64 sh, .int .i64 x] w fun e w' => ∃ v ns', e = .returned v ∧ Run s w w' ns ns' dr 21 ∧ EpAt ns' v (epochT (joinT I K) S C) := by
  have hb := h.laid.big
  have x0 := Cells.new w 34 (List.replicate 13 (.int .i64 0))
  have b0 : Below w.heap.size w (w.alloc (.cells (List.replicate 13 (Value.int .i64 0)).toArray 34)) := (Below.refl _ _).alloc (Nat.le_refl _) _
  have ez : (List.replicate 13 (Value.int .i64 0)).toArray = #[.int .i64 0, .int .i64 0, .int .i64 0, .int .i64 0, .int .i64 0, .int .i64 0, .int .i64 0, .int .i64 0, .int .i64 0, .int .i64 0, .int .i64 0, .int .i64 0, .int .i64 0] := rfl
  rw [ez] at b0
  unfold Cells at x0
  rw [ez] at x0
  obtain ⟨W0, hW0⟩ : ∃ W0, w.alloc (.cells #[.int .i64 0, .int .i64 0, .int .i64 0, .int .i64 0, .int .i64 0, .int .i64 0, .int .i64 0, .int .i64 0, .int .i64 0, .int .i64 0, .int .i64 0, .int .i64 0, .int .i64 0] 34) = W0 := ⟨_, rfl⟩
  rw [hW0] at x0 b0
  have HR0 : Hid (Run s w W0 ns ns dr 0) := Run.ofBelow h b0
  have HX0 : Hid (Cells W0 w.heap.size 34 (List.replicate 13 (.int .i64 0)) ∧ ¬ Own W0 s w.heap.size) := ⟨x0, fun ho => by
    have hh := h.st.own_lt ((own_below1 h.st.lt b0 _).1 ho)
    omega⟩
  have HW0 : Hid (w.alloc (.cells #[.int .i64 0, .int .i64 0, .int .i64 0, .int .i64 0, .int .i64 0, .int .i64 0, .int .i64 0, .int .i64 0, .int .i64 0, .int .i64 0, .int .i64 0, .int .i64 0, .int .i64 0] 34) = W0) := hW0
  have Hi : Hid (Means ns i I) := hi
  have Hk : Hid (Means ns c K) := hk
  have Hs : Hid (Means ns sh S) := hs
  have Hx : Hid (Means ns x C) := hx
  have Hr : Hid ((ns.length : Int) + 21 < 262144) := hr
  have Hb : Hid (Big w) := hb
  clear hi hk hs hx hr hb x0 b0 ez hW0 h
  go_enter Tryd.func13, Tryd.ntmps13
  go_wp2_with (rw [HW0.out])
  refine (orZero_m HR0.out.seat.st Hs.out.has).mono ?_
  rintro e w1 ⟨rfl, b1⟩
  have HR1 : Hid (Run s W0 w1 ns ns dr 0) := Run.ofBelow HR0.out.seat b1
  clear b1
  go_wp2_with fail
  refine (orZero_m HR1.out.seat.st Hx.out.has).mono ?_
  rintro e w2 ⟨rfl, b2⟩
  have HR2 : Hid (Run s W0 w2 ns ns dr 0) := HR1.out.after b2
  clear b2
  go_wp2_with fail
  refine (kdf_m HR2.out.seat kJoiner (by decide) (by have := Hr.out; omega) Hi.out Hk.out).mono ?_
  rintro e w3 ⟨t3, ns3, rfl, r3, m3⟩
  have HR3 : Hid (Run s W0 w3 ns ns3 dr (0 + 1)) := HR2.out.trans r3
  have HM3 : Hid (Means ns3 t3 (joinT I K)) := m3
  have HP3 : Hid (Stp ns ns3 1) := r3.st
  clear r3 m3
  go_wp2_with fail
  refine (join_m HR3.out.seat HM3.out (Hs.out.keeps HP3.out.pre) (Hx.out.keeps HP3.out.pre) (by have := Hr.out; have := HP3.out.len; omega)).mono ?_
  rintro e w4 ⟨v, ns4, rfl, r4, ⟨a0, a1, a2, a3, a4, a5, a6, a7, a8, a9, a10, a11, a12, rfl, m4⟩⟩
  have HR4 : Hid (Run s W0 w4 ns ns4 dr (0 + 1 + 20)) := HR3.out.trans r4
  have hcr := Cells.run HX0.out.1 HR4.out HX0.out.2
  have Hcr : Hid (Cells w4 w.heap.size 34 (List.replicate 13 (.int .i64 0)) ∧ ¬ Own w4 s w.heap.size) := ⟨hcr, HR4.out.mv.free (Cells.lt HX0.out.1) HX0.out.2⟩
  have HRr : Hid (Run s w w4 ns ns4 dr 21) := (HR0.out.trans HR4.out).mono (by omega)
  have HM : Hid (Mean2 ns4 [a0, a1, a2, a3, a4, a5, a6, a7, a8, a9, a10, a11, a12] (epochT (joinT I K) S C)) := m4
  have r0_ : w4.cell? ⟨w.heap.size, 0, none⟩ = some (.int .i64 0) := by rw [Cells.cell hcr]; rfl
  have f0_ : w4.frozen? ⟨w.heap.size, 0, none⟩ = false := Cells.frozen hcr _
  have r1_ : w4.cell? ⟨w.heap.size, 1, none⟩ = some (.int .i64 0) := by rw [Cells.cell hcr]; rfl
  have f1_ : w4.frozen? ⟨w.heap.size, 1, none⟩ = false := Cells.frozen hcr _
  have r2_ : w4.cell? ⟨w.heap.size, 2, none⟩ = some (.int .i64 0) := by rw [Cells.cell hcr]; rfl
  have f2_ : w4.frozen? ⟨w.heap.size, 2, none⟩ = false := Cells.frozen hcr _
  have r3_ : w4.cell? ⟨w.heap.size, 3, none⟩ = some (.int .i64 0) := by rw [Cells.cell hcr]; rfl
  have f3_ : w4.frozen? ⟨w.heap.size, 3, none⟩ = false := Cells.frozen hcr _
  have r4_ : w4.cell? ⟨w.heap.size, 4, none⟩ = some (.int .i64 0) := by rw [Cells.cell hcr]; rfl
  have f4_ : w4.frozen? ⟨w.heap.size, 4, none⟩ = false := Cells.frozen hcr _
  have r5_ : w4.cell? ⟨w.heap.size, 5, none⟩ = some (.int .i64 0) := by rw [Cells.cell hcr]; rfl
  have f5_ : w4.frozen? ⟨w.heap.size, 5, none⟩ = false := Cells.frozen hcr _
  have r6_ : w4.cell? ⟨w.heap.size, 6, none⟩ = some (.int .i64 0) := by rw [Cells.cell hcr]; rfl
  have f6_ : w4.frozen? ⟨w.heap.size, 6, none⟩ = false := Cells.frozen hcr _
  have r7_ : w4.cell? ⟨w.heap.size, 7, none⟩ = some (.int .i64 0) := by rw [Cells.cell hcr]; rfl
  have f7_ : w4.frozen? ⟨w.heap.size, 7, none⟩ = false := Cells.frozen hcr _
  have r8_ : w4.cell? ⟨w.heap.size, 8, none⟩ = some (.int .i64 0) := by rw [Cells.cell hcr]; rfl
  have f8_ : w4.frozen? ⟨w.heap.size, 8, none⟩ = false := Cells.frozen hcr _
  have r9_ : w4.cell? ⟨w.heap.size, 9, none⟩ = some (.int .i64 0) := by rw [Cells.cell hcr]; rfl
  have f9_ : w4.frozen? ⟨w.heap.size, 9, none⟩ = false := Cells.frozen hcr _
  have r10_ : w4.cell? ⟨w.heap.size, 10, none⟩ = some (.int .i64 0) := by rw [Cells.cell hcr]; rfl
  have f10_ : w4.frozen? ⟨w.heap.size, 10, none⟩ = false := Cells.frozen hcr _
  have r11_ : w4.cell? ⟨w.heap.size, 11, none⟩ = some (.int .i64 0) := by rw [Cells.cell hcr]; rfl
  have f11_ : w4.frozen? ⟨w.heap.size, 11, none⟩ = false := Cells.frozen hcr _
  have r12_ : w4.cell? ⟨w.heap.size, 12, none⟩ = some (.int .i64 0) := by rw [Cells.cell hcr]; rfl
  have f12_ : w4.frozen? ⟨w.heap.size, 12, none⟩ = false := Cells.frozen hcr _
  clear hcr r4 m4
  go_wp2_with fail
  have q0 := HRr.out
  have m0 := Hcr.out.2
  obtain ⟨q1, m1⟩ := q0.setE Hb.out (Nat.le_refl _) m0 0 (.int .i64 a0)
  obtain ⟨q2, m2⟩ := q1.setE Hb.out (Nat.le_refl _) m1 1 (.int .i64 a1)
  obtain ⟨q3, m3⟩ := q2.setE Hb.out (Nat.le_refl _) m2 2 (.int .i64 a2)
  obtain ⟨q4, m4⟩ := q3.setE Hb.out (Nat.le_refl _) m3 3 (.int .i64 a3)
  obtain ⟨q5, m5⟩ := q4.setE Hb.out (Nat.le_refl _) m4 4 (.int .i64 a4)
  obtain ⟨q6, m6⟩ := q5.setE Hb.out (Nat.le_refl _) m5 5 (.int .i64 a5)
  obtain ⟨q7, m7⟩ := q6.setE Hb.out (Nat.le_refl _) m6 6 (.int .i64 a6)
  obtain ⟨q8, m8⟩ := q7.setE Hb.out (Nat.le_refl _) m7 7 (.int .i64 a7)
  obtain ⟨q9, m9⟩ := q8.setE Hb.out (Nat.le_refl _) m8 8 (.int .i64 a8)
  obtain ⟨q10, m10⟩ := q9.setE Hb.out (Nat.le_refl _) m9 9 (.int .i64 a9)
  obtain ⟨q11, m11⟩ := q10.setE Hb.out (Nat.le_refl _) m10 10 (.int .i64 a10)
  obtain ⟨q12, m12⟩ := q11.setE Hb.out (Nat.le_refl _) m11 11 (.int .i64 a11)
  obtain ⟨q13, m13⟩ := q12.setE Hb.out (Nat.le_refl _) m12 12 (.int .i64 a12)
  have hc := Cells.set (Cells.set (Cells.set (Cells.set (Cells.set (Cells.set (Cells.set (Cells.set (Cells.set (Cells.set (Cells.set (Cells.set (Cells.set (Hcr.out.1) 0 (.int .i64 a0)) 1 (.int .i64 a1)) 2 (.int .i64 a2)) 3 (.int .i64 a3)) 4 (.int .i64 a4)) 5 (.int .i64 a5)) 6 (.int .i64 a6)) 7 (.int .i64 a7)) 8 (.int .i64 a8)) 9 (.int .i64 a9)) 10 (.int .i64 a10)) 11 (.int .i64 a11)) 12 (.int .i64 a12)
  clear m0 m1 m2 m3 m4 m5 m6 m7 m8 m9 m10 m11 m12 m13 q0 q1 q2 q3 q4 q5 q6 q7 q8 q9 q10 q11 q12
  obtain ⟨Wf, hWf⟩ : ∃ Wf, (((((((((((((w4.setCell ⟨w.heap.size, 0, none⟩ (.int .i64 a0)).setCell ⟨w.heap.size, 1, none⟩ (.int .i64 a1)).setCell ⟨w.heap.size, 2, none⟩ (.int .i64 a2)).setCell ⟨w.heap.size, 3, none⟩ (.int .i64 a3)).setCell ⟨w.heap.size, 4, none⟩ (.int .i64 a4)).setCell ⟨w.heap.size, 5, none⟩ (.int .i64 a5)).setCell ⟨w.heap.size, 6, none⟩ (.int .i64 a6)).setCell ⟨w.heap.size, 7, none⟩ (.int .i64 a7)).setCell ⟨w.heap.size, 8, none⟩ (.int .i64 a8)).setCell ⟨w.heap.size, 9, none⟩ (.int .i64 a9)).setCell ⟨w.heap.size, 10, none⟩ (.int .i64 a10)).setCell ⟨w.heap.size, 11, none⟩ (.int .i64 a11)).setCell ⟨w.heap.size, 12, none⟩ (.int .i64 a12)) = Wf := ⟨_, rfl⟩
  rw [hWf] at q13 hc
  rw [hWf]
  clear hWf
  have hc2 : Cells Wf w.heap.size 34 [.int .i64 a0, .int .i64 a1, .int .i64 a2, .int .i64 a3, .int .i64 a4, .int .i64 a5, .int .i64 a6, .int .i64 a7, .int .i64 a8, .int .i64 a9, .int .i64 a10, .int .i64 a11, .int .i64 a12] := hc
  have z0 : Wf.cell? ⟨w.heap.size, 0, none⟩ = some (.int .i64 a0) := by rw [Cells.cell hc2]; rfl
  have z1 : Wf.cell? ⟨w.heap.size, 1, none⟩ = some (.int .i64 a1) := by rw [Cells.cell hc2]; rfl
  have z2 : Wf.cell? ⟨w.heap.size, 2, none⟩ = some (.int .i64 a2) := by rw [Cells.cell hc2]; rfl
  have z3 : Wf.cell? ⟨w.heap.size, 3, none⟩ = some (.int .i64 a3) := by rw [Cells.cell hc2]; rfl
  have z4 : Wf.cell? ⟨w.heap.size, 4, none⟩ = some (.int .i64 a4) := by rw [Cells.cell hc2]; rfl
  have z5 : Wf.cell? ⟨w.heap.size, 5, none⟩ = some (.int .i64 a5) := by rw [Cells.cell hc2]; rfl
  have z6 : Wf.cell? ⟨w.heap.size, 6, none⟩ = some (.int .i64 a6) := by rw [Cells.cell hc2]; rfl
  have z7 : Wf.cell? ⟨w.heap.size, 7, none⟩ = some (.int .i64 a7) := by rw [Cells.cell hc2]; rfl
  have z8 : Wf.cell? ⟨w.heap.size, 8, none⟩ = some (.int .i64 a8) := by rw [Cells.cell hc2]; rfl
  have z9 : Wf.cell? ⟨w.heap.size, 9, none⟩ = some (.int .i64 a9) := by rw [Cells.cell hc2]; rfl
  have z10 : Wf.cell? ⟨w.heap.size, 10, none⟩ = some (.int .i64 a10) := by rw [Cells.cell hc2]; rfl
  have z11 : Wf.cell? ⟨w.heap.size, 11, none⟩ = some (.int .i64 a11) := by rw [Cells.cell hc2]; rfl
  have z12 : Wf.cell? ⟨w.heap.size, 12, none⟩ = some (.int .i64 a12) := by rw [Cells.cell hc2]; rfl
  refine bodyPost_ret (v := .agg #[.int .i64 a0, .int .i64 a1, .int .i64 a2, .int .i64 a3, .int .i64 a4, .int .i64 a5, .int .i64 a6, .int .i64 a7, .int .i64 a8, .int .i64 a9, .int .i64 a10, .int .i64 a11, .int .i64 a12]) (by simp [results, Tryd.results13, go_sem, z0, z1, z2, z3, z4, z5, z6, z7, z8, z9, z10, z11, z12]) rfl ⟨_, ns4, rfl, q13, ⟨a0, a1, a2, a3, a4, a5, a6, a7, a8, a9, a10, a11, a12, rfl, HM.out⟩⟩


set_option maxRecDepth 100000 in
set_option maxHeartbeats 2000000 in
/-- What is exported for texts that can be made. -/
theorem export_m {w : World} {s : Nat} {ns : List Nd} {dr : Int} (h : Seat w s ns dr) {v : Value} {L : List Tm} {E : Tm} (hv : EpAt ns v L) (hE : L[7]? = some E) (l c : ByteArray) (hl : l.size ≤ 1024) (hc : c.size ≤ 1024) (hr : (ns.length : Int) + 5 < 262144) :
    Calls Tryd.prog 20 #[.pointer (some ⟨s, 0, none⟩), v, .string l, .string c] w fun e w' => ∃ t ns', e = .returned (.int .i64 t) ∧ Run s w w' ns ns' dr 4 ∧ Means ns' t (exportT E l c) := by
  obtain ⟨a0, a1, a2, a3, a4, a5, a6, a7, a8, a9, a10, a11, a12, rfl, hm⟩ := hv
  obtain ⟨E', hE', hM⟩ := hm.get 7 a7 rfl
  have : E' = E := Option.some.inj (hE'.symm.trans hE)
  subst this
  have b0 : Below w.heap.size w (w.alloc (.cells #[.int .i64 a0, .int .i64 a1, .int .i64 a2, .int .i64 a3, .int .i64 a4, .int .i64 a5, .int .i64 a6, .int .i64 a7, .int .i64 a8, .int .i64 a9, .int .i64 a10, .int .i64 a11, .int .i64 a12] 34)) := (Below.refl _ _).alloc (Nat.le_refl _) _
  have HR0 : Hid (Run s w (w.alloc (.cells #[.int .i64 a0, .int .i64 a1, .int .i64 a2, .int .i64 a3, .int .i64 a4, .int .i64 a5, .int .i64 a6, .int .i64 a7, .int .i64 a8, .int .i64 a9, .int .i64 a10, .int .i64 a11, .int .i64 a12] 34)) ns ns dr 0) := Run.ofBelow h b0
  have HE : Hid (Means ns a7 E') := hM
  have Hl : Hid (l.size ≤ 1024) := hl
  have Hc : Hid (c.size ≤ 1024) := hc
  have Hr : Hid ((ns.length : Int) + 5 < 262144) := hr
  clear hE' hM hm hE hl hc hr b0 h
  go_enter Tryd.func20, Tryd.ntmps20
  go_wp2_with fail
  refine Calls.mono (orZero_m HR0.out.seat.st HE.out.has) ?_
  rintro e w1 ⟨rfl, b1⟩
  have HR1 : Hid (Run s w w1 ns ns dr 0) := HR0.out.after b1
  clear b1
  go_wp2_with fail
  refine (text_m HR1.out.seat l Hl.out (by have := Hr.out; omega)).mono ?_
  rintro e w2 ⟨t2, ns2, rfl, r2, m2⟩
  have HR2 : Hid (Run s w w2 ns ns2 dr (0 + 1)) := HR1.out.trans r2
  have HM2 : Hid (Means ns2 t2 (.text l)) := m2
  clear r2 m2
  go_wp2_with fail
  refine (kdf_m HR2.out.seat kExported (by decide) (by have := Hr.out; have := HR2.out.st.len; omega) (HE.out.keeps HR2.out.st.pre) HM2.out).mono ?_
  rintro e w3 ⟨t3, ns3, rfl, r3, m3⟩
  have HR3 : Hid (Run s w w3 ns ns3 dr (0 + 1 + 1)) := HR2.out.trans r3
  have HM3 : Hid (Means ns3 t3 (.kdf kExported E' (.text l))) := m3
  clear r3 m3
  go_wp2_with fail
  refine (text_m HR3.out.seat c Hc.out (by have := Hr.out; have := HR3.out.st.len; omega)).mono ?_
  rintro e w4 ⟨t4, ns4, rfl, r4, m4⟩
  have HR4 : Hid (Run s w w4 ns ns4 dr (0 + 1 + 1 + 1)) := HR3.out.trans r4
  have HM4 : Hid (Means ns4 t4 (.text c)) := m4
  have HM34 : Hid (Means ns4 t3 (.kdf kExported E' (.text l))) := HM3.out.keeps r4.st.pre
  clear r4 m4
  go_wp2_with fail
  refine (kdf_m HR4.out.seat kExport (by decide) (by have := Hr.out; have := HR4.out.st.len; omega) HM34.out HM4.out).mono ?_
  rintro e w5 ⟨t5, ns5, rfl, r5, m5⟩
  have HR5 : Hid (Run s w w5 ns ns5 dr (0 + 1 + 1 + 1 + 1)) := HR4.out.trans r5
  have HM5 : Hid (Means ns5 t5 (exportT E' l c)) := m5
  clear r5 m5
  go_wp2_with fail
  go_ret
  exact ⟨t5, ns5, rfl, HR5.out, HM5.out⟩

end Go.Proofs.YtcfmagmhnemhaaaDoor
