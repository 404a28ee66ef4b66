/-
  The document's example.
-/
import Derived.Test.YtcfmagmhnemhaaaDoorVH
namespace Go.Proofs.YtcfmagmhnemhaaaDoor
open Go.RowKit
set_option linter.unusedSimpArgs false
set_option linter.unusedVariables false
attribute [local go_sem ↓] Go.wp_at_zero Go.wp_at_succ

theorem Mean2.inj {ns : List Nd} (hw : Wf ns) {l : List Int} {L : List Tm} (h : Mean2 ns l L) : ∀ {m : List Int}, Mean2 ns m L → l = m := by
  induction h with
  | nil => intro m h; cases h; rfl
  | cons a _ ih =>
    intro m h
    cases h with
    | cons c d => rw [a.inj hw c, ih d]

theorem cell_al {w : World} {a : Addr} {v : Value} (o : Obj) (h : w.cell? a = some v) : (w.alloc o).cell? a = some v :=
  (World.cell?_alloc_lt _ _ _ (World.block_lt_of_cell? w a h)).trans h

/-- A slice of numbers that was built just now. -/
theorem intsAt_new (w : World) (l : List Int) (hl : (l.length : Int) ≤ 9223372036854775807) : IntsAt (w.alloc (.cells (l.map (Value.int .i64)).toArray 3)) (.slice (some ⟨w.heap.size, 0, none⟩) l.length l.length) l := by
  refine ⟨_, l.length, rfl, hl, fun _ => ⟨w.heap.size, 0, rfl, by simp, fun i x hi => ?_⟩⟩
  rw [World.cell?, heap_alloc_new]
  simp [hi]

/-- Shared over a slice of one that was built just now. -/
theorem shared_one {w : World} {s : Nat} {ns : List Nd} {dr : Int} {x : Int} {X : Tm} (h : Seat w s ns dr) (hx : Means ns x X) (hr : (ns.length : Int) + 3 < 262144) :
    Calls Tryd.prog 11 #[.pointer (some ⟨s, 0, none⟩), .slice (some ⟨w.heap.size, 0, none⟩) 1 1] (w.alloc (.cells #[.int .i64 x] 3)) fun e w' => ∃ t ns', e = .returned (.int .i64 t) ∧ Run s w w' ns ns' dr 2 ∧ Means ns' t (sharedT [X]) := by
  refine (shared_m (l := [x]) (h.al _) (intsAt_new w [x] (by simp)) (fun _ b o sp n c e => ?_) (.cons hx .nil) (by simp; omega)).mono ?_
  · cases e
    exact free_new h.st _
  · rintro e w' ⟨t, ns', rfl, hrun, hm⟩
    exact ⟨t, ns', rfl, .ahead h ((Below.refl _ _).alloc (Nat.le_refl _) _) hrun, hm⟩

theorem EpAt.nz {ns : List Nd} {l : List Int} {L : List Tm} (h : Mean2 ns l L) : ∀ x ∈ l, x ≠ 0 := fun x hx e => by
  have := (hasB_iff _ _).1 (h.has x hx)
  omega

theorem Cells.far {W : World} {o b i : Nat} {t : TypeId} {l : List Value} {v : Value} (h : Cells W o t l) (hne : o ≠ b) : Cells (W.setCell ⟨b, i, none⟩ v) o t l := (Below.heap_setCell _ _ _ _ hne).trans h

theorem cell_far {o b : Nat} (h : o ≠ b) {w : World} {i j : Nat} {v : Value} : (w.setCell ⟨b, i, none⟩ v).cell? ⟨o, j, none⟩ = w.cell? ⟨o, j, none⟩ := World.cell?_of_block (Below.heap_setCell _ _ _ _ h)

/-- A block of zeros that is not the store's, behind another one. -/
structure BlkZ (W : World) (s o b : Nat) : Prop where
  cells : Cells W b 34 (List.replicate 13 (.int .i64 0))
  nown : ¬ Own W s b
  far : o < b

theorem BlkZ.run {W W' : World} {s o b : Nat} {ns ns' : List Nd} {dr : Int} {c : Nat} (h : BlkZ W s o b) (k : Run s W W' ns ns' dr c) : Hid (BlkZ W' s o b) := ⟨h.cells.run k h.nown, k.mv.free h.cells.lt h.nown, h.far⟩
theorem BlkZ.make {W W' : World} {s o : Nat} {ns ns' : List Nd} {dr : Int} {c : Nat} (hlt : o < W.heap.size) (h : Seat W s ns dr) (k : Run s (W.alloc (.cells #[.int .i64 0, .int .i64 0, .int .i64 0, .int .i64 0, .int .i64 0, .int .i64 0, .int .i64 0, .int .i64 0, .int .i64 0, .int .i64 0, .int .i64 0, .int .i64 0, .int .i64 0] 34)) W' ns ns' dr c) : Hid (BlkZ W' s o W.heap.size) := by
  have x0 := Cells.new W 34 (List.replicate 13 (.int .i64 0))
  have n0 := free_new h.st (.cells #[.int .i64 0, .int .i64 0, .int .i64 0, .int .i64 0, .int .i64 0, .int .i64 0, .int .i64 0, .int .i64 0, .int .i64 0, .int .i64 0, .int .i64 0, .int .i64 0, .int .i64 0] 34)
  exact ⟨Cells.run x0 k n0, k.mv.free (Cells.lt x0) n0, hlt⟩
theorem BlkZ.ne {W : World} {s o b : Nat} (h : Hid (BlkZ W s o b)) : Hid (o ≠ b) := by have := h.out.far; unfold Hid; omega
theorem BlkZ.cell {W : World} {s o b : Nat} (h : Hid (BlkZ W s o b)) (i : Nat) (hi : i < 13) : W.cell? ⟨b, i, none⟩ = some (.int .i64 0) := by
  rw [h.out.cells.cell, List.getElem?_replicate, if_pos hi]
theorem BlkZ.fr {W : World} {s o b : Nat} (h : Hid (BlkZ W s o b)) (i : Nat) : W.frozen? ⟨b, i, none⟩ = false := h.out.cells.frozen i
theorem ho_al {W : World} {s o : Nat} {ns : List Nd} {dr : Int} {X : Obj} (h : Hid (¬ Own W s o ∧ o < W.heap.size)) (hs : StoreAt W s ns dr) : ¬ Own (W.alloc X) s o ∧ o < (W.alloc X).heap.size :=
  ⟨fun ho => h.out.1 ((own_below1 hs.lt ((Below.refl _ _).alloc (Nat.le_refl _) X) _).1 ho), by have := h.out.2; simp; omega⟩
theorem Two.al {w0 w : World} {s r : Nat} {ns ms : List Nd} {dn dm : Int} (h : Two w0 s r w ns dn ms dm) (o : Obj) : Two w0 s r (w.alloc o) ns dn ms dm := h.below ((Below.refl _ _).alloc (Nat.le_refl _) _)

set_option maxRecDepth 100000 in
set_option maxHeartbeats 4000000 in
theorem anchor_m {w : World} (hL : Laid0 w) :
    Calls Tryd.prog 6 #[] w fun e w' => e = .returned (.bool true) ∧ Below w.heap.size w w' := by
  have l0 := atoms_length 4
  go_enter Tryd.func6, Tryd.ntmps6
  go_wp2_with fail
  refine (stores_m hL 4 (by decide)).mono ?_
  rintro e w1 ⟨s, r, rfl, hT⟩
  go_wp2_with fail
  refine (shared_one hT.seat (atoms_means (k := 4) (t := 3) (by decide) (by decide)) (by rw [l0]; decide)).mono ?_
  rintro e w2 ⟨t2, ns2, rfl, r2, m2⟩
  have hT2 := hT.run r2
  have l2 := r2.st.len
  rw [l0] at l2
  have p2 := r2.st.pre
  clear hT r2
  go_wp2_with fail
  refine (next_m hT2.seat ((atoms_means (k := 4) (t := 1) (by decide) (by decide)).keeps p2) ((atoms_means (k := 4) (t := 2) (by decide) (by decide)).keeps p2) m2 ((atoms_means (k := 4) (t := 4) (by decide) (by decide)).keeps p2) (by omega)).mono ?_
  rintro e w3 ⟨v, ns3, rfl, r3, ⟨a0, a1, a2, a3, a4, a5, a6, a7, a8, a9, a10, a11, a12, rfl, m3⟩⟩
  have hal : Below w3.heap.size w3 (w3.alloc (.cells #[.int .i64 a0, .int .i64 a1, .int .i64 a2, .int .i64 a3, .int .i64 a4, .int .i64 a5, .int .i64 a6, .int .i64 a7, .int .i64 a8, .int .i64 a9, .int .i64 a10, .int .i64 a11, .int .i64 a12] 34)).drew := ((Below.refl _ _).alloc (Nat.le_refl _) _).drew
  have hT3 := hT2.run r3
  have HT3 : Hid (Two w s r (w3.alloc (.cells #[.int .i64 a0, .int .i64 a1, .int .i64 a2, .int .i64 a3, .int .i64 a4, .int .i64 a5, .int .i64 a6, .int .i64 a7, .int .i64 a8, .int .i64 a9, .int .i64 a10, .int .i64 a11, .int .i64 a12] 34)).drew ns3 4 (atoms 4) 4) := hT3.below hal
  have Hw3 : Hid (w.heap.size ≤ w3.heap.size) := hT3.low.size
  have l3 := r3.st.len
  have Hl3 : Hid (ns3.length ≤ 27) := by unfold Hid; omega
  have HM3 : Hid (Mean2 ns3 [a0, a1, a2, a3, a4, a5, a6, a7, a8, a9, a10, a11, a12] (epochT (joinT (.atom 1) (.atom 2)) (sharedT [.atom 3]) (.atom 4))) := m3
  have HP3 : Hid (atoms 4 <+: ns3) := p2.trans r3.st.pre
  have ho : ¬ Own (w3.alloc (.cells #[.int .i64 a0, .int .i64 a1, .int .i64 a2, .int .i64 a3, .int .i64 a4, .int .i64 a5, .int .i64 a6, .int .i64 a7, .int .i64 a8, .int .i64 a9, .int .i64 a10, .int .i64 a11, .int .i64 a12] 34)) s w3.heap.size := free_new hT3.seat.st _
  have HO3 : Hid (¬ Own (w3.alloc (.cells #[.int .i64 a0, .int .i64 a1, .int .i64 a2, .int .i64 a3, .int .i64 a4, .int .i64 a5, .int .i64 a6, .int .i64 a7, .int .i64 a8, .int .i64 a9, .int .i64 a10, .int .i64 a11, .int .i64 a12] 34)).drew s w3.heap.size ∧ w3.heap.size < (w3.alloc (.cells #[.int .i64 a0, .int .i64 a1, .int .i64 a2, .int .i64 a3, .int .i64 a4, .int .i64 a5, .int .i64 a6, .int .i64 a7, .int .i64 a8, .int .i64 a9, .int .i64 a10, .int .i64 a11, .int .i64 a12] 34)).drew.heap.size) := ⟨fun h => ho ((own_below1 (hT3.below ((Below.refl _ _).alloc (Nat.le_refl _) _)).seat.st.lt ((Below.refl _ _).drew) _).1 h), by simp⟩
  have c0 : (w3.alloc (.cells #[.int .i64 a0, .int .i64 a1, .int .i64 a2, .int .i64 a3, .int .i64 a4, .int .i64 a5, .int .i64 a6, .int .i64 a7, .int .i64 a8, .int .i64 a9, .int .i64 a10, .int .i64 a11, .int .i64 a12] 34)).drew.cell? ⟨w3.heap.size, 0, none⟩ = some (.int .i64 a0) := by go_simp
  clear hT2 hT3 hal l3 l2 p2 m2 r3 m3 ho l0
  obtain ⟨W3, hW3⟩ : ∃ W3, w3.alloc (.cells #[.int .i64 a0, .int .i64 a1, .int .i64 a2, .int .i64 a3, .int .i64 a4, .int .i64 a5, .int .i64 a6, .int .i64 a7, .int .i64 a8, .int .i64 a9, .int .i64 a10, .int .i64 a11, .int .i64 a12] 34) = W3 := ⟨_, rfl⟩
  rw [hW3] at HT3 HO3 c0
  have HW3 : Hid (w3.alloc (.cells #[.int .i64 a0, .int .i64 a1, .int .i64 a2, .int .i64 a3, .int .i64 a4, .int .i64 a5, .int .i64 a6, .int .i64 a7, .int .i64 a8, .int .i64 a9, .int .i64 a10, .int .i64 a11, .int .i64 a12] 34) = W3) := hW3
  clear hW3
  have hdd : Below W3.drew.heap.size W3.drew (W3.alloc (.cells #[.int .i64 0, .int .i64 0, .int .i64 0, .int .i64 0, .int .i64 0, .int .i64 0, .int .i64 0, .int .i64 0, .int .i64 0, .int .i64 0, .int .i64 0, .int .i64 0, .int .i64 0] 34)).drew := (Below.refl W3.drew.heap.size W3.drew).alloc (Nat.le_refl _) _
  have HT3D : Hid (Two w s r (W3.alloc (.cells #[.int .i64 0, .int .i64 0, .int .i64 0, .int .i64 0, .int .i64 0, .int .i64 0, .int .i64 0, .int .i64 0, .int .i64 0, .int .i64 0, .int .i64 0, .int .i64 0, .int .i64 0] 34)).drew ns3 4 (atoms 4) 4) := HT3.out.below hdd
  have HO3D : Hid (¬ Own (W3.alloc (.cells #[.int .i64 0, .int .i64 0, .int .i64 0, .int .i64 0, .int .i64 0, .int .i64 0, .int .i64 0, .int .i64 0, .int .i64 0, .int .i64 0, .int .i64 0, .int .i64 0, .int .i64 0] 34)).drew s w3.heap.size ∧ w3.heap.size < (W3.alloc (.cells #[.int .i64 0, .int .i64 0, .int .i64 0, .int .i64 0, .int .i64 0, .int .i64 0, .int .i64 0, .int .i64 0, .int .i64 0, .int .i64 0, .int .i64 0, .int .i64 0, .int .i64 0] 34)).drew.heap.size) := ⟨fun ho => HO3.out.1 ((own_below1 HT3.out.seat.st.lt hdd _).1 ho), Nat.lt_of_lt_of_le HO3.out.2 hdd.size⟩
  have c0D : Hid ((W3.alloc (.cells #[.int .i64 0, .int .i64 0, .int .i64 0, .int .i64 0, .int .i64 0, .int .i64 0, .int .i64 0, .int .i64 0, .int .i64 0, .int .i64 0, .int .i64 0, .int .i64 0, .int .i64 0] 34)).drew.cell? ⟨w3.heap.size, 0, none⟩ = some (.int .i64 a0)) := (hdd.cell (p := ⟨w3.heap.size, 0, none⟩) HO3.out.2).trans c0
  have HBD : Hid (BlkZ (W3.alloc (.cells #[.int .i64 0, .int .i64 0, .int .i64 0, .int .i64 0, .int .i64 0, .int .i64 0, .int .i64 0, .int .i64 0, .int .i64 0, .int .i64 0, .int .i64 0, .int .i64 0, .int .i64 0] 34)).drew s w3.heap.size W3.heap.size) := by
    refine ⟨Cells.below (Cells.new W3 34 (List.replicate 13 (.int .i64 0))) ((Below.refl _ _).drew), fun ho => ?_, HO3.out.2⟩
    have hh := HT3.out.seat.st.own_lt ((own_below1 HT3.out.seat.st.lt hdd _).1 ho)
    exact absurd hh (Nat.lt_irrefl _)
  have HC3 : Hid (Cells W3.drew w3.heap.size 34 [.int .i64 a0, .int .i64 a1, .int .i64 a2, .int .i64 a3, .int .i64 a4, .int .i64 a5, .int .i64 a6, .int .i64 a7, .int .i64 a8, .int .i64 a9, .int .i64 a10, .int .i64 a11, .int .i64 a12]) := by rw [← HW3.out]; exact Cells.below (Cells.new w3 34 [.int .i64 a0, .int .i64 a1, .int .i64 a2, .int .i64 a3, .int .i64 a4, .int .i64 a5, .int .i64 a6, .int .i64 a7, .int .i64 a8, .int .i64 a9, .int .i64 a10, .int .i64 a11, .int .i64 a12]) ((Below.refl _ _).drew)
  have HC3D : Hid (Cells (W3.alloc (.cells #[.int .i64 0, .int .i64 0, .int .i64 0, .int .i64 0, .int .i64 0, .int .i64 0, .int .i64 0, .int .i64 0, .int .i64 0, .int .i64 0, .int .i64 0, .int .i64 0, .int .i64 0] 34)).drew w3.heap.size 34 [.int .i64 a0, .int .i64 a1, .int .i64 a2, .int .i64 a3, .int .i64 a4, .int .i64 a5, .int .i64 a6, .int .i64 a7, .int .i64 a8, .int .i64 a9, .int .i64 a10, .int .i64 a11, .int .i64 a12]) := Cells.below HC3.out hdd
  clear hdd
  go_wp2_with (rw [HW3.out])
  go_region_held3 (fun w' => w'.cell? ⟨w3.heap.size, 0, none⟩ = some (.int .i64 a0))
    (first | with_reducible exact c0 | with_reducible exact c0D.out | with_reducible exact cell_al _ c0 | (iterate 13 rw [cell_far HD.out]); with_reducible exact c0)
    (first
      | (go_at_call 28
         have hq := text_m HT3.out.seat ⟨#[]⟩ (by decide) (by have := Hl3.out; omega)
         with_reducible refine Calls.mono hq ?_
         clear hq
         rintro e w4 ⟨t4, ns4, rfl, r4, m4⟩
         replace c0 := (r4.cell HO3.out.2 HO3.out.1 0).trans c0
         have HO4 : Hid (¬ Own w4 s w3.heap.size ∧ w3.heap.size < w4.heap.size) := ⟨r4.mv.free HO3.out.2 HO3.out.1, Nat.lt_of_lt_of_le HO3.out.2 r4.mv.size⟩
         have HC4 : Hid (Cells w4 w3.heap.size 34 [.int .i64 a0, .int .i64 a1, .int .i64 a2, .int .i64 a3, .int .i64 a4, .int .i64 a5, .int .i64 a6, .int .i64 a7, .int .i64 a8, .int .i64 a9, .int .i64 a10, .int .i64 a11, .int .i64 a12]) := Cells.run HC3.out r4 HO3.out.1
         have HT4 : Hid (Two w s r w4 ns4 4 (atoms 4) 4) := HT3.out.run r4
         have S4 : Hid (Stp ns3 ns4 1) := r4.st
         have M4 : Hid (Means ns4 t4 noT) := m4
         clear r4 m4)
      | (go_at_call 28
         have hq := text_m HT3D.out.seat ⟨#[]⟩ (by decide) (by have := Hl3.out; omega)
         with_reducible refine Calls.mono hq ?_
         clear hq
         rintro e w4 ⟨t4, ns4, rfl, r4, m4⟩
         have HB : Hid (BlkZ w4 s w3.heap.size W3.heap.size) := BlkZ.run HBD.out r4
         have c0 : w4.cell? ⟨w3.heap.size, 0, none⟩ = some (.int .i64 a0) := (r4.cell HO3D.out.2 HO3D.out.1 0).trans c0D.out
         have HO4 : Hid (¬ Own w4 s w3.heap.size ∧ w3.heap.size < w4.heap.size) := ⟨r4.mv.free HO3D.out.2 HO3D.out.1, Nat.lt_of_lt_of_le HO3D.out.2 r4.mv.size⟩
         have HC4 : Hid (Cells w4 w3.heap.size 34 [.int .i64 a0, .int .i64 a1, .int .i64 a2, .int .i64 a3, .int .i64 a4, .int .i64 a5, .int .i64 a6, .int .i64 a7, .int .i64 a8, .int .i64 a9, .int .i64 a10, .int .i64 a11, .int .i64 a12]) := Cells.run HC3D.out r4 HO3D.out.1
         have HT4 : Hid (Two w s r w4 ns4 4 (atoms 4) 4) := HT3D.out.run r4
         have S4 : Hid (Stp ns3 ns4 1) := r4.st
         have M4 : Hid (Means ns4 t4 noT) := m4
         clear r4 m4)
      | (go_at_call 29
         have hq := kdf_m HT4.out.seat ⟨#[112, 115, 107]⟩ (by decide) (by have := Hl3.out; have := S4.out.len; omega) M4.out ((atoms_means (k := 4) (t := 3) (by decide) (by decide)).keeps (HP3.out.trans S4.out.pre))
         with_reducible refine Calls.mono hq ?_
         clear hq
         rintro e w5 ⟨t5, ns5, rfl, r5, m5⟩
         replace c0 := (r5.cell HO4.out.2 HO4.out.1 0).trans c0
         have HO5 : Hid (¬ Own w5 s w3.heap.size ∧ w3.heap.size < w5.heap.size) := ⟨r5.mv.free HO4.out.2 HO4.out.1, Nat.lt_of_lt_of_le HO4.out.2 r5.mv.size⟩
         have HC5 : Hid (Cells w5 w3.heap.size 34 [.int .i64 a0, .int .i64 a1, .int .i64 a2, .int .i64 a3, .int .i64 a4, .int .i64 a5, .int .i64 a6, .int .i64 a7, .int .i64 a8, .int .i64 a9, .int .i64 a10, .int .i64 a11, .int .i64 a12]) := Cells.run HC4.out r5 HO4.out.1
         have HT5 : Hid (Two w s r w5 ns5 4 (atoms 4) 4) := HT4.out.run r5
         have S5 : Hid (Stp ns3 ns5 2) := S4.out.trans r5.st
         have M5 : Hid (Means ns5 t5 (sharedT [.atom 3])) := m5
         try (replace HB := BlkZ.run HB.out r5)
         clear r5 m5)
      | (go_at_call 29
         have hq := kdf_m (HT4.out.seat.al (.cells #[.int .i64 0, .int .i64 0, .int .i64 0, .int .i64 0, .int .i64 0, .int .i64 0, .int .i64 0, .int .i64 0, .int .i64 0, .int .i64 0, .int .i64 0, .int .i64 0, .int .i64 0] 34)) ⟨#[112, 115, 107]⟩ (by decide) (by have := Hl3.out; have := S4.out.len; omega) M4.out ((atoms_means (k := 4) (t := 3) (by decide) (by decide)).keeps (HP3.out.trans S4.out.pre))
         with_reducible refine Calls.mono hq ?_
         clear hq
         rintro e w5 ⟨t5, ns5, rfl, r5, m5⟩
         have HB : Hid (BlkZ w5 s w3.heap.size w4.heap.size) := BlkZ.make HO4.out.2 HT4.out.seat r5
         replace c0 := (r5.cell (ho_al HO4 HT4.out.seat.st).2 (ho_al HO4 HT4.out.seat.st).1 0).trans (cell_al _ c0)
         have HO5 : Hid (¬ Own w5 s w3.heap.size ∧ w3.heap.size < w5.heap.size) := ⟨r5.mv.free (ho_al HO4 HT4.out.seat.st).2 (ho_al HO4 HT4.out.seat.st).1, Nat.lt_of_lt_of_le (ho_al HO4 HT4.out.seat.st).2 r5.mv.size⟩
         have HC5 : Hid (Cells w5 w3.heap.size 34 [.int .i64 a0, .int .i64 a1, .int .i64 a2, .int .i64 a3, .int .i64 a4, .int .i64 a5, .int .i64 a6, .int .i64 a7, .int .i64 a8, .int .i64 a9, .int .i64 a10, .int .i64 a11, .int .i64 a12]) := Cells.run (Cells.below HC4.out ((Below.refl _ _).alloc (Nat.le_refl _) _)) r5 (ho_al HO4 HT4.out.seat.st).1
         have HT5 : Hid (Two w s r w5 ns5 4 (atoms 4) 4) := (HT4.out.al _).run r5
         have S5 : Hid (Stp ns3 ns5 2) := S4.out.trans r5.st
         have M5 : Hid (Means ns5 t5 (sharedT [.atom 3])) := m5
         clear r5 m5)
      | (go_at_call 15
         have hq := join_m HT5.out.seat (J := joinT (.atom 1) (.atom 2)) (by cases HM3.out with | cons h _ => exact h.keeps S5.out.pre) M5.out ((atoms_means (k := 4) (t := 4) (by decide) (by decide)).keeps (HP3.out.trans S5.out.pre)) (by have := Hl3.out; have := S5.out.len; omega)
         with_reducible refine Calls.mono hq ?_
         clear hq
         rintro e w6 ⟨v, ns6, rfl, r6, ⟨b0, b1, b2, b3, b4, b5, b6, b7, b8, b9, b10, b11, b12, rfl, m6⟩⟩
         replace c0 := (r6.cell HO5.out.2 HO5.out.1 0).trans c0
         have HC6 : Hid (Cells w6 w3.heap.size 34 [.int .i64 a0, .int .i64 a1, .int .i64 a2, .int .i64 a3, .int .i64 a4, .int .i64 a5, .int .i64 a6, .int .i64 a7, .int .i64 a8, .int .i64 a9, .int .i64 a10, .int .i64 a11, .int .i64 a12]) := Cells.run HC5.out r6 HO5.out.1
         have HT6 : Hid (Two w s r w6 ns6 4 (atoms 4) 4) := HT5.out.run r6
         have M6 : Hid (Mean2 ns6 [b0, b1, b2, b3, b4, b5, b6, b7, b8, b9, b10, b11, b12] (epochT (joinT (.atom 1) (.atom 2)) (sharedT [.atom 3]) (.atom 4))) := m6
         have S6 : Hid (ns3 <+: ns6) := S5.out.pre.trans r6.st.pre
         try (replace HB := BlkZ.run HB.out r6
              have HD := BlkZ.ne HB
              have zc0 := BlkZ.cell HB 0 (by decide)
              have zf0 := BlkZ.fr HB 0
              have zc1 := BlkZ.cell HB 1 (by decide)
              have zf1 := BlkZ.fr HB 1
              have zc2 := BlkZ.cell HB 2 (by decide)
              have zf2 := BlkZ.fr HB 2
              have zc3 := BlkZ.cell HB 3 (by decide)
              have zf3 := BlkZ.fr HB 3
              have zc4 := BlkZ.cell HB 4 (by decide)
              have zf4 := BlkZ.fr HB 4
              have zc5 := BlkZ.cell HB 5 (by decide)
              have zf5 := BlkZ.fr HB 5
              have zc6 := BlkZ.cell HB 6 (by decide)
              have zf6 := BlkZ.fr HB 6
              have zc7 := BlkZ.cell HB 7 (by decide)
              have zf7 := BlkZ.fr HB 7
              have zc8 := BlkZ.cell HB 8 (by decide)
              have zf8 := BlkZ.fr HB 8
              have zc9 := BlkZ.cell HB 9 (by decide)
              have zf9 := BlkZ.fr HB 9
              have zc10 := BlkZ.cell HB 10 (by decide)
              have zf10 := BlkZ.fr HB 10
              have zc11 := BlkZ.cell HB 11 (by decide)
              have zf11 := BlkZ.fr HB 11
              have zc12 := BlkZ.cell HB 12 (by decide)
              have zf12 := BlkZ.fr HB 12)
         clear r6 m6)
      | (go_at_call 15
         have hq := join_m (HT5.out.seat.al (.cells #[.int .i64 0, .int .i64 0, .int .i64 0, .int .i64 0, .int .i64 0, .int .i64 0, .int .i64 0, .int .i64 0, .int .i64 0, .int .i64 0, .int .i64 0, .int .i64 0, .int .i64 0] 34)) (J := joinT (.atom 1) (.atom 2)) (by cases HM3.out with | cons h _ => exact h.keeps S5.out.pre) M5.out ((atoms_means (k := 4) (t := 4) (by decide) (by decide)).keeps (HP3.out.trans S5.out.pre)) (by have := Hl3.out; have := S5.out.len; omega)
         with_reducible refine Calls.mono hq ?_
         clear hq
         rintro e w6 ⟨v, ns6, rfl, r6, ⟨b0, b1, b2, b3, b4, b5, b6, b7, b8, b9, b10, b11, b12, rfl, m6⟩⟩
         have HB : Hid (BlkZ w6 s w3.heap.size w5.heap.size) := BlkZ.make HO5.out.2 HT5.out.seat r6
         replace c0 := (r6.cell (ho_al HO5 HT5.out.seat.st).2 (ho_al HO5 HT5.out.seat.st).1 0).trans (cell_al _ c0)
         have HC6 : Hid (Cells w6 w3.heap.size 34 [.int .i64 a0, .int .i64 a1, .int .i64 a2, .int .i64 a3, .int .i64 a4, .int .i64 a5, .int .i64 a6, .int .i64 a7, .int .i64 a8, .int .i64 a9, .int .i64 a10, .int .i64 a11, .int .i64 a12]) := Cells.run (Cells.below HC5.out ((Below.refl _ _).alloc (Nat.le_refl _) _)) r6 (ho_al HO5 HT5.out.seat.st).1
         have HT6 : Hid (Two w s r w6 ns6 4 (atoms 4) 4) := (HT5.out.al _).run r6
         have M6 : Hid (Mean2 ns6 [b0, b1, b2, b3, b4, b5, b6, b7, b8, b9, b10, b11, b12] (epochT (joinT (.atom 1) (.atom 2)) (sharedT [.atom 3]) (.atom 4))) := m6
         have S6 : Hid (ns3 <+: ns6) := S5.out.pre.trans r6.st.pre
         have HD := BlkZ.ne HB
         have zc0 := BlkZ.cell HB 0 (by decide)
         have zf0 := BlkZ.fr HB 0
         have zc1 := BlkZ.cell HB 1 (by decide)
         have zf1 := BlkZ.fr HB 1
         have zc2 := BlkZ.cell HB 2 (by decide)
         have zf2 := BlkZ.fr HB 2
         have zc3 := BlkZ.cell HB 3 (by decide)
         have zf3 := BlkZ.fr HB 3
         have zc4 := BlkZ.cell HB 4 (by decide)
         have zf4 := BlkZ.fr HB 4
         have zc5 := BlkZ.cell HB 5 (by decide)
         have zf5 := BlkZ.fr HB 5
         have zc6 := BlkZ.cell HB 6 (by decide)
         have zf6 := BlkZ.fr HB 6
         have zc7 := BlkZ.cell HB 7 (by decide)
         have zf7 := BlkZ.fr HB 7
         have zc8 := BlkZ.cell HB 8 (by decide)
         have zf8 := BlkZ.fr HB 8
         have zc9 := BlkZ.cell HB 9 (by decide)
         have zf9 := BlkZ.fr HB 9
         have zc10 := BlkZ.cell HB 10 (by decide)
         have zf10 := BlkZ.fr HB 10
         have zc11 := BlkZ.cell HB 11 (by decide)
         have zf11 := BlkZ.fr HB 11
         have zc12 := BlkZ.cell HB 12 (by decide)
         have zf12 := BlkZ.fr HB 12
         clear r6 m6)
      | fail)
  all_goals
    have HE := Mean2.inj HT6.out.seat.wf (Mean2.keeps S6.out HM3.out) M6.out
    simp only [List.cons.injEq, and_true] at HE
    obtain ⟨rfl, rfl, rfl, rfl, rfl, rfl, rfl, rfl, rfl, rfl, rfl, rfl, rfl⟩ := HE
    have z3 : (a3 != 0) = true := by have := EpAt.nz M6.out a3 (by simp); simp [this]
    have z4 : (a4 != a5) = true := by
      rw [bne_iff_ne]
      intro e
      have h4 := M6.out.get 4 a4 rfl
      have h5 := M6.out.get 5 a5 rfl
      obtain ⟨X, hX, mX⟩ := h4
      obtain ⟨Y, hY, mY⟩ := h5
      rw [e] at mX
      have e2 := mX.one mY
      subst e2
      have := epochT_place hX hY
      cases this
    have HL6 : Hid (Below w.heap.size w w6) := HT6.out.low
    have HC6' : Hid (Cells w6 w3.heap.size 34 [.int .i64 a0, .int .i64 a1, .int .i64 a2, .int .i64 a3, .int .i64 a4, .int .i64 a5, .int .i64 a6, .int .i64 a7, .int .i64 a8, .int .i64 a9, .int .i64 a10, .int .i64 a11, .int .i64 a12]) := HC6.out
  all_goals first
    | (
      have hcA : Cells (w6.alloc (.cells #[.int .i64 a0, .int .i64 a1, .int .i64 a2, .int .i64 a3, .int .i64 a4, .int .i64 a5, .int .i64 a6, .int .i64 a7, .int .i64 a8, .int .i64 a9, .int .i64 a10, .int .i64 a11, .int .i64 a12] 34)) w3.heap.size 34 [.int .i64 a0, .int .i64 a1, .int .i64 a2, .int .i64 a3, .int .i64 a4, .int .i64 a5, .int .i64 a6, .int .i64 a7, .int .i64 a8, .int .i64 a9, .int .i64 a10, .int .i64 a11, .int .i64 a12] := Cells.below HC6.out ((Below.refl _ _).alloc (Nat.le_refl _) _)
      have hcB : Cells (w6.alloc (.cells #[.int .i64 a0, .int .i64 a1, .int .i64 a2, .int .i64 a3, .int .i64 a4, .int .i64 a5, .int .i64 a6, .int .i64 a7, .int .i64 a8, .int .i64 a9, .int .i64 a10, .int .i64 a11, .int .i64 a12] 34)) w6.heap.size 34 [.int .i64 a0, .int .i64 a1, .int .i64 a2, .int .i64 a3, .int .i64 a4, .int .i64 a5, .int .i64 a6, .int .i64 a7, .int .i64 a8, .int .i64 a9, .int .i64 a10, .int .i64 a11, .int .i64 a12] := Cells.new w6 34 [.int .i64 a0, .int .i64 a1, .int .i64 a2, .int .i64 a3, .int .i64 a4, .int .i64 a5, .int .i64 a6, .int .i64 a7, .int .i64 a8, .int .i64 a9, .int .i64 a10, .int .i64 a11, .int .i64 a12]
      have HLo : Hid (Below w.heap.size w (w6.alloc (.cells #[.int .i64 a0, .int .i64 a1, .int .i64 a2, .int .i64 a3, .int .i64 a4, .int .i64 a5, .int .i64 a6, .int .i64 a7, .int .i64 a8, .int .i64 a9, .int .i64 a10, .int .i64 a11, .int .i64 a12] 34))) := HL6.out.alloc HL6.out.size _
      obtain ⟨Wf, hWf⟩ : ∃ Wf, (w6.alloc (.cells #[.int .i64 a0, .int .i64 a1, .int .i64 a2, .int .i64 a3, .int .i64 a4, .int .i64 a5, .int .i64 a6, .int .i64 a7, .int .i64 a8, .int .i64 a9, .int .i64 a10, .int .i64 a11, .int .i64 a12] 34)) = Wf := ⟨_, rfl⟩
      rw [hWf] at hcA hcB HLo
      rw [hWf]
      clear hWf
      have g0 : Wf.cell? ⟨w3.heap.size, 0, none⟩ = some (.int .i64 a0) := by rw [Cells.cell hcA]; rfl
      have k0 : Wf.cell? ⟨w6.heap.size, 0, none⟩ = some (.int .i64 a0) := by rw [Cells.cell hcB]; rfl
      have g1 : Wf.cell? ⟨w3.heap.size, 1, none⟩ = some (.int .i64 a1) := by rw [Cells.cell hcA]; rfl
      have k1 : Wf.cell? ⟨w6.heap.size, 1, none⟩ = some (.int .i64 a1) := by rw [Cells.cell hcB]; rfl
      have g2 : Wf.cell? ⟨w3.heap.size, 2, none⟩ = some (.int .i64 a2) := by rw [Cells.cell hcA]; rfl
      have k2 : Wf.cell? ⟨w6.heap.size, 2, none⟩ = some (.int .i64 a2) := by rw [Cells.cell hcB]; rfl
      have g3 : Wf.cell? ⟨w3.heap.size, 3, none⟩ = some (.int .i64 a3) := by rw [Cells.cell hcA]; rfl
      have k3 : Wf.cell? ⟨w6.heap.size, 3, none⟩ = some (.int .i64 a3) := by rw [Cells.cell hcB]; rfl
      have g4 : Wf.cell? ⟨w3.heap.size, 4, none⟩ = some (.int .i64 a4) := by rw [Cells.cell hcA]; rfl
      have k4 : Wf.cell? ⟨w6.heap.size, 4, none⟩ = some (.int .i64 a4) := by rw [Cells.cell hcB]; rfl
      have g5 : Wf.cell? ⟨w3.heap.size, 5, none⟩ = some (.int .i64 a5) := by rw [Cells.cell hcA]; rfl
      have k5 : Wf.cell? ⟨w6.heap.size, 5, none⟩ = some (.int .i64 a5) := by rw [Cells.cell hcB]; rfl
      have g6 : Wf.cell? ⟨w3.heap.size, 6, none⟩ = some (.int .i64 a6) := by rw [Cells.cell hcA]; rfl
      have k6 : Wf.cell? ⟨w6.heap.size, 6, none⟩ = some (.int .i64 a6) := by rw [Cells.cell hcB]; rfl
      have g7 : Wf.cell? ⟨w3.heap.size, 7, none⟩ = some (.int .i64 a7) := by rw [Cells.cell hcA]; rfl
      have k7 : Wf.cell? ⟨w6.heap.size, 7, none⟩ = some (.int .i64 a7) := by rw [Cells.cell hcB]; rfl
      have g8 : Wf.cell? ⟨w3.heap.size, 8, none⟩ = some (.int .i64 a8) := by rw [Cells.cell hcA]; rfl
      have k8 : Wf.cell? ⟨w6.heap.size, 8, none⟩ = some (.int .i64 a8) := by rw [Cells.cell hcB]; rfl
      have g9 : Wf.cell? ⟨w3.heap.size, 9, none⟩ = some (.int .i64 a9) := by rw [Cells.cell hcA]; rfl
      have k9 : Wf.cell? ⟨w6.heap.size, 9, none⟩ = some (.int .i64 a9) := by rw [Cells.cell hcB]; rfl
      have g10 : Wf.cell? ⟨w3.heap.size, 10, none⟩ = some (.int .i64 a10) := by rw [Cells.cell hcA]; rfl
      have k10 : Wf.cell? ⟨w6.heap.size, 10, none⟩ = some (.int .i64 a10) := by rw [Cells.cell hcB]; rfl
      have g11 : Wf.cell? ⟨w3.heap.size, 11, none⟩ = some (.int .i64 a11) := by rw [Cells.cell hcA]; rfl
      have k11 : Wf.cell? ⟨w6.heap.size, 11, none⟩ = some (.int .i64 a11) := by rw [Cells.cell hcB]; rfl
      have g12 : Wf.cell? ⟨w3.heap.size, 12, none⟩ = some (.int .i64 a12) := by rw [Cells.cell hcA]; rfl
      have k12 : Wf.cell? ⟨w6.heap.size, 12, none⟩ = some (.int .i64 a12) := by rw [Cells.cell hcB]; rfl
      clear hcA hcB
      go_wp2_with fail
      go_ret
      exact ⟨by simp [z3, z4], HLo.out⟩)
    | (
      have hge : w.heap.size ≤ w5.heap.size := by have := HB.out.far; have := Hw3.out; omega
      have hcA : Cells (((((((((((((w6.setCell ⟨w5.heap.size, 0, none⟩ (.int .i64 a0)).setCell ⟨w5.heap.size, 1, none⟩ (.int .i64 a1)).setCell ⟨w5.heap.size, 2, none⟩ (.int .i64 a2)).setCell ⟨w5.heap.size, 3, none⟩ (.int .i64 a3)).setCell ⟨w5.heap.size, 4, none⟩ (.int .i64 a4)).setCell ⟨w5.heap.size, 5, none⟩ (.int .i64 a5)).setCell ⟨w5.heap.size, 6, none⟩ (.int .i64 a6)).setCell ⟨w5.heap.size, 7, none⟩ (.int .i64 a7)).setCell ⟨w5.heap.size, 8, none⟩ (.int .i64 a8)).setCell ⟨w5.heap.size, 9, none⟩ (.int .i64 a9)).setCell ⟨w5.heap.size, 10, none⟩ (.int .i64 a10)).setCell ⟨w5.heap.size, 11, none⟩ (.int .i64 a11)).setCell ⟨w5.heap.size, 12, none⟩ (.int .i64 a12)) w3.heap.size 34 [.int .i64 a0, .int .i64 a1, .int .i64 a2, .int .i64 a3, .int .i64 a4, .int .i64 a5, .int .i64 a6, .int .i64 a7, .int .i64 a8, .int .i64 a9, .int .i64 a10, .int .i64 a11, .int .i64 a12] := (Cells.far (Cells.far (Cells.far (Cells.far (Cells.far (Cells.far (Cells.far (Cells.far (Cells.far (Cells.far (Cells.far (Cells.far (Cells.far HC6.out HD.out) HD.out) HD.out) HD.out) HD.out) HD.out) HD.out) HD.out) HD.out) HD.out) HD.out) HD.out) HD.out)
      have hcB : Cells (((((((((((((w6.setCell ⟨w5.heap.size, 0, none⟩ (.int .i64 a0)).setCell ⟨w5.heap.size, 1, none⟩ (.int .i64 a1)).setCell ⟨w5.heap.size, 2, none⟩ (.int .i64 a2)).setCell ⟨w5.heap.size, 3, none⟩ (.int .i64 a3)).setCell ⟨w5.heap.size, 4, none⟩ (.int .i64 a4)).setCell ⟨w5.heap.size, 5, none⟩ (.int .i64 a5)).setCell ⟨w5.heap.size, 6, none⟩ (.int .i64 a6)).setCell ⟨w5.heap.size, 7, none⟩ (.int .i64 a7)).setCell ⟨w5.heap.size, 8, none⟩ (.int .i64 a8)).setCell ⟨w5.heap.size, 9, none⟩ (.int .i64 a9)).setCell ⟨w5.heap.size, 10, none⟩ (.int .i64 a10)).setCell ⟨w5.heap.size, 11, none⟩ (.int .i64 a11)).setCell ⟨w5.heap.size, 12, none⟩ (.int .i64 a12)) w5.heap.size 34 [.int .i64 a0, .int .i64 a1, .int .i64 a2, .int .i64 a3, .int .i64 a4, .int .i64 a5, .int .i64 a6, .int .i64 a7, .int .i64 a8, .int .i64 a9, .int .i64 a10, .int .i64 a11, .int .i64 a12] := (Cells.set (Cells.set (Cells.set (Cells.set (Cells.set (Cells.set (Cells.set (Cells.set (Cells.set (Cells.set (Cells.set (Cells.set (Cells.set HB.out.cells 0 (.int .i64 a0)) 1 (.int .i64 a1)) 2 (.int .i64 a2)) 3 (.int .i64 a3)) 4 (.int .i64 a4)) 5 (.int .i64 a5)) 6 (.int .i64 a6)) 7 (.int .i64 a7)) 8 (.int .i64 a8)) 9 (.int .i64 a9)) 10 (.int .i64 a10)) 11 (.int .i64 a11)) 12 (.int .i64 a12))
      have HLo : Hid (Below w.heap.size w (((((((((((((w6.setCell ⟨w5.heap.size, 0, none⟩ (.int .i64 a0)).setCell ⟨w5.heap.size, 1, none⟩ (.int .i64 a1)).setCell ⟨w5.heap.size, 2, none⟩ (.int .i64 a2)).setCell ⟨w5.heap.size, 3, none⟩ (.int .i64 a3)).setCell ⟨w5.heap.size, 4, none⟩ (.int .i64 a4)).setCell ⟨w5.heap.size, 5, none⟩ (.int .i64 a5)).setCell ⟨w5.heap.size, 6, none⟩ (.int .i64 a6)).setCell ⟨w5.heap.size, 7, none⟩ (.int .i64 a7)).setCell ⟨w5.heap.size, 8, none⟩ (.int .i64 a8)).setCell ⟨w5.heap.size, 9, none⟩ (.int .i64 a9)).setCell ⟨w5.heap.size, 10, none⟩ (.int .i64 a10)).setCell ⟨w5.heap.size, 11, none⟩ (.int .i64 a11)).setCell ⟨w5.heap.size, 12, none⟩ (.int .i64 a12))) := (RowKit.Below.setCell (RowKit.Below.setCell (RowKit.Below.setCell (RowKit.Below.setCell (RowKit.Below.setCell (RowKit.Below.setCell (RowKit.Below.setCell (RowKit.Below.setCell (RowKit.Below.setCell (RowKit.Below.setCell (RowKit.Below.setCell (RowKit.Below.setCell (RowKit.Below.setCell HL6.out hge (.int .i64 a0)) hge (.int .i64 a1)) hge (.int .i64 a2)) hge (.int .i64 a3)) hge (.int .i64 a4)) hge (.int .i64 a5)) hge (.int .i64 a6)) hge (.int .i64 a7)) hge (.int .i64 a8)) hge (.int .i64 a9)) hge (.int .i64 a10)) hge (.int .i64 a11)) hge (.int .i64 a12))
      obtain ⟨Wf, hWf⟩ : ∃ Wf, (((((((((((((w6.setCell ⟨w5.heap.size, 0, none⟩ (.int .i64 a0)).setCell ⟨w5.heap.size, 1, none⟩ (.int .i64 a1)).setCell ⟨w5.heap.size, 2, none⟩ (.int .i64 a2)).setCell ⟨w5.heap.size, 3, none⟩ (.int .i64 a3)).setCell ⟨w5.heap.size, 4, none⟩ (.int .i64 a4)).setCell ⟨w5.heap.size, 5, none⟩ (.int .i64 a5)).setCell ⟨w5.heap.size, 6, none⟩ (.int .i64 a6)).setCell ⟨w5.heap.size, 7, none⟩ (.int .i64 a7)).setCell ⟨w5.heap.size, 8, none⟩ (.int .i64 a8)).setCell ⟨w5.heap.size, 9, none⟩ (.int .i64 a9)).setCell ⟨w5.heap.size, 10, none⟩ (.int .i64 a10)).setCell ⟨w5.heap.size, 11, none⟩ (.int .i64 a11)).setCell ⟨w5.heap.size, 12, none⟩ (.int .i64 a12)) = Wf := ⟨_, rfl⟩
      rw [hWf] at hcA hcB HLo
      rw [hWf]
      clear hWf
      have g0 : Wf.cell? ⟨w3.heap.size, 0, none⟩ = some (.int .i64 a0) := by rw [Cells.cell hcA]; rfl
      have k0 : Wf.cell? ⟨w5.heap.size, 0, none⟩ = some (.int .i64 a0) := by rw [Cells.cell hcB]; rfl
      have g1 : Wf.cell? ⟨w3.heap.size, 1, none⟩ = some (.int .i64 a1) := by rw [Cells.cell hcA]; rfl
      have k1 : Wf.cell? ⟨w5.heap.size, 1, none⟩ = some (.int .i64 a1) := by rw [Cells.cell hcB]; rfl
      have g2 : Wf.cell? ⟨w3.heap.size, 2, none⟩ = some (.int .i64 a2) := by rw [Cells.cell hcA]; rfl
      have k2 : Wf.cell? ⟨w5.heap.size, 2, none⟩ = some (.int .i64 a2) := by rw [Cells.cell hcB]; rfl
      have g3 : Wf.cell? ⟨w3.heap.size, 3, none⟩ = some (.int .i64 a3) := by rw [Cells.cell hcA]; rfl
      have k3 : Wf.cell? ⟨w5.heap.size, 3, none⟩ = some (.int .i64 a3) := by rw [Cells.cell hcB]; rfl
      have g4 : Wf.cell? ⟨w3.heap.size, 4, none⟩ = some (.int .i64 a4) := by rw [Cells.cell hcA]; rfl
      have k4 : Wf.cell? ⟨w5.heap.size, 4, none⟩ = some (.int .i64 a4) := by rw [Cells.cell hcB]; rfl
      have g5 : Wf.cell? ⟨w3.heap.size, 5, none⟩ = some (.int .i64 a5) := by rw [Cells.cell hcA]; rfl
      have k5 : Wf.cell? ⟨w5.heap.size, 5, none⟩ = some (.int .i64 a5) := by rw [Cells.cell hcB]; rfl
      have g6 : Wf.cell? ⟨w3.heap.size, 6, none⟩ = some (.int .i64 a6) := by rw [Cells.cell hcA]; rfl
      have k6 : Wf.cell? ⟨w5.heap.size, 6, none⟩ = some (.int .i64 a6) := by rw [Cells.cell hcB]; rfl
      have g7 : Wf.cell? ⟨w3.heap.size, 7, none⟩ = some (.int .i64 a7) := by rw [Cells.cell hcA]; rfl
      have k7 : Wf.cell? ⟨w5.heap.size, 7, none⟩ = some (.int .i64 a7) := by rw [Cells.cell hcB]; rfl
      have g8 : Wf.cell? ⟨w3.heap.size, 8, none⟩ = some (.int .i64 a8) := by rw [Cells.cell hcA]; rfl
      have k8 : Wf.cell? ⟨w5.heap.size, 8, none⟩ = some (.int .i64 a8) := by rw [Cells.cell hcB]; rfl
      have g9 : Wf.cell? ⟨w3.heap.size, 9, none⟩ = some (.int .i64 a9) := by rw [Cells.cell hcA]; rfl
      have k9 : Wf.cell? ⟨w5.heap.size, 9, none⟩ = some (.int .i64 a9) := by rw [Cells.cell hcB]; rfl
      have g10 : Wf.cell? ⟨w3.heap.size, 10, none⟩ = some (.int .i64 a10) := by rw [Cells.cell hcA]; rfl
      have k10 : Wf.cell? ⟨w5.heap.size, 10, none⟩ = some (.int .i64 a10) := by rw [Cells.cell hcB]; rfl
      have g11 : Wf.cell? ⟨w3.heap.size, 11, none⟩ = some (.int .i64 a11) := by rw [Cells.cell hcA]; rfl
      have k11 : Wf.cell? ⟨w5.heap.size, 11, none⟩ = some (.int .i64 a11) := by rw [Cells.cell hcB]; rfl
      have g12 : Wf.cell? ⟨w3.heap.size, 12, none⟩ = some (.int .i64 a12) := by rw [Cells.cell hcA]; rfl
      have k12 : Wf.cell? ⟨w5.heap.size, 12, none⟩ = some (.int .i64 a12) := by rw [Cells.cell hcB]; rfl
      clear hcA hcB
      go_wp2_with fail
      go_ret
      exact ⟨by simp [z3, z4], HLo.out⟩)
    | (
      have hge : w.heap.size ≤ w4.heap.size := by have := HB.out.far; have := Hw3.out; omega
      have hcA : Cells (((((((((((((w6.setCell ⟨w4.heap.size, 0, none⟩ (.int .i64 a0)).setCell ⟨w4.heap.size, 1, none⟩ (.int .i64 a1)).setCell ⟨w4.heap.size, 2, none⟩ (.int .i64 a2)).setCell ⟨w4.heap.size, 3, none⟩ (.int .i64 a3)).setCell ⟨w4.heap.size, 4, none⟩ (.int .i64 a4)).setCell ⟨w4.heap.size, 5, none⟩ (.int .i64 a5)).setCell ⟨w4.heap.size, 6, none⟩ (.int .i64 a6)).setCell ⟨w4.heap.size, 7, none⟩ (.int .i64 a7)).setCell ⟨w4.heap.size, 8, none⟩ (.int .i64 a8)).setCell ⟨w4.heap.size, 9, none⟩ (.int .i64 a9)).setCell ⟨w4.heap.size, 10, none⟩ (.int .i64 a10)).setCell ⟨w4.heap.size, 11, none⟩ (.int .i64 a11)).setCell ⟨w4.heap.size, 12, none⟩ (.int .i64 a12)) w3.heap.size 34 [.int .i64 a0, .int .i64 a1, .int .i64 a2, .int .i64 a3, .int .i64 a4, .int .i64 a5, .int .i64 a6, .int .i64 a7, .int .i64 a8, .int .i64 a9, .int .i64 a10, .int .i64 a11, .int .i64 a12] := (Cells.far (Cells.far (Cells.far (Cells.far (Cells.far (Cells.far (Cells.far (Cells.far (Cells.far (Cells.far (Cells.far (Cells.far (Cells.far HC6.out HD.out) HD.out) HD.out) HD.out) HD.out) HD.out) HD.out) HD.out) HD.out) HD.out) HD.out) HD.out) HD.out)
      have hcB : Cells (((((((((((((w6.setCell ⟨w4.heap.size, 0, none⟩ (.int .i64 a0)).setCell ⟨w4.heap.size, 1, none⟩ (.int .i64 a1)).setCell ⟨w4.heap.size, 2, none⟩ (.int .i64 a2)).setCell ⟨w4.heap.size, 3, none⟩ (.int .i64 a3)).setCell ⟨w4.heap.size, 4, none⟩ (.int .i64 a4)).setCell ⟨w4.heap.size, 5, none⟩ (.int .i64 a5)).setCell ⟨w4.heap.size, 6, none⟩ (.int .i64 a6)).setCell ⟨w4.heap.size, 7, none⟩ (.int .i64 a7)).setCell ⟨w4.heap.size, 8, none⟩ (.int .i64 a8)).setCell ⟨w4.heap.size, 9, none⟩ (.int .i64 a9)).setCell ⟨w4.heap.size, 10, none⟩ (.int .i64 a10)).setCell ⟨w4.heap.size, 11, none⟩ (.int .i64 a11)).setCell ⟨w4.heap.size, 12, none⟩ (.int .i64 a12)) w4.heap.size 34 [.int .i64 a0, .int .i64 a1, .int .i64 a2, .int .i64 a3, .int .i64 a4, .int .i64 a5, .int .i64 a6, .int .i64 a7, .int .i64 a8, .int .i64 a9, .int .i64 a10, .int .i64 a11, .int .i64 a12] := (Cells.set (Cells.set (Cells.set (Cells.set (Cells.set (Cells.set (Cells.set (Cells.set (Cells.set (Cells.set (Cells.set (Cells.set (Cells.set HB.out.cells 0 (.int .i64 a0)) 1 (.int .i64 a1)) 2 (.int .i64 a2)) 3 (.int .i64 a3)) 4 (.int .i64 a4)) 5 (.int .i64 a5)) 6 (.int .i64 a6)) 7 (.int .i64 a7)) 8 (.int .i64 a8)) 9 (.int .i64 a9)) 10 (.int .i64 a10)) 11 (.int .i64 a11)) 12 (.int .i64 a12))
      have HLo : Hid (Below w.heap.size w (((((((((((((w6.setCell ⟨w4.heap.size, 0, none⟩ (.int .i64 a0)).setCell ⟨w4.heap.size, 1, none⟩ (.int .i64 a1)).setCell ⟨w4.heap.size, 2, none⟩ (.int .i64 a2)).setCell ⟨w4.heap.size, 3, none⟩ (.int .i64 a3)).setCell ⟨w4.heap.size, 4, none⟩ (.int .i64 a4)).setCell ⟨w4.heap.size, 5, none⟩ (.int .i64 a5)).setCell ⟨w4.heap.size, 6, none⟩ (.int .i64 a6)).setCell ⟨w4.heap.size, 7, none⟩ (.int .i64 a7)).setCell ⟨w4.heap.size, 8, none⟩ (.int .i64 a8)).setCell ⟨w4.heap.size, 9, none⟩ (.int .i64 a9)).setCell ⟨w4.heap.size, 10, none⟩ (.int .i64 a10)).setCell ⟨w4.heap.size, 11, none⟩ (.int .i64 a11)).setCell ⟨w4.heap.size, 12, none⟩ (.int .i64 a12))) := (RowKit.Below.setCell (RowKit.Below.setCell (RowKit.Below.setCell (RowKit.Below.setCell (RowKit.Below.setCell (RowKit.Below.setCell (RowKit.Below.setCell (RowKit.Below.setCell (RowKit.Below.setCell (RowKit.Below.setCell (RowKit.Below.setCell (RowKit.Below.setCell (RowKit.Below.setCell HL6.out hge (.int .i64 a0)) hge (.int .i64 a1)) hge (.int .i64 a2)) hge (.int .i64 a3)) hge (.int .i64 a4)) hge (.int .i64 a5)) hge (.int .i64 a6)) hge (.int .i64 a7)) hge (.int .i64 a8)) hge (.int .i64 a9)) hge (.int .i64 a10)) hge (.int .i64 a11)) hge (.int .i64 a12))
      obtain ⟨Wf, hWf⟩ : ∃ Wf, (((((((((((((w6.setCell ⟨w4.heap.size, 0, none⟩ (.int .i64 a0)).setCell ⟨w4.heap.size, 1, none⟩ (.int .i64 a1)).setCell ⟨w4.heap.size, 2, none⟩ (.int .i64 a2)).setCell ⟨w4.heap.size, 3, none⟩ (.int .i64 a3)).setCell ⟨w4.heap.size, 4, none⟩ (.int .i64 a4)).setCell ⟨w4.heap.size, 5, none⟩ (.int .i64 a5)).setCell ⟨w4.heap.size, 6, none⟩ (.int .i64 a6)).setCell ⟨w4.heap.size, 7, none⟩ (.int .i64 a7)).setCell ⟨w4.heap.size, 8, none⟩ (.int .i64 a8)).setCell ⟨w4.heap.size, 9, none⟩ (.int .i64 a9)).setCell ⟨w4.heap.size, 10, none⟩ (.int .i64 a10)).setCell ⟨w4.heap.size, 11, none⟩ (.int .i64 a11)).setCell ⟨w4.heap.size, 12, none⟩ (.int .i64 a12)) = Wf := ⟨_, rfl⟩
      rw [hWf] at hcA hcB HLo
      rw [hWf]
      clear hWf
      have g0 : Wf.cell? ⟨w3.heap.size, 0, none⟩ = some (.int .i64 a0) := by rw [Cells.cell hcA]; rfl
      have k0 : Wf.cell? ⟨w4.heap.size, 0, none⟩ = some (.int .i64 a0) := by rw [Cells.cell hcB]; rfl
      have g1 : Wf.cell? ⟨w3.heap.size, 1, none⟩ = some (.int .i64 a1) := by rw [Cells.cell hcA]; rfl
      have k1 : Wf.cell? ⟨w4.heap.size, 1, none⟩ = some (.int .i64 a1) := by rw [Cells.cell hcB]; rfl
      have g2 : Wf.cell? ⟨w3.heap.size, 2, none⟩ = some (.int .i64 a2) := by rw [Cells.cell hcA]; rfl
      have k2 : Wf.cell? ⟨w4.heap.size, 2, none⟩ = some (.int .i64 a2) := by rw [Cells.cell hcB]; rfl
      have g3 : Wf.cell? ⟨w3.heap.size, 3, none⟩ = some (.int .i64 a3) := by rw [Cells.cell hcA]; rfl
      have k3 : Wf.cell? ⟨w4.heap.size, 3, none⟩ = some (.int .i64 a3) := by rw [Cells.cell hcB]; rfl
      have g4 : Wf.cell? ⟨w3.heap.size, 4, none⟩ = some (.int .i64 a4) := by rw [Cells.cell hcA]; rfl
      have k4 : Wf.cell? ⟨w4.heap.size, 4, none⟩ = some (.int .i64 a4) := by rw [Cells.cell hcB]; rfl
      have g5 : Wf.cell? ⟨w3.heap.size, 5, none⟩ = some (.int .i64 a5) := by rw [Cells.cell hcA]; rfl
      have k5 : Wf.cell? ⟨w4.heap.size, 5, none⟩ = some (.int .i64 a5) := by rw [Cells.cell hcB]; rfl
      have g6 : Wf.cell? ⟨w3.heap.size, 6, none⟩ = some (.int .i64 a6) := by rw [Cells.cell hcA]; rfl
      have k6 : Wf.cell? ⟨w4.heap.size, 6, none⟩ = some (.int .i64 a6) := by rw [Cells.cell hcB]; rfl
      have g7 : Wf.cell? ⟨w3.heap.size, 7, none⟩ = some (.int .i64 a7) := by rw [Cells.cell hcA]; rfl
      have k7 : Wf.cell? ⟨w4.heap.size, 7, none⟩ = some (.int .i64 a7) := by rw [Cells.cell hcB]; rfl
      have g8 : Wf.cell? ⟨w3.heap.size, 8, none⟩ = some (.int .i64 a8) := by rw [Cells.cell hcA]; rfl
      have k8 : Wf.cell? ⟨w4.heap.size, 8, none⟩ = some (.int .i64 a8) := by rw [Cells.cell hcB]; rfl
      have g9 : Wf.cell? ⟨w3.heap.size, 9, none⟩ = some (.int .i64 a9) := by rw [Cells.cell hcA]; rfl
      have k9 : Wf.cell? ⟨w4.heap.size, 9, none⟩ = some (.int .i64 a9) := by rw [Cells.cell hcB]; rfl
      have g10 : Wf.cell? ⟨w3.heap.size, 10, none⟩ = some (.int .i64 a10) := by rw [Cells.cell hcA]; rfl
      have k10 : Wf.cell? ⟨w4.heap.size, 10, none⟩ = some (.int .i64 a10) := by rw [Cells.cell hcB]; rfl
      have g11 : Wf.cell? ⟨w3.heap.size, 11, none⟩ = some (.int .i64 a11) := by rw [Cells.cell hcA]; rfl
      have k11 : Wf.cell? ⟨w4.heap.size, 11, none⟩ = some (.int .i64 a11) := by rw [Cells.cell hcB]; rfl
      have g12 : Wf.cell? ⟨w3.heap.size, 12, none⟩ = some (.int .i64 a12) := by rw [Cells.cell hcA]; rfl
      have k12 : Wf.cell? ⟨w4.heap.size, 12, none⟩ = some (.int .i64 a12) := by rw [Cells.cell hcB]; rfl
      clear hcA hcB
      go_wp2_with fail
      go_ret
      exact ⟨by simp [z3, z4], HLo.out⟩)
    | (
      have hge : w.heap.size ≤ W3.heap.size := by have := HB.out.far; have := Hw3.out; omega
      have hcA : Cells (((((((((((((w6.setCell ⟨W3.heap.size, 0, none⟩ (.int .i64 a0)).setCell ⟨W3.heap.size, 1, none⟩ (.int .i64 a1)).setCell ⟨W3.heap.size, 2, none⟩ (.int .i64 a2)).setCell ⟨W3.heap.size, 3, none⟩ (.int .i64 a3)).setCell ⟨W3.heap.size, 4, none⟩ (.int .i64 a4)).setCell ⟨W3.heap.size, 5, none⟩ (.int .i64 a5)).setCell ⟨W3.heap.size, 6, none⟩ (.int .i64 a6)).setCell ⟨W3.heap.size, 7, none⟩ (.int .i64 a7)).setCell ⟨W3.heap.size, 8, none⟩ (.int .i64 a8)).setCell ⟨W3.heap.size, 9, none⟩ (.int .i64 a9)).setCell ⟨W3.heap.size, 10, none⟩ (.int .i64 a10)).setCell ⟨W3.heap.size, 11, none⟩ (.int .i64 a11)).setCell ⟨W3.heap.size, 12, none⟩ (.int .i64 a12)) w3.heap.size 34 [.int .i64 a0, .int .i64 a1, .int .i64 a2, .int .i64 a3, .int .i64 a4, .int .i64 a5, .int .i64 a6, .int .i64 a7, .int .i64 a8, .int .i64 a9, .int .i64 a10, .int .i64 a11, .int .i64 a12] := (Cells.far (Cells.far (Cells.far (Cells.far (Cells.far (Cells.far (Cells.far (Cells.far (Cells.far (Cells.far (Cells.far (Cells.far (Cells.far HC6.out HD.out) HD.out) HD.out) HD.out) HD.out) HD.out) HD.out) HD.out) HD.out) HD.out) HD.out) HD.out) HD.out)
      have hcB : Cells (((((((((((((w6.setCell ⟨W3.heap.size, 0, none⟩ (.int .i64 a0)).setCell ⟨W3.heap.size, 1, none⟩ (.int .i64 a1)).setCell ⟨W3.heap.size, 2, none⟩ (.int .i64 a2)).setCell ⟨W3.heap.size, 3, none⟩ (.int .i64 a3)).setCell ⟨W3.heap.size, 4, none⟩ (.int .i64 a4)).setCell ⟨W3.heap.size, 5, none⟩ (.int .i64 a5)).setCell ⟨W3.heap.size, 6, none⟩ (.int .i64 a6)).setCell ⟨W3.heap.size, 7, none⟩ (.int .i64 a7)).setCell ⟨W3.heap.size, 8, none⟩ (.int .i64 a8)).setCell ⟨W3.heap.size, 9, none⟩ (.int .i64 a9)).setCell ⟨W3.heap.size, 10, none⟩ (.int .i64 a10)).setCell ⟨W3.heap.size, 11, none⟩ (.int .i64 a11)).setCell ⟨W3.heap.size, 12, none⟩ (.int .i64 a12)) W3.heap.size 34 [.int .i64 a0, .int .i64 a1, .int .i64 a2, .int .i64 a3, .int .i64 a4, .int .i64 a5, .int .i64 a6, .int .i64 a7, .int .i64 a8, .int .i64 a9, .int .i64 a10, .int .i64 a11, .int .i64 a12] := (Cells.set (Cells.set (Cells.set (Cells.set (Cells.set (Cells.set (Cells.set (Cells.set (Cells.set (Cells.set (Cells.set (Cells.set (Cells.set HB.out.cells 0 (.int .i64 a0)) 1 (.int .i64 a1)) 2 (.int .i64 a2)) 3 (.int .i64 a3)) 4 (.int .i64 a4)) 5 (.int .i64 a5)) 6 (.int .i64 a6)) 7 (.int .i64 a7)) 8 (.int .i64 a8)) 9 (.int .i64 a9)) 10 (.int .i64 a10)) 11 (.int .i64 a11)) 12 (.int .i64 a12))
      have HLo : Hid (Below w.heap.size w (((((((((((((w6.setCell ⟨W3.heap.size, 0, none⟩ (.int .i64 a0)).setCell ⟨W3.heap.size, 1, none⟩ (.int .i64 a1)).setCell ⟨W3.heap.size, 2, none⟩ (.int .i64 a2)).setCell ⟨W3.heap.size, 3, none⟩ (.int .i64 a3)).setCell ⟨W3.heap.size, 4, none⟩ (.int .i64 a4)).setCell ⟨W3.heap.size, 5, none⟩ (.int .i64 a5)).setCell ⟨W3.heap.size, 6, none⟩ (.int .i64 a6)).setCell ⟨W3.heap.size, 7, none⟩ (.int .i64 a7)).setCell ⟨W3.heap.size, 8, none⟩ (.int .i64 a8)).setCell ⟨W3.heap.size, 9, none⟩ (.int .i64 a9)).setCell ⟨W3.heap.size, 10, none⟩ (.int .i64 a10)).setCell ⟨W3.heap.size, 11, none⟩ (.int .i64 a11)).setCell ⟨W3.heap.size, 12, none⟩ (.int .i64 a12))) := (RowKit.Below.setCell (RowKit.Below.setCell (RowKit.Below.setCell (RowKit.Below.setCell (RowKit.Below.setCell (RowKit.Below.setCell (RowKit.Below.setCell (RowKit.Below.setCell (RowKit.Below.setCell (RowKit.Below.setCell (RowKit.Below.setCell (RowKit.Below.setCell (RowKit.Below.setCell HL6.out hge (.int .i64 a0)) hge (.int .i64 a1)) hge (.int .i64 a2)) hge (.int .i64 a3)) hge (.int .i64 a4)) hge (.int .i64 a5)) hge (.int .i64 a6)) hge (.int .i64 a7)) hge (.int .i64 a8)) hge (.int .i64 a9)) hge (.int .i64 a10)) hge (.int .i64 a11)) hge (.int .i64 a12))
      obtain ⟨Wf, hWf⟩ : ∃ Wf, (((((((((((((w6.setCell ⟨W3.heap.size, 0, none⟩ (.int .i64 a0)).setCell ⟨W3.heap.size, 1, none⟩ (.int .i64 a1)).setCell ⟨W3.heap.size, 2, none⟩ (.int .i64 a2)).setCell ⟨W3.heap.size, 3, none⟩ (.int .i64 a3)).setCell ⟨W3.heap.size, 4, none⟩ (.int .i64 a4)).setCell ⟨W3.heap.size, 5, none⟩ (.int .i64 a5)).setCell ⟨W3.heap.size, 6, none⟩ (.int .i64 a6)).setCell ⟨W3.heap.size, 7, none⟩ (.int .i64 a7)).setCell ⟨W3.heap.size, 8, none⟩ (.int .i64 a8)).setCell ⟨W3.heap.size, 9, none⟩ (.int .i64 a9)).setCell ⟨W3.heap.size, 10, none⟩ (.int .i64 a10)).setCell ⟨W3.heap.size, 11, none⟩ (.int .i64 a11)).setCell ⟨W3.heap.size, 12, none⟩ (.int .i64 a12)) = Wf := ⟨_, rfl⟩
      rw [hWf] at hcA hcB HLo
      rw [hWf]
      clear hWf
      have g0 : Wf.cell? ⟨w3.heap.size, 0, none⟩ = some (.int .i64 a0) := by rw [Cells.cell hcA]; rfl
      have k0 : Wf.cell? ⟨W3.heap.size, 0, none⟩ = some (.int .i64 a0) := by rw [Cells.cell hcB]; rfl
      have g1 : Wf.cell? ⟨w3.heap.size, 1, none⟩ = some (.int .i64 a1) := by rw [Cells.cell hcA]; rfl
      have k1 : Wf.cell? ⟨W3.heap.size, 1, none⟩ = some (.int .i64 a1) := by rw [Cells.cell hcB]; rfl
      have g2 : Wf.cell? ⟨w3.heap.size, 2, none⟩ = some (.int .i64 a2) := by rw [Cells.cell hcA]; rfl
      have k2 : Wf.cell? ⟨W3.heap.size, 2, none⟩ = some (.int .i64 a2) := by rw [Cells.cell hcB]; rfl
      have g3 : Wf.cell? ⟨w3.heap.size, 3, none⟩ = some (.int .i64 a3) := by rw [Cells.cell hcA]; rfl
      have k3 : Wf.cell? ⟨W3.heap.size, 3, none⟩ = some (.int .i64 a3) := by rw [Cells.cell hcB]; rfl
      have g4 : Wf.cell? ⟨w3.heap.size, 4, none⟩ = some (.int .i64 a4) := by rw [Cells.cell hcA]; rfl
      have k4 : Wf.cell? ⟨W3.heap.size, 4, none⟩ = some (.int .i64 a4) := by rw [Cells.cell hcB]; rfl
      have g5 : Wf.cell? ⟨w3.heap.size, 5, none⟩ = some (.int .i64 a5) := by rw [Cells.cell hcA]; rfl
      have k5 : Wf.cell? ⟨W3.heap.size, 5, none⟩ = some (.int .i64 a5) := by rw [Cells.cell hcB]; rfl
      have g6 : Wf.cell? ⟨w3.heap.size, 6, none⟩ = some (.int .i64 a6) := by rw [Cells.cell hcA]; rfl
      have k6 : Wf.cell? ⟨W3.heap.size, 6, none⟩ = some (.int .i64 a6) := by rw [Cells.cell hcB]; rfl
      have g7 : Wf.cell? ⟨w3.heap.size, 7, none⟩ = some (.int .i64 a7) := by rw [Cells.cell hcA]; rfl
      have k7 : Wf.cell? ⟨W3.heap.size, 7, none⟩ = some (.int .i64 a7) := by rw [Cells.cell hcB]; rfl
      have g8 : Wf.cell? ⟨w3.heap.size, 8, none⟩ = some (.int .i64 a8) := by rw [Cells.cell hcA]; rfl
      have k8 : Wf.cell? ⟨W3.heap.size, 8, none⟩ = some (.int .i64 a8) := by rw [Cells.cell hcB]; rfl
      have g9 : Wf.cell? ⟨w3.heap.size, 9, none⟩ = some (.int .i64 a9) := by rw [Cells.cell hcA]; rfl
      have k9 : Wf.cell? ⟨W3.heap.size, 9, none⟩ = some (.int .i64 a9) := by rw [Cells.cell hcB]; rfl
      have g10 : Wf.cell? ⟨w3.heap.size, 10, none⟩ = some (.int .i64 a10) := by rw [Cells.cell hcA]; rfl
      have k10 : Wf.cell? ⟨W3.heap.size, 10, none⟩ = some (.int .i64 a10) := by rw [Cells.cell hcB]; rfl
      have g11 : Wf.cell? ⟨w3.heap.size, 11, none⟩ = some (.int .i64 a11) := by rw [Cells.cell hcA]; rfl
      have k11 : Wf.cell? ⟨W3.heap.size, 11, none⟩ = some (.int .i64 a11) := by rw [Cells.cell hcB]; rfl
      have g12 : Wf.cell? ⟨w3.heap.size, 12, none⟩ = some (.int .i64 a12) := by rw [Cells.cell hcA]; rfl
      have k12 : Wf.cell? ⟨W3.heap.size, 12, none⟩ = some (.int .i64 a12) := by rw [Cells.cell hcB]; rfl
      clear hcA hcB
      go_wp2_with fail
      go_ret
      exact ⟨by simp [z3, z4], HLo.out⟩)

end Go.Proofs.YtcfmagmhnemhaaaDoor
