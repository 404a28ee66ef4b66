/-
  The hash of a leaf, the hash of a parent.
-/
import Derived.Test.YtmcjincgppddeaaDoorEB
import Derived.Deep.RegionHeld3
import Derived.Deep.DrawnRows
namespace Go.Proofs.YtmcjincgppddeaaDoor
open Go.RowKit
set_option linter.unusedSimpArgs false
set_option linter.unusedVariables false
attribute [local go_sem ↓] Go.wp_at_zero Go.wp_at_succ

/-- A block that is not the store's reads as it did. -/
theorem Run.cell {s : Nat} {w w' : World} {ns ns' : List Nd} {dr : Int} {c : Nat} (h : Run s w w' ns ns' dr c) {b : Nat} (hb : b < w.heap.size) (hn : ¬ Own w s b) (o : Nat) : w'.cell? ⟨b, o, none⟩ = w.cell? ⟨b, o, none⟩ := h.mv.cell hb hn o

theorem lLeaf_eq : (⟨#[108, 101, 97, 102]⟩ : ByteArray) = lLeaf := rfl

set_option maxRecDepth 100000 in
set_option maxHeartbeats 4000000 in
theorem leafHash_no {w : World} {s : Nat} {ns : List Nd} {dr : Int} (h : Seat w s ns dr) {g : Int → Tm} (i : Int) (hi : 0 ≤ i ∧ i < 64) (key client sig hash : Int) (late : List Int) (a : Option Addr) (n c : Nat) (hr : (ns.length : Int) + 12 < 262144) :
    Calls Tryd.prog 71 #[.pointer (some ⟨s, 0, none⟩), .int .i64 i, .agg #[.bool false, .int .i64 key, .int .i64 client, .int .i64 sig, .int .i64 hash, .slice a n c]] w fun e w' => ∃ t ns', e = .returned (.int .i64 t) ∧ Run s w w' ns ns' dr 12 ∧ Means ns' t (leafT g i ⟨false, key, client, sig, hash, late⟩) := by
  have hs := h.st.lt
  have hT : leafT g i ⟨false, key, client, sig, hash, late⟩ = .hash lLeaf (listT [numT i]) := by simp [leafT]
  rw [hT]
  clear hT
  have hnm := number_m (h.al (.cells #[.bool false, .int .i64 key, .int .i64 client, .int .i64 sig, .int .i64 hash, .slice a n c] 47)) i (by omega) (by omega) (by omega)
  have hR0 := Run.ofBelow h ((Below.refl _ _).alloc (Nat.le_refl _) (.cells #[.bool false, .int .i64 key, .int .i64 client, .int .i64 sig, .int .i64 hash, .slice a n c] 47))
  have hfr := free_new h.st (.cells #[.bool false, .int .i64 key, .int .i64 client, .int .i64 sig, .int .i64 hash, .slice a n c] 47)
  have c0 : (w.alloc (.cells #[.bool false, .int .i64 key, .int .i64 client, .int .i64 sig, .int .i64 hash, .slice a n c] 47)).cell? ⟨w.heap.size, 0, none⟩ = some (.bool false) := by go_simp
  go_enter Tryd.func71, Tryd.ntmps71
  go_wp2_with fail
  refine hnm.mono ?_
  rintro e w1 ⟨t1, ns1, rfl, r1, m1⟩
  have hR := hR0.trans r1
  have d0 := (r1.cell (by simp) hfr 0).trans c0
  have hbl : w.heap.size < w1.heap.size := Nat.lt_of_lt_of_le (by simp) r1.mv.size
  have hst := r1.st.len
  have hln := list_new r1.seat [t1] (.cons m1 .nil) (by simp; omega)
  clear c0 hR0 hfr
  go_wp2_with fail
  refine hln.mono ?_
  rintro e w2 ⟨t2, ns2, rfl, r2, m2⟩
  have hst2 := r2.st.len
  have hR2 := hR.trans r2
  have hhm := hash_m r2.seat lLeaf (by decide) (by simp at hst2; omega) m2
  go_wp2_with fail
  refine hhm.mono ?_
  rintro e w3 ⟨t3, ns3, rfl, r3, m3⟩
  go_wp2_with fail
  go_ret
  exact ⟨t3, ns3, rfl, (hR2.trans r3).mono (by simp), m3⟩

set_option maxRecDepth 100000 in
set_option maxHeartbeats 8000000 in
theorem leafHash_yes {w : World} {s : Nat} {ns : List Nd} {dr : Int} (h : Seat w s ns dr) {g : Int → Tm} (i : Int) (hi : 0 ≤ i ∧ i < 64) (key client sig hash : Int) (late : List Int) (a : Option Addr) (n c : Nat)
    (hk : Has ns g key) (hsg : Has ns g sig) (hh : Has ns g hash) (hc0 : -9223372036854775808 ≤ client) (hc1 : client ≤ 9223372036854775807) (hr : (ns.length : Int) + 12 < 262144) :
    Calls Tryd.prog 71 #[.pointer (some ⟨s, 0, none⟩), .int .i64 i, .agg #[.bool true, .int .i64 key, .int .i64 client, .int .i64 sig, .int .i64 hash, .slice a n c]] w fun e w' => ∃ t ns', e = .returned (.int .i64 t) ∧ Run s w w' ns ns' dr 12 ∧ Means ns' t (leafT g i ⟨true, key, client, sig, hash, late⟩) := by
  have hs := h.st.lt
  have h2 : 2 < w.heap.size := h.tab.size
  have hT : leafT g i ⟨true, key, client, sig, hash, late⟩ = .hash lLeaf (listT [numT i, numT client, noneT g key, noneT g sig, noneT g hash]) := by simp [leafT]
  rw [hT]
  clear hT
  have hnm := number_m (h.al (.cells #[.bool true, .int .i64 key, .int .i64 client, .int .i64 sig, .int .i64 hash, .slice a n c] 47)) i (by omega) (by omega) (by omega)
  have hR0 := Run.ofBelow h ((Below.refl _ _).alloc (Nat.le_refl _) (.cells #[.bool true, .int .i64 key, .int .i64 client, .int .i64 sig, .int .i64 hash, .slice a n c] 47))
  have hfr := free_new h.st (.cells #[.bool true, .int .i64 key, .int .i64 client, .int .i64 sig, .int .i64 hash, .slice a n c] 47)
  have c0 : (w.alloc (.cells #[.bool true, .int .i64 key, .int .i64 client, .int .i64 sig, .int .i64 hash, .slice a n c] 47)).cell? ⟨w.heap.size, 0, none⟩ = some (.bool true) := by go_simp
  have c1 : (w.alloc (.cells #[.bool true, .int .i64 key, .int .i64 client, .int .i64 sig, .int .i64 hash, .slice a n c] 47)).cell? ⟨w.heap.size, 1, none⟩ = some (.int .i64 key) := by go_simp
  have c2 : (w.alloc (.cells #[.bool true, .int .i64 key, .int .i64 client, .int .i64 sig, .int .i64 hash, .slice a n c] 47)).cell? ⟨w.heap.size, 2, none⟩ = some (.int .i64 client) := by go_simp
  have c3 : (w.alloc (.cells #[.bool true, .int .i64 key, .int .i64 client, .int .i64 sig, .int .i64 hash, .slice a n c] 47)).cell? ⟨w.heap.size, 3, none⟩ = some (.int .i64 sig) := by go_simp
  have c4 : (w.alloc (.cells #[.bool true, .int .i64 key, .int .i64 client, .int .i64 sig, .int .i64 hash, .slice a n c] 47)).cell? ⟨w.heap.size, 4, none⟩ = some (.int .i64 hash) := by go_simp
  go_enter Tryd.func71, Tryd.ntmps71
  go_wp2_with fail
  refine hnm.mono ?_
  rintro e w1 ⟨t1, ns1, rfl, r1, m1⟩
  have hR1 := hR0.trans r1
  have d0 := (r1.cell (by simp) hfr 0).trans c0
  have d1 := (r1.cell (by simp) hfr 1).trans c1
  have d2 := (r1.cell (by simp) hfr 2).trans c2
  have d3 := (r1.cell (by simp) hfr 3).trans c3
  have d4 := (r1.cell (by simp) hfr 4).trans c4
  have hbl : w.heap.size < w1.heap.size := Nat.lt_of_lt_of_le (by simp) r1.mv.size
  have hf1 := r1.mv.free (by simp) hfr
  clear c0 c1 c2 c3 c4 hR0 hfr
  -- the slice of one
  have hown : Own2 w.heap.size (w1.alloc (.cells #[.int .i64 t1] 3)) s (.slice (some ⟨w1.heap.size, 0, none⟩) 1 1) 1 [.int .i64 t1] := by
    refine ⟨⟨rfl, .inr ⟨w1.heap.size, 1, _, rfl, by omega, heap_alloc_new w1 _, Nat.le_refl _, by unfold maxLen; omega, rfl, by simp⟩⟩, fun g hg => ?_⟩
    simp [Value.ownBlock] at hg
    subst hg
    exact free_new r1.seat.st _
  have hM : Mean2 ns1 [t1] [numT i] := .cons m1 .nil
  obtain ⟨W, hW⟩ : ∃ W, w1.alloc (.cells #[.int .i64 t1] 3) = W := ⟨_, rfl⟩
  have hbW : Below w1.heap.size w1 W.drew := by rw [← hW]; exact ((Below.refl w1.heap.size w1).alloc (Nat.le_refl _) _).drew
  have hR := hR1.after hbW
  have hbW0 : Below w1.heap.size w1 W := by rw [← hW]; exact ((Below.refl w1.heap.size w1).alloc (Nat.le_refl _) _)
  have e0 := (hbW0.cell (p := ⟨w.heap.size, 0, none⟩) hbl).trans d0
  have e1 := (hbW.cell (p := ⟨w.heap.size, 1, none⟩) hbl).trans d1
  have e2 := (hbW.cell (p := ⟨w.heap.size, 2, none⟩) hbl).trans d2
  have e3 := (hbW.cell (p := ⟨w.heap.size, 3, none⟩) hbl).trans d3
  have e4 := (hbW.cell (p := ⟨w.heap.size, 4, none⟩) hbl).trans d4
  have hB : w.heap.size < W.drew.heap.size ∧ ¬ Own W.drew s w.heap.size := by
    refine ⟨by have := hbW.size; omega, fun ho => hf1 ?_⟩
    exact (own_below1 r1.seat.st.lt hbW _).1 ho
  have HO : Hid (Own2 w.heap.size W.drew s (.slice (some ⟨w1.heap.size, 0, none⟩) 1 1) 1 [.int .i64 t1]) := by
    rw [hW] at hown
    exact hown.moved (.ofBelow (by rw [← hW]; simp; exact Nat.lt_succ_of_lt r1.seat.st.lt) ((Below.refl _ W).drew))
  clear hf1 m1 hown d1 d2 d3 d4 hbW hbW0 hnm hR1
  obtain ⟨i0, hi0, hz0, hz1, hz2⟩ := info_parts Tryd.infoI
  have hbe : some w.heap.size ≠ (Value.slice (some ⟨w1.heap.size, 0, none⟩) 1 1).ownBlock := by simp [Value.ownBlock]; omega
  have Hbl : Hid (w.heap.size < w1.heap.size) := hbl
  clear hbl
  go_wp2_with (rw [hW])
  go_region_held3 (fun w' => w'.cell? ⟨w.heap.size, 1, none⟩ = some (.int .i64 key) ∧ w'.cell? ⟨w.heap.size, 2, none⟩ = some (.int .i64 client) ∧ w'.cell? ⟨w.heap.size, 3, none⟩ = some (.int .i64 sig) ∧ w'.cell? ⟨w.heap.size, 4, none⟩ = some (.int .i64 hash))
    (first | exact ⟨e1, e2, e3, e4⟩ | exact ⟨cell_al _ e1, cell_al _ e2, cell_al _ e3, cell_al _ e4⟩)
    (first
      | (go_at_call 16; refine (number_m hR.seat client hc0 hc1 ?_).mono ?_; (have := hR.st.len; omega); rintro e w2 ⟨t2, ns2, rfl, r2, m2⟩; have z := fun o => r2.cell hB.1 hB.2 o; replace e1 := (z 1).trans e1; replace e2 := (z 2).trans e2; replace e3 := (z 3).trans e3; replace e4 := (z 4).trans e4; replace HO := Own2.moved HO.out r2.mv; replace hM := (hM.keeps r2.st.pre).append (.cons m2 .nil); replace hR := hR.trans r2; replace hB := And.intro (Nat.lt_of_lt_of_le hB.1 r2.mv.size) (r2.mv.free hB.1 hB.2))
      | (go_at_call_of 92 key; refine (orNone_m hR.seat key (hk.keeps hR.st.pre) ?_).mono ?_; (have := hR.st.len; omega); rintro e w3 ⟨t3, ns3, rfl, r3, m3⟩; have z := fun o => r3.cell hB.1 hB.2 o; replace e1 := (z 1).trans e1; replace e2 := (z 2).trans e2; replace e3 := (z 3).trans e3; replace e4 := (z 4).trans e4; replace HO := Own2.moved HO r3.mv; replace hM := (hM.keeps r3.st.pre).append (.cons m3 .nil); replace hR := hR.trans r3; replace hB := And.intro (Nat.lt_of_lt_of_le hB.1 r3.mv.size) (r3.mv.free hB.1 hB.2))
      | (go_at_call_of 92 sig; refine (orNone_m hR.seat sig (hsg.keeps hR.st.pre) ?_).mono ?_; (have := hR.st.len; omega); rintro e w4 ⟨t4, ns4, rfl, r4, m4⟩; have z := fun o => r4.cell hB.1 hB.2 o; replace e1 := (z 1).trans e1; replace e2 := (z 2).trans e2; replace e3 := (z 3).trans e3; replace e4 := (z 4).trans e4; replace HO := Own2.moved HO r4.mv; replace hM := (hM.keeps r4.st.pre).append (.cons m4 .nil); replace hR := hR.trans r4; replace hB := And.intro (Nat.lt_of_lt_of_le hB.1 r4.mv.size) (r4.mv.free hB.1 hB.2))
      | (go_at_call_of 92 hash; refine (orNone_m hR.seat hash (hh.keeps hR.st.pre) ?_).mono ?_; (have := hR.st.len; omega); rintro e w5 ⟨t5, ns5, rfl, r5, m5⟩; have z := fun o => r5.cell hB.1 hB.2 o; replace e1 := (z 1).trans e1; replace e2 := (z 2).trans e2; replace e3 := (z 3).trans e3; replace e4 := (z 4).trans e4; replace HO := Own2.moved HO r5.mv; replace hM := (hM.keeps r5.st.pre).append (.cons m5 .nil); replace hR := hR.trans r5; replace hB := And.intro (Nat.lt_of_lt_of_le hB.1 r5.mv.size) (r5.mv.free hB.1 hB.2))
      | (refine step_append_from (by rfl) (.tmp 14) (.tmp 31) 30 (by rfl) w.heap.size 3 i0 (.int .i64 0) 1 8 Tryd.underlying30 hi0 hz0 hz1 hz2 (by rfl) Nat.one_pos (.slice (some ⟨w1.heap.size, 0, none⟩) 1 1) 1 [.int .i64 t1] (by rfl) (HO.own.alloc _) ⟨w5.heap.size, 0, none⟩ 4 4 [.int .i64 t2, .int .i64 t3, .int .i64 t4, .int .i64 t5] (by rfl) (by rfl) (ints_at_new w5 [t2, t3, t4, t5]) (ints_one [t2, t3, t4, t5]) (by decide) (by decide) (Nat.le_trans (Nat.le_of_lt hB.1) (by simp)) ?_; intro v6 w6 ho6 hg6 hn6 hl6; have hRA := hR.after ((Below.refl w5.heap.size w5).alloc (Nat.le_refl _) (.cells #[.int .i64 t2, .int .i64 t3, .int .i64 t4, .int .i64 t5] 3)); have hOA := HO.moved (.ofBelow hR.seat.st.lt ((Below.refl w5.heap.size w5).alloc (Nat.le_refl _) (.cells #[.int .i64 t2, .int .i64 t3, .int .i64 t4, .int .i64 t5] 3))); obtain ⟨hR6, hO6⟩ := hRA.appended h2 hOA hg6 ho6 hl6; replace e1 := hg6.cell (a := ⟨w.heap.size, 1, none⟩) (cell_al _ e1) hbe; replace e2 := hg6.cell (a := ⟨w.heap.size, 2, none⟩) (cell_al _ e2) hbe; replace e3 := hg6.cell (a := ⟨w.heap.size, 3, none⟩) (cell_al _ e3) hbe; replace e4 := hg6.cell (a := ⟨w.heap.size, 4, none⟩) (cell_al _ e4) hbe))
  have hst6 := hR6.st.len
  have hlo := list_own (l := [t1, t2, t3, t4, t5]) hR6.seat hO6 hM (by simp; omega)
  clear e1 e2 e3 e4 hO6 hRA hOA ho6 hg6 hl6
  go_wp2_with fail
  refine hlo.mono ?_
  rintro e w7 ⟨t7, ns7, rfl, r7, m7⟩
  have hst7 := r7.st.len
  have hR7 := hR6.trans r7
  have hhm := hash_m r7.seat lLeaf (by decide) (by simp at hst7; omega) m7
  go_wp2_with fail
  refine hhm.mono ?_
  rintro e w8 ⟨t8, ns8, rfl, r8, m8⟩
  go_wp2_with fail
  go_ret
  exact ⟨t8, ns8, rfl, (hR7.trans r8).mono (by simp), m8⟩

end Go.Proofs.YtmcjincgppddeaaDoor
