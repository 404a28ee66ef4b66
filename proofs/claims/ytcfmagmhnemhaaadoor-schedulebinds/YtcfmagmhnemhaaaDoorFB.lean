/-
  The document's store: Make and the makers.
-/
import Derived.Test.YtcfmagmhnemhaaaDoorFA
import Derived.Deep.RegionLaw
namespace Go.Proofs.YtcfmagmhnemhaaaDoor
open Go.RowKit
set_option linter.unusedSimpArgs false
set_option linter.unusedVariables false

theorem on {w w1 w2 : World} (a : Below w.heap.size w w1) (b : Below w1.heap.size w1 w2) : Below w.heap.size w w2 := a.trans (b.mono a.size)

/-- What a call on the document's store does. -/
structure RunR (r : Nat) (w w' : World) (ns ns' : List Nd) (dr : Int) (c : Nat) : Prop where
  st : RefAt w' r ns' dr
  mv : MovedR r w w'
  stp : Stp ns ns' c

theorem RunR.refl {w : World} {r : Nat} {ns : List Nd} {dr : Int} (h : RefAt w r ns dr) (hw : Wf ns) : RunR r w w ns ns dr 0 := ⟨h, .refl _ _, .refl hw⟩

theorem RunR.trans {r : Nat} {a b c : World} {x y z : List Nd} {dr : Int} {m n : Nat} (h : RunR r a b x y dr m) (k : RunR r b c y z dr n) : RunR r a c x z dr (m + n) := ⟨k.st, h.mv.trans k.mv, h.stp.trans k.stp⟩

theorem RunR.mono {r : Nat} {a b : World} {x y : List Nd} {dr : Int} {m n : Nat} (h : RunR r a b x y dr m) (hmn : m ≤ n) : RunR r a b x y dr n := ⟨h.st, h.mv, h.stp.mono hmn⟩

theorem RunR.ofBelow {w w' : World} {r : Nat} {ns : List Nd} {dr : Int} (h : RefAt w r ns dr) (hw : Wf ns) (hb : Below w.heap.size w w') : RunR r w w' ns ns dr 0 := ⟨h.below hb, .ofBelow h hb, .refl hw⟩

theorem RunR.ahead {w w1 w' : World} {r : Nat} {ns ns' : List Nd} {dr : Int} {c : Nat} (h : RefAt w r ns dr) (hw : Wf ns) (hb : Below w.heap.size w w1) (k : RunR r w1 w' ns ns' dr c) : RunR r w w' ns ns' dr c := ((RunR.ofBelow h hw hb).trans k).mono (by omega)

/-- Behind the append of a node to the store's row. -/
theorem rgrown {w w3 W w' : World} {r c : Nat} {sl : Option Addr} {ns : List Nd} {dr : Int} {n : Nd} {v' : Value} (hst : RefAt w r ns dr) (hb : Below w.heap.size w w3)
    (h0 : w3.heap[r]? = some (.cells #[.slice sl ns.length c, .int .i64 dr] 61)) (hr : RowAt w3 sl c ns) (hW : Below w3.heap.size w3 W)
    (hown : w'.ownsRow 0 71 4 v' (ns.length + 1) (flat ns ++ n.cells)) (hg : W.grownBy w' (Value.slice sl ns.length c).ownBlock) (hl : v'.ownBlock = (Value.slice sl ns.length c).ownBlock ∨ v'.ownBlock = some W.heap.size) (hn : (ns.length : Int) < 262144) :
    w'.heap[r]? = some (.cells #[.slice sl ns.length c, .int .i64 dr] 61) ∧ RefAt (w'.setCell ⟨r, 0, none⟩ v') r (ns ++ [n]) dr ∧ MovedR r w (w'.setCell ⟨r, 0, none⟩ v') ∧ ∃ g cap, v' = .slice (some ⟨g, 0, none⟩) (ns.length + 1) cap := by
  have hrs : some r ≠ (Value.slice sl ns.length c).ownBlock := by
    rcases hr.form with ⟨rfl, _⟩ | ⟨nb, rfl, _, _, cur, hh⟩
    · simp [Value.ownBlock]
    · simp [Value.ownBlock]; rintro rfl; rw [h0] at hh; simp at hh
  have lr := (Array.getElem?_eq_some_iff.1 h0).1
  have q0 : w'.heap[r]? = some (.cells #[.slice sl ns.length c, .int .i64 dr] 61) := ((hg.block r (Nat.lt_of_lt_of_le lr hW.size) hrs).trans (hW.block r lr)).trans h0
  obtain ⟨g, cap, rfl⟩ : ∃ g cap, v' = .slice (some ⟨g, 0, none⟩) (ns.length + 1) cap := by
    rcases hown.2 with ⟨_, h⟩ | ⟨g, cap, cur, hv, _⟩
    · omega
    · exact ⟨g, cap, hv⟩
  have hgr : g ≠ r := by
    rcases hown.2 with ⟨_, h⟩ | ⟨g', cap', cur, hv, _, hh, _⟩
    · omega
    · cases hv
      rintro rfl; rw [q0] at hh; simp at hh
  have hsz : w.heap.size ≤ W.heap.size := Nat.le_trans hb.size hW.size
  have e0 : (w'.setCell ⟨r, 0, none⟩ (.slice (some ⟨g, 0, none⟩) (ns.length + 1) cap)).heap[r]? = some (.cells #[.slice (some ⟨g, 0, none⟩) (ns.length + 1) cap, .int .i64 dr] 61) := by
    rw [heap_setCell_at q0]; simp
  have hcell : w.cell? ⟨r, 0, none⟩ = some (.slice sl ns.length c) := by
    have hbk := hb.block r hst.lt
    rw [World.cell?_of_block (w := w3) (a := ⟨r, 0, none⟩) hbk.symm, cell_of_heap h0]; rfl
  refine ⟨q0, ⟨some ⟨g, 0, none⟩, cap, by simpa using e0, ?_, by simp; omega⟩, ⟨hg.os.trans (hW.os.trans hb.os), hg.tape.trans (hW.tape.trans hb.tape), hg.output.trans (hW.output.trans hb.output), by simpa [World.setCell] using Nat.le_trans hsz hg.size, fun k hk hno => ?_, fun k hk => ?_⟩, g, cap, rfl⟩
  · refine ⟨flat_length _, Or.inr ?_⟩
    rcases hown.2 with ⟨h, _⟩ | ⟨g', cap', cur, hv, hbb, hh, rest⟩
    · simp at h
    · cases hv
      refine ⟨g, cap, cur, by simp, hbb, ?_, ?_⟩
      · rw [Below.heap_setCell _ _ _ _ hgr]
        exact hh
      · simpa [flat_append, flat] using rest
  · rw [Below.heap_setCell _ _ _ _ (fun e => hno (Or.inl e))]
    rw [hg.block k (Nat.lt_of_lt_of_le hk hsz) (fun e => hno ?_), hW.block k (Nat.lt_of_lt_of_le hk hb.size), hb.block k hk]
    refine Or.inr ?_
    rcases hr.form with ⟨rfl, _⟩ | ⟨nb, rfl, _⟩
    · simp [Value.ownBlock] at e
    · simp [Value.ownBlock] at e
      subst e
      exact ⟨0, none, _, _, hcell⟩
  · rcases hk with e | ⟨o, sp, m, c', e⟩
    · exact Or.inl (Or.inl e)
    · rw [cell_of_heap e0] at e
      simp at e
      obtain ⟨⟨rfl, -, -⟩, -, -⟩ := e
      rcases hl with hl | hl
      · refine Or.inl (Or.inr ?_)
        rcases hr.form with ⟨rfl, _⟩ | ⟨nb, rfl, _⟩
        · simp [Value.ownBlock] at hl
        · simp [Value.ownBlock] at hl
          subst hl
          exact ⟨0, none, _, _, hcell⟩
      · simp [Value.ownBlock] at hl
        exact Or.inr (by omega)

set_option maxRecDepth 100000 in
set_option maxHeartbeats 1000000 in
theorem rmake_old {w : World} {r : Nat} {ns : List Nd} {dr : Int} (h : RefAt w r ns dr) (hw : Wf ns) (n : Nd) (hf : ∀ W, RefAt W r ns dr → Calls Tryd.prog 57 #[.pointer (some ⟨r, 0, none⟩), .agg #[.int .i64 n.kind, .string n.label, .int .i64 n.a, .int .i64 n.b]] W fun e w' => e = .returned (.bool true) ∧ Below W.heap.size W w') (j : Nat) (hj : findN n ns 0 = some j) :
    Calls Tryd.prog 53 #[.pointer (some ⟨r, 0, none⟩), .agg #[.int .i64 n.kind, .string n.label, .int .i64 n.a, .int .i64 n.b]] w fun e w' => e = .returned (.tuple #[.int .i64 (j + 1 : Nat), .int .i64 0]) ∧ Below w.heap.size w w' := by
  have hb : Below w.heap.size w (w.alloc (.cells #[.int .i64 n.kind, .string n.label, .int .i64 n.a, .int .i64 n.b] 71)) := (Below.refl _ _).alloc (Nat.le_refl _) _
  have b0 : (w.alloc (.cells #[.int .i64 n.kind, .string n.label, .int .i64 n.a, .int .i64 n.b] 71)).cell? ⟨w.heap.size, 0, none⟩ = some (.int .i64 n.kind) := by go_simp
  have b1 : (w.alloc (.cells #[.int .i64 n.kind, .string n.label, .int .i64 n.a, .int .i64 n.b] 71)).cell? ⟨w.heap.size, 1, none⟩ = some (.string n.label) := by go_simp
  have b2 : (w.alloc (.cells #[.int .i64 n.kind, .string n.label, .int .i64 n.a, .int .i64 n.b] 71)).cell? ⟨w.heap.size, 2, none⟩ = some (.int .i64 n.a) := by go_simp
  have b3 : (w.alloc (.cells #[.int .i64 n.kind, .string n.label, .int .i64 n.a, .int .i64 n.b] 71)).cell? ⟨w.heap.size, 3, none⟩ = some (.int .i64 n.b) := by go_simp
  have hbl : w.heap.size < (w.alloc (.cells #[.int .i64 n.kind, .string n.label, .int .i64 n.a, .int .i64 n.b] 71)).heap.size := by simp
  obtain ⟨W, hW⟩ : ∃ W, w.alloc (.cells #[.int .i64 n.kind, .string n.label, .int .i64 n.a, .int .i64 n.b] 71) = W := ⟨_, rfl⟩
  rw [hW] at hb b0 b1 b2 b3 hbl
  have hr := h.below hb
  have hnum : numOf ns n = ((j + 1 : Nat) : Int) := by simp [numOf, hj]
  have hfd := fun w1 (h1 : RefAt w1 r ns dr) => find_m h1 hw n
  rw [hnum] at hfd
  have i1 : (0 : Int) < ((j + 1 : Nat) : Int) := by omega
  clear hj hnum hw
  go_enter Tryd.func53, Tryd.ntmps53
  go_wp2_with (rw [hW])
  refine (hf _ hr).mono ?_
  rintro e w1 ⟨rfl, hb2⟩
  have hr1 := hr.below hb2
  have d0 := (hb2.cell (p := ⟨w.heap.size, 0, none⟩) hbl).trans b0
  have d1 := (hb2.cell (p := ⟨w.heap.size, 1, none⟩) hbl).trans b1
  have d2 := (hb2.cell (p := ⟨w.heap.size, 2, none⟩) hbl).trans b2
  have d3 := (hb2.cell (p := ⟨w.heap.size, 3, none⟩) hbl).trans b3
  go_wp2_with fail
  refine (hfd _ hr1).mono ?_
  rintro e w2 ⟨rfl, hb3⟩
  go_wp2_with fail
  go_ret2
  exact ⟨rfl, on hb (on hb2 hb3)⟩

set_option maxRecDepth 100000 in
set_option maxHeartbeats 1000000 in
theorem rmake_new {w : World} {r : Nat} {ns : List Nd} {dr : Int} (h : RefAt w r ns dr) (hw : Wf ns) (n : Nd) (hf : ∀ W, RefAt W r ns dr → Calls Tryd.prog 57 #[.pointer (some ⟨r, 0, none⟩), .agg #[.int .i64 n.kind, .string n.label, .int .i64 n.a, .int .i64 n.b]] W fun e w' => e = .returned (.bool true) ∧ Below W.heap.size W w') (hj : findN n ns 0 = none) (hroom : (ns.length : Int) < 262144) :
    Calls Tryd.prog 53 #[.pointer (some ⟨r, 0, none⟩), .agg #[.int .i64 n.kind, .string n.label, .int .i64 n.a, .int .i64 n.b]] w fun e w' => e = .returned (.tuple #[.int .i64 (ns.length + 1 : Nat), .int .i64 0]) ∧ RefAt w' r (ns ++ [n]) dr ∧ MovedR r w w' := by
  have hrB : decide ((262144 : Int) ≤ (ns.length : Int)) = false := dec_false1 (by omega)
  have Hroom : Hid ((ns.length : Int) < 262144) := hroom
  clear hroom
  have hb : Below w.heap.size w (w.alloc (.cells #[.int .i64 n.kind, .string n.label, .int .i64 n.a, .int .i64 n.b] 71)) := (Below.refl _ _).alloc (Nat.le_refl _) _
  have b0 : (w.alloc (.cells #[.int .i64 n.kind, .string n.label, .int .i64 n.a, .int .i64 n.b] 71)).cell? ⟨w.heap.size, 0, none⟩ = some (.int .i64 n.kind) := by go_simp
  have b1 : (w.alloc (.cells #[.int .i64 n.kind, .string n.label, .int .i64 n.a, .int .i64 n.b] 71)).cell? ⟨w.heap.size, 1, none⟩ = some (.string n.label) := by go_simp
  have b2 : (w.alloc (.cells #[.int .i64 n.kind, .string n.label, .int .i64 n.a, .int .i64 n.b] 71)).cell? ⟨w.heap.size, 2, none⟩ = some (.int .i64 n.a) := by go_simp
  have b3 : (w.alloc (.cells #[.int .i64 n.kind, .string n.label, .int .i64 n.a, .int .i64 n.b] 71)).cell? ⟨w.heap.size, 3, none⟩ = some (.int .i64 n.b) := by go_simp
  have hbl : w.heap.size < (w.alloc (.cells #[.int .i64 n.kind, .string n.label, .int .i64 n.a, .int .i64 n.b] 71)).heap.size := by simp
  obtain ⟨W, hW⟩ : ∃ W, w.alloc (.cells #[.int .i64 n.kind, .string n.label, .int .i64 n.a, .int .i64 n.b] 71) = W := ⟨_, rfl⟩
  rw [hW] at hb b0 b1 b2 b3 hbl
  have hr := h.below hb
  have hnum : numOf ns n = 0 := by simp [numOf, hj]
  have hfd := fun w1 (h1 : RefAt w1 r ns dr) => find_m h1 hw n
  rw [hnum] at hfd
  clear hj hnum hw
  go_enter Tryd.func53, Tryd.ntmps53
  go_wp2_with (rw [hW])
  refine (hf _ hr).mono ?_
  rintro e w1 ⟨rfl, hb2⟩
  have hr1 := hr.below hb2
  have d0 := (hb2.cell (p := ⟨w.heap.size, 0, none⟩) hbl).trans b0
  have d1 := (hb2.cell (p := ⟨w.heap.size, 1, none⟩) hbl).trans b1
  have d2 := (hb2.cell (p := ⟨w.heap.size, 2, none⟩) hbl).trans b2
  have d3 := (hb2.cell (p := ⟨w.heap.size, 3, none⟩) hbl).trans b3
  have hbl1 : w.heap.size < w1.heap.size := Nat.lt_of_lt_of_le hbl hb2.size
  go_wp2_with fail
  refine (hfd _ hr1).mono ?_
  rintro e w2 ⟨rfl, hb3⟩
  have hr2 := hr1.below hb3
  have f0 := (hb3.cell (p := ⟨w.heap.size, 0, none⟩) hbl1).trans d0
  have f1 := (hb3.cell (p := ⟨w.heap.size, 1, none⟩) hbl1).trans d1
  have f2 := (hb3.cell (p := ⟨w.heap.size, 2, none⟩) hbl1).trans d2
  have f3 := (hb3.cell (p := ⟨w.heap.size, 3, none⟩) hbl1).trans d3
  have hbl2 : w.heap.size < w2.heap.size := Nat.lt_of_lt_of_le hbl1 hb3.size
  have hB := on hb (on hb2 hb3)
  have hlt := h.lt
  obtain ⟨sl, c, h0, hrow, _⟩ := hr2
  have s0 : w2.cell? ⟨r, 0, none⟩ = some (.slice sl ns.length c) := by rw [cell_of_heap h0]; rfl
  have sf : ∀ o, w2.frozen? ⟨r, o, none⟩ = false := fun o => frozen_of_heap h0 o
  have hlr : r < w2.heap.size := (Array.getElem?_eq_some_iff.1 h0).1
  clear d0 d1 d2 d3 b0 b1 b2 b3 hr hr1 hb hb2 hb3 hbl hbl1 hW hf hfd
  go_wp2_with fail
  obtain ⟨i0, hi, hz0, hz1, hz2⟩ := info_parts info27
  have hbel : ∀ o, Below w2.heap.size w2 ((w2.alloc o).drew) := fun o => ((Below.refl _ _).alloc (Nat.le_refl _) _).drew
  go_region_law (refine step_append_at rfl (.tmp 27) (.tmp 29) 50 rfl 71 i0 Nd.zero.val 4 40 Tryd.underlying50 hi hz0 hz1 hz2 rfl (by decide) (.slice sl ns.length c) ns.length (flat ns) (by simp [Act.eval, Act.put]) (World.ownsRow.alloc hrow _) ⟨w2.heap.size, 0, none⟩ 1 1 n.cells (by simp [Act.eval, Act.put]) rfl (cells_new n _) (cells_one n) (by unfold maxLen; omega) (by omega) ?_; intro v' w' hown hgrow hnil hloc; obtain ⟨q0, q1, q2, g, cap, q3⟩ := rgrown h hB h0 hrow (hbel _) hown hgrow hloc Hroom.out; subst q3; have k0 := cell_of_heap q0 0; have z0 := frozen_of_heap q0 0)
  all_goals
    have Hst : Hid (RefAt (w'.setCell ⟨r, 0, none⟩ (.slice (some ⟨g, 0, none⟩) (ns.length + 1) cap)) r (ns ++ [n]) dr) := q1
    have Hmv : Hid (MovedR r w (w'.setCell ⟨r, 0, none⟩ (.slice (some ⟨g, 0, none⟩) (ns.length + 1) cap))) := q2
    have m0 : (w'.setCell ⟨r, 0, none⟩ (.slice (some ⟨g, 0, none⟩) (ns.length + 1) cap)).cell? ⟨r, 0, none⟩ = some (.slice (some ⟨g, 0, none⟩) (ns.length + 1) cap) := by go_simp
    clear hown hgrow hloc hnil q0 q1 q2
    go_wp2
    go_ret2
    exact ⟨rfl, Hst.out, Hmv.out⟩

theorem rmake_ok {w : World} {r : Nat} {ns : List Nd} {dr : Int} (h : RefAt w r ns dr) (hw : Wf ns) (n : Nd) (hf : ∀ W, RefAt W r ns dr → Calls Tryd.prog 57 #[.pointer (some ⟨r, 0, none⟩), .agg #[.int .i64 n.kind, .string n.label, .int .i64 n.a, .int .i64 n.b]] W fun e w' => e = .returned (.bool true) ∧ Below W.heap.size W w') (hfit : fitsB ns n = true) (hroom : (ns.length : Int) < 262144) :
    Calls Tryd.prog 53 #[.pointer (some ⟨r, 0, none⟩), .agg #[.int .i64 n.kind, .string n.label, .int .i64 n.a, .int .i64 n.b]] w fun e w' => ∃ t ns', e = .returned (.tuple #[.int .i64 t, .int .i64 0]) ∧ makeF ns n = (t, 0, ns') ∧ RunR r w w' ns ns' dr 1 ∧ Mk1 ns ns' t n := by
  obtain ⟨t, ns', e, hm⟩ := makeF_ok hw hfit hroom
  have e2 := e
  unfold makeF at e
  rw [if_pos hfit] at e
  cases hj : findN n ns 0 with
  | some j =>
    rw [hj] at e
    simp only [Prod.mk.injEq, true_and] at e
    obtain ⟨rfl, rfl⟩ := e
    refine (rmake_old h hw n hf j hj).mono ?_
    rintro e w' ⟨rfl, hb⟩
    exact ⟨_, _, rfl, e2, (RunR.ofBelow h hw hb).mono (by omega), hm⟩
  | none =>
    rw [hj] at e
    simp only [if_neg (show ¬ 262144 ≤ ns.length by omega), Prod.mk.injEq, true_and] at e
    obtain ⟨rfl, rfl⟩ := e
    refine (rmake_new h hw n hf hj hroom).mono ?_
    rintro e w' ⟨rfl, hst, hmv⟩
    exact ⟨_, _, rfl, e2, ⟨hst, hmv, hm.stp⟩, hm⟩

set_option maxHeartbeats 400000 in
theorem put_m {w : World} {r : Nat} {ns : List Nd} {dr : Int} (h : RefAt w r ns dr) (hw : Wf ns) (k : Int) (l : ByteArray) (a b : Int) (hf : ∀ W, RefAt W r ns dr → Calls Tryd.prog 57 #[.pointer (some ⟨r, 0, none⟩), .agg #[.int .i64 k, .string l, .int .i64 a, .int .i64 b]] W fun e w' => e = .returned (.bool true) ∧ Below W.heap.size W w') (hfit : fitsB ns ⟨k, l, a, b⟩ = true) (hroom : (ns.length : Int) < 262144) :
    Calls Tryd.prog 42 #[.pointer (some ⟨r, 0, none⟩), .int .i64 k, .string l, .int .i64 a, .int .i64 b] w fun e w' => ∃ t ns', e = .returned (.int .i64 t) ∧ makeF ns ⟨k, l, a, b⟩ = (t, 0, ns') ∧ RunR r w w' ns ns' dr 1 ∧ Mk1 ns ns' t ⟨k, l, a, b⟩ := by
  have hmk := rmake_ok h hw ⟨k, l, a, b⟩ hf hfit hroom
  clear hf hfit hroom
  go_enter Tryd.func42, Tryd.ntmps42
  go_wp2_with fail
  refine hmk.mono ?_
  rintro e w1 ⟨t, ns', rfl, hmf, hr, hm⟩
  have Hmf : Hid (makeF ns ⟨k, l, a, b⟩ = (t, 0, ns')) := hmf
  clear hmf
  go_wp2_with fail
  go_ret
  exact ⟨t, ns', rfl, Hmf.out, hr, hm⟩

end Go.Proofs.YtcfmagmhnemhaaaDoor
