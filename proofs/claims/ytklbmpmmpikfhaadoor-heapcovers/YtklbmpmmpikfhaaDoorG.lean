/-
  The common place of two leaves: package heap's Common.
-/
import Derived.Test.YtklbmpmmpikfhaaDoorF
namespace Go.Proofs.YtklbmpmmpikfhaaDoor
open Go.RowKit Go.Shelf
set_option linter.unusedSimpArgs false
set_option linter.unusedVariables false
attribute [local go_sem] Oper.semAt_some

theorem keeps_of_below {W W' : World} (h : Below W.heap.size W W') : KeepsOthers W W' :=
  ⟨h.size, fun k o hk _ => (h.block k (Array.getElem?_eq_some_iff.1 hk).1).trans hk⟩

theorem find_prefix {p : Int → Bool} {pre l : List Int} {z : Int} (h : pre <+: l) (hf : pre.find? p = some z) : l.find? p = some z := by
  obtain ⟨r, rfl⟩ := h
  rw [List.find?_append, hf]; rfl

theorem two_in {i n : Int} (h : leafB i n = true) : wrap64 (2 * i) = 2 * i := by
  have h1 := inB_lt (leafB_in h)
  exact IntWalk.wrap64_in _ (by omega)

structure CInv (w W : World) (j n : Int) : Prop where
  cj : W.cell? ⟨w.heap.size, 0, none⟩ = some (.int .i64 j)
  cn : W.cell? ⟨w.heap.size + 1, 0, none⟩ = some (.int .i64 n)
  cr : W.cell? ⟨w.heap.size + 1 + 1, 0, none⟩ = some (.int .i64 0)
  ce : W.cell? ⟨w.heap.size + 1 + 1 + 1, 0, none⟩ = some (.int .i64 0)
  fr : W.frozen? ⟨w.heap.size + 1 + 1, 0, none⟩ = false
  fe : W.frozen? ⟨w.heap.size + 1 + 1 + 1, 0, none⟩ = false
  sz : w.heap.size + 1 + 1 + 1 + 1 + 1 + 1 ≤ W.heap.size

theorem CInv.kept {w W W' : World} {j n : Int} (h : CInv w W j n) {row : Option Nat} (hg : W.grownBy W' row) (hr : ∀ r, row = some r → ∃ o : Obj, W.heap[r]? = some o ∧ o.isCells = false) : CInv w W' j n :=
  ⟨cell_kept h.cj hg hr, cell_kept h.cn hg hr, cell_kept h.cr hg hr, cell_kept h.ce hg hr, (frozen_kept h.cr hg hr).trans h.fr, (frozen_kept h.ce hg hr).trans h.fe, Nat.le_trans h.sz hg.size⟩

theorem CInv.below {w W W' : World} {j n : Int} (h : CInv w W j n) (hb : Below W.heap.size W W') : CInv w W' j n := by
  have hs := h.sz
  exact ⟨(hb.cell (p := ⟨w.heap.size, 0, none⟩) (by show w.heap.size < _; omega)).trans h.cj, (hb.cell (p := ⟨w.heap.size + 1, 0, none⟩) (by show w.heap.size + 1 < _; omega)).trans h.cn, (hb.cell (p := ⟨w.heap.size + 1 + 1, 0, none⟩) (by show w.heap.size + 1 + 1 < _; omega)).trans h.cr, (hb.cell (p := ⟨w.heap.size + 1 + 1 + 1, 0, none⟩) (by show w.heap.size + 1 + 1 + 1 < _; omega)).trans h.ce,
    (hb.frozen (p := ⟨w.heap.size + 1 + 1, 0, none⟩) (by show w.heap.size + 1 + 1 < _; omega)).trans h.fr, (hb.frozen (p := ⟨w.heap.size + 1 + 1 + 1, 0, none⟩) (by show w.heap.size + 1 + 1 + 1 < _; omega)).trans h.fe, Nat.le_trans hs hb.size⟩

set_option maxRecDepth 100000 in
set_option maxHeartbeats 2000000 in
theorem common_yes (i j n : Int) (hi : leafB i n = true) (hj : leafB j n = true) {w : World} (hT : Tab w) :
    CallsIn Fence.wide 3 Tryd.prog 25 #[.int .i64 i, .int .i64 j, .int .i64 n] w fun e W' => e = .returned (.tuple #[.int .i64 (commonI i j n), .int .i64 0]) ∧ Below w.heap.size w W' := by
  have hts := hT.size
  have hr : rightB n = true := inB_right (leafB_in hi)
  have ti := two_in hi
  have tj := two_in hj
  have hx : inB (2 * i) n = true := leafB_in hi
  refine callsIn_of_wp_marks Tryd.func25 rfl trivial ?_ rfl
  simp only [Tryd.ntmps25, List.size_toArray, List.length_cons, List.length_nil, Nat.reduceAdd, Nat.reduceSub, Array.replicate_succ, Array.replicate_zero, List.push_toArray, List.append_toArray, List.nil_append, List.cons_append]
  gi_wp2_with first
    | (refine ⟨trivial, ?_⟩; gi_at_call 38; refine (callsIn_wide.2 (isLeaf_any _ _ _)).mono ?_; rintro e w' ⟨rfl, rfl⟩; simp only [hi, hj])
    | (refine ⟨trivial, ?_⟩; gi_at_call 36; refine (callsIn_wide.2 (upward_any _ _ _)).mono ?_; rintro e w' ⟨rfl, rfl⟩; simp only [ti, World.size_alloc])
  have c0 := cell_new w (.int .i64 j) 3
  have c1 := cell_new (w.alloc (.cells #[.int .i64 j] 3)) (.int .i64 n) 3
  have c2 := cell_new ((w.alloc (.cells #[.int .i64 j] 3)).alloc (.cells #[.int .i64 n] 3)) (.int .i64 0) 3
  have c3 := cell_new (((w.alloc (.cells #[.int .i64 j] 3)).alloc (.cells #[.int .i64 n] 3)).alloc (.cells #[.int .i64 0] 3)) (.int .i64 0) 25
  have c4 := cell_new ((((w.alloc (.cells #[.int .i64 j] 3)).alloc (.cells #[.int .i64 n] 3)).alloc (.cells #[.int .i64 0] 3)).alloc (.cells #[.int .i64 0] 25)) (.int .i64 (2 * i)) 3
  have c5 := cell_new (((((w.alloc (.cells #[.int .i64 j] 3)).alloc (.cells #[.int .i64 n] 3)).alloc (.cells #[.int .i64 0] 3)).alloc (.cells #[.int .i64 0] 25)).alloc (.cells #[.int .i64 (2 * i)] 3)) (.int .i64 n) 3
  simp only [World.size_alloc] at c1 c2 c3 c4 c5
  have hB0 : Below w.heap.size w ((((((w.alloc (.cells #[.int .i64 j] 3)).alloc (.cells #[.int .i64 n] 3)).alloc (.cells #[.int .i64 0] 3)).alloc (.cells #[.int .i64 0] 25)).alloc (.cells #[.int .i64 (2 * i)] 3)).alloc (.cells #[.int .i64 n] 3)) := ((((((Below.refl _ w).alloc (Nat.le_refl _) _).alloc (by simp) _).alloc (by simp; omega) _).alloc (by simp; omega) _).alloc (by simp; omega) _).alloc (by simp; omega) _
  refine wpIn_rangeFunc_ownF rfl (by omega) (gf := 41) (lb := #[.pointer (some ⟨w.heap.size + 1 + 1 + 1 + 1, 0, none⟩), .pointer (some ⟨w.heap.size + 1 + 1 + 1 + 1 + 1, 0, none⟩)]) rfl trivial (enters_of Tryd.func41 (by kernel_rfl) rfl)
    (up_stops 2 (by omega) (w.heap.size + 1 + 1 + 1 + 1) (w.heap.size + 1 + 1 + 1 + 1 + 1) w.heap.size (2 * i) n hx hts _ (hT.below hB0 hts) (by simp) (by simp) (cell_al _ c4.1) c5.1) Kp.t (Kp.b (by simp; omega) (by simp)) (Below.refl _ _) (fun _ => rfl)
    (fun pre W => ((pre.find? fun y => underB (2 * j) y n) = none ∧ CInv w W j n) ∧ Below w.heap.size w W)
    (fun c pre W => (c = .ret ∧ ∃ z, (pre.find? fun y => underB (2 * j) y n) = some z ∧ W.cell? ⟨w.heap.size + 1 + 1, 0, none⟩ = some (.int .i64 z) ∧ W.cell? ⟨w.heap.size + 1 + 1 + 1, 0, none⟩ = some (.int .i64 0)) ∧ Below w.heap.size w W)
    (OwnFrom.and (Own.from (fun s A B row hs hg hr => ⟨hs.1, hs.2.kept hg hr⟩) _) (ownFrom_below (Nat.le_refl _) (by simp; omega)))
    (fun c => OwnFrom.and (Own.from (fun s A B row hs hg hr => ⟨hs.1, hs.2.choose, hs.2.choose_spec.1, cell_kept hs.2.choose_spec.2.1 hg hr, cell_kept hs.2.choose_spec.2.2 hg hr⟩) _) (ownFrom_below (Nat.le_refl _) (by simp; omega)))
    ⟨⟨rfl, ⟨cell_al _ (cell_al _ (cell_al _ (cell_al _ (cell_al _ c0.1)))), cell_al _ (cell_al _ (cell_al _ (cell_al _ c1.1))), cell_al _ (cell_al _ (cell_al _ c2.1)), cell_al _ (cell_al _ c3.1), frozen_al _ (cell_al _ (cell_al _ c2.1)) (frozen_al _ (cell_al _ c2.1) (frozen_al _ c2.1 c2.2)), frozen_al _ (cell_al _ c3.1) (frozen_al _ c3.1 c3.2), by simp⟩⟩, hB0⟩
    (fun z => { tmps := #[.int .i64 i, .int .i64 j, .int .i64 n, undef, .pointer (some ⟨w.heap.size, 0, none⟩), .pointer (some ⟨w.heap.size + 1, 0, none⟩), .pointer (some ⟨w.heap.size + 1 + 1, 0, none⟩), .pointer (some ⟨w.heap.size + 1 + 1 + 1, 0, none⟩), .int .i64 z, .int .i64 i, .int .i64 n, .bool true, .bool false, .bool false, .int .i64 j, .int .i64 n, .bool true, .bool false, .bool false, .int .i64 i, .int .i64 (2 * i), .int .i64 n, .func (.func 41) #[] #[.pointer (some ⟨w.heap.size + 1 + 1 + 1 + 1, 0, none⟩), .pointer (some ⟨w.heap.size + 1 + 1 + 1 + 1 + 1, 0, none⟩)], .int .i64 z, undef, undef, undef, undef, undef, undef, undef, undef], defers := [] }) ?assign ?body ?done ?stop
  case assign =>
    intro l z W K hK
    gi_wp2
    exact hK
  case body =>
    rintro l pre z W ⟨⟨hp, hC⟩, hB⟩ _
    have hTW := hT.below hB hts
    have cj := hC.cj; have cn := hC.cn
    gi_wp2_with (refine ⟨trivial, ?_⟩; gi_at_call 23; refine (CallsIn.inRound l (callsIn_wide.2 (Under_any _ _ _ hTW))).mono ?_; rintro e W1 ⟨rfl, hb1⟩; have hC1 := hC.below hb1; have cr := hC1.cr; have ce := hC1.ce; have fr := hC1.fr; have fe := hC1.fe; simp only [tj])
    · have hu : underB (2 * j) z n = true := by assumption
      have hw1 : Below w.heap.size W W1 := hb1.mono hB.size
      refine ⟨(keeps_of_below hb1).trans ((KeepsOthers.setCell _ _ _).trans (KeepsOthers.setCell _ _ _)), ⟨rfl, z, by simp [List.find?_append, hp, hu], ?_, ?_⟩, ((hB.trans hw1).setCell (p := ⟨w.heap.size + 1 + 1, 0, none⟩) (by show w.heap.size ≤ w.heap.size + 1 + 1; omega) _).setCell (p := ⟨w.heap.size + 1 + 1 + 1, 0, none⟩) (by show w.heap.size ≤ w.heap.size + 1 + 1 + 1; omega) _⟩
      · rw [World.cell?_setCell_other _ _ _ _ (by simp)]
        exact World.cell?_setCell_same' _ _ _ (by rw [cr]; rfl)
      · exact World.cell?_setCell_same' _ _ _ (by rw [World.cell?_setCell_other _ _ _ _ (by simp), ce]; rfl)
    · have hu : underB (2 * j) z n = false := by assumption
      have hw1 : Below w.heap.size W W1 := hb1.mono hB.size
      have hsz := hC.sz
      exact ⟨keeps_of_below hb1, ⟨hw1, fun e => (hb1.cell (p := ⟨w.heap.size + 1 + 1 + 1 + 1 + 1, 0, none⟩) (by show w.heap.size + 1 + 1 + 1 + 1 + 1 < _; omega)).trans e⟩, ⟨by simp [List.find?_append, hp, hu], hC1⟩, hB.trans hw1⟩
  case done =>
    rintro D ys W hD rfl ⟨⟨hp, hC⟩, hB⟩ hK
    have cn := hC.cn; have cr := hC.cr; have ce := hC.ce; have fr := hC.fr; have fe := hC.fe
    gi_wp2_with (refine ⟨trivial, ?_⟩; gi_at_call 31; refine (callsIn_wide.2 (root_right hr _)).mono ?_; rintro e w' ⟨rfl, rfl⟩)
    have hK' := ((KeepsOthers.setCell w' ⟨w.heap.size + 1 + 1, 0, none⟩ (.int .i64 (n - 1))).trans (KeepsOthers.setCell _ ⟨w.heap.size + 1 + 1 + 1, 0, none⟩ (.int .i64 0))).same D _ hK rfl
    refine ⟨by simp, .inl ⟨_, _, rfl, run_takeDeferred hK', ?_⟩⟩
    have d2 : ((w'.setCell ⟨w.heap.size + 1 + 1, 0, none⟩ (.int .i64 (n - 1))).setCell ⟨w.heap.size + 1 + 1 + 1, 0, none⟩ (.int .i64 0)).cell? ⟨w.heap.size + 1 + 1, 0, none⟩ = some (.int .i64 (n - 1)) := by
      rw [World.cell?_setCell_other _ _ _ _ (by simp)]
      exact World.cell?_setCell_same' _ _ _ (by rw [cr]; rfl)
    have d3 : ((w'.setCell ⟨w.heap.size + 1 + 1, 0, none⟩ (.int .i64 (n - 1))).setCell ⟨w.heap.size + 1 + 1 + 1, 0, none⟩ (.int .i64 0)).cell? ⟨w.heap.size + 1 + 1 + 1, 0, none⟩ = some (.int .i64 0) :=
      World.cell?_setCell_same' _ _ _ (by rw [World.cell?_setCell_other _ _ _ _ (by simp), ce]; rfl)
    have hc5 := cell_kept d2 (grownBy_putObj' _ D (.deferred none)) (fun r e => by cases e; exact ⟨_, hK', rfl⟩)
    have hc6 := cell_kept d3 (grownBy_putObj' _ D (.deferred none)) (fun r e => by cases e; exact ⟨_, hK', rfl⟩)
    have hz : commonI i j n = n - 1 := by simp only [commonI, hp]; rfl
    refine ⟨.tuple #[.int .i64 (n - 1), .int .i64 0], ?_, by rw [hz], ((hB.setCell (p := ⟨w.heap.size + 1 + 1, 0, none⟩) (by show w.heap.size ≤ w.heap.size + 1 + 1; omega) _).setCell (p := ⟨w.heap.size + 1 + 1 + 1, 0, none⟩) (by show w.heap.size ≤ w.heap.size + 1 + 1 + 1; omega) _).trans (belowK_b (w := w) (Nat.le_refl _) _ D _ _ (by simp at hD; omega) hK' rfl rfl)⟩
    simp [results, Tryd.f25, go_sem, hc5, hc6]
  case stop =>
    rintro D c pre W hD hpre ⟨⟨rfl, z, hf, hcr, hce⟩, hB⟩ hK
    gi_wp2
    refine ⟨by simp, .inl ⟨_, _, rfl, run_takeDeferred hK, ?_⟩⟩
    have hc5 := cell_kept hcr (grownBy_putObj' _ D (.deferred none)) (fun r e => by cases e; exact ⟨_, hK, rfl⟩)
    have hc6 := cell_kept hce (grownBy_putObj' _ D (.deferred none)) (fun r e => by cases e; exact ⟨_, hK, rfl⟩)
    have hz : commonI i j n = z := by simp [commonI, find_prefix hpre hf]
    refine ⟨.tuple #[.int .i64 z, .int .i64 0], ?_, by rw [hz], hB.trans (belowK_b (w := w) (Nat.le_refl _) W D _ _ (by simp at hD; omega) hK rfl rfl)⟩
    simp [results, Tryd.f25, go_sem, hc5, hc6]

set_option maxHeartbeats 1000000 in
theorem common_no (i j n : Int) (h : (leafB i n && leafB j n) = false) {w : World} :
    Calls Tryd.prog 25 #[.int .i64 i, .int .i64 j, .int .i64 n] w fun e W' => e = .returned (.tuple #[.int .i64 0, .int .i64 30]) ∧ Below w.heap.size w W' := by
  have c2 := cell_new ((w.alloc (.cells #[.int .i64 j] 3)).alloc (.cells #[.int .i64 n] 3)) (.int .i64 0) 3
  have c3 := cell_new (((w.alloc (.cells #[.int .i64 j] 3)).alloc (.cells #[.int .i64 n] 3)).alloc (.cells #[.int .i64 0] 3)) (.int .i64 30) 25
  simp only [World.size_alloc] at c2 c3
  have e2 := cell_al (.cells #[.int .i64 30] 25) c2.1
  have e3 := c3.1
  have fin : Below w.heap.size w ((((w.alloc (.cells #[.int .i64 j] 3)).alloc (.cells #[.int .i64 n] 3)).alloc (.cells #[.int .i64 0] 3)).alloc (.cells #[.int .i64 30] 25)) := ((((Below.refl _ w).alloc (Nat.le_refl _) _).alloc (by simp) _).alloc (by simp; omega) _).alloc (by simp; omega) _
  cases hx : leafB i n with
  | true =>
    have hy : leafB j n = false := by simpa [hx] using h
    go_enter Tryd.func25, Tryd.ntmps25
    go_wp2_with (go_at_call 38; refine (isLeaf_any _ _ _).mono ?_; rintro e w' ⟨rfl, rfl⟩; simp only [hx, hy])
    exact bodyPost_ret (v := .tuple #[.int .i64 0, .int .i64 30]) (by simp [results, Tryd.results25, go_sem, e2, e3]) rfl ⟨rfl, fin⟩
  | false =>
    go_enter Tryd.func25, Tryd.ntmps25
    go_wp2_with (go_at_call 38; refine (isLeaf_any _ _ _).mono ?_; rintro e w' ⟨rfl, rfl⟩; simp only [hx])
    exact bodyPost_ret (v := .tuple #[.int .i64 0, .int .i64 30]) (by simp [results, Tryd.results25, go_sem, e2, e3]) rfl ⟨rfl, fin⟩

def commonIf (i j n : Int) : Int := if leafB i n && leafB j n then commonI i j n else 0

theorem Common_any (i j n : Int) {w : World} (hT : Tab w) :
    Calls Tryd.prog 25 #[.int .i64 i, .int .i64 j, .int .i64 n] w fun e W' => e = .returned (.tuple #[.int .i64 (commonIf i j n), .int .i64 (errIf (leafB i n && leafB j n))]) ∧ Below w.heap.size w W' := by
  cases h : leafB i n && leafB j n with
  | true =>
    have h' := h
    simp only [Bool.and_eq_true] at h'
    have := (callsIn_wide (n := 3)).1 (common_yes i j n h'.1 h'.2 hT)
    rwa [show commonI i j n = commonIf i j n by simp [commonIf, h]] at this
  | false =>
    have := common_no i j n h (w := w)
    rwa [show (0 : Int) = commonIf i j n by simp [commonIf, h]] at this

end Go.Proofs.YtklbmpmmpikfhaaDoor
