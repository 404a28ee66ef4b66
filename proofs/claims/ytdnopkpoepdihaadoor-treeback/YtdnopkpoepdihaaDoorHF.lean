/-
  The siblings along a path: package heap's Copath.
-/
import Derived.Test.YtdnopkpoepdihaaDoorHE
namespace Go.Proofs.YtdnopkpoepdihaaDoor
open Go.RowKit Go.Shelf
set_option linter.unusedSimpArgs false
set_option linter.unusedVariables false
attribute [local go_sem] Oper.semAt_some

def cf (n : Int) (l : List Int) : List Int := (l.filter fun y => y != n - 1).map sibI
theorem cf_hit {n y : Int} (pre : List Int) (h : (y != n - 1) = true) : cf n (pre ++ [y]) = cf n pre ++ [sibI y] := by simp [cf, List.filter_append, h]
theorem cf_miss {n y : Int} (pre : List Int) (h : (y != n - 1) = false) : cf n (pre ++ [y]) = cf n pre := by simp [cf, List.filter_append, h]

/-- In a region that draws its order: an append whose run is known. -/
theorem ready_append {F : Fence} {n : Nat} {P : Program} {ops : Array Oper} {Q : Exit → Act → World → Prop} {md : Region.Mode} {fuel : Nat} {listed : Array Bool} {a : Act} {w w' : World} {i : Nat} {o : Oper} {rs : List Nat} {s x : Operand} {t : TypeId} {v' : Value}
    (ho : ops[i]? = some o) (hg : o.guard = none) (hop : o.op = Op.call { callee := Callee.builtin Builtin.append, args := #[s, x], argTypes := #[t, t] })
    (hrun : (Builtin.append_ #[t, t] o.type #[a.eval s, a.eval x]).run P w = .ok v' w')
    (h : wpAnyIn F n P md ops Q fuel (listed.setIfInBounds i true) (a.put o.dst v') w')
    (hs : AllReadyIn F n P md ops Q fuel listed a w rs) : AllReadyIn F n P md ops Q fuel listed a w (i :: rs) := by
  refine AllReadyIn.cons ho (fun K hK => ?_) hs
  rw [if_pos (by simp [Region.wanted, hg])]
  unfold Oper.wpIn
  refine ⟨?_, ?_⟩
  · simp [Oper.about, hop, resolve, Target.leads, Sem.run_pure]
  · rw [Oper.semAt_plain F _ _ (by rw [hop]; intro c hc'; cases hc')]
    simp [execOp, hop, resolve, invoke, builtin, hrun, Result.andThen]
    exact hK _ _ h

set_option maxRecDepth 100000 in
set_option maxHeartbeats 2000000 in
theorem copath_yes (x n : Int) (hx : inB x n = true) {w : World} (hT : Tab w) :
    CallsIn Fence.wide 3 Tryd.prog 50 #[.int .i64 x, .int .i64 n] w fun e W' => ∃ v, e = .returned (.tuple #[v, .int .i64 0]) ∧ Made w.heap.size W' v (copathI x n) ∧ Below w.heap.size w W' := by
  have hts := hT.size
  obtain ⟨i0, hi, hz0, hz1, hz2⟩ := info_parts Tryd.infoI
  refine callsIn_of_wp_marks Tryd.func50 rfl trivial ?_ rfl
  simp only [Tryd.ntmps50, List.size_toArray, List.length_cons, List.length_nil, Nat.reduceAdd, Nat.reduceSub, Array.replicate_succ, Array.replicate_zero, List.push_toArray, List.append_toArray, List.nil_append, List.cons_append]
  gi_wp2_with first
    | (refine ⟨trivial, ?_⟩; gi_at_call 74; refine (callsIn_wide.2 (isPlace_any _ _ _)).mono ?_; rintro e w' ⟨rfl, rfl⟩; simp only [hx])
    | (refine ⟨trivial, ?_⟩; gi_at_call 75; refine (callsIn_wide.2 (upward_any _ _ _)).mono ?_; rintro e w' ⟨rfl, rfl⟩)
  have bX := Boxed.new w 3 (.int .i64 n)
  have bO := Boxed.new (w.alloc (.cells #[.int .i64 n] 3)) 22 (.slice none 0 0)
  have c2 := cell_new ((w.alloc (.cells #[.int .i64 n] 3)).alloc (.cells #[.slice none 0 0] 22)) (.int .i64 x) 3
  have c3 := cell_new (((w.alloc (.cells #[.int .i64 n] 3)).alloc (.cells #[.slice none 0 0] 22)).alloc (.cells #[.int .i64 x] 3)) (.int .i64 n) 3
  simp only [World.size_alloc] at bO c2 c3
  have hB0 : Below w.heap.size w ((((w.alloc (.cells #[.int .i64 n] 3)).alloc (.cells #[.slice none 0 0] 22)).alloc (.cells #[.int .i64 x] 3)).alloc (.cells #[.int .i64 n] 3)) := ((((Below.refl _ w).alloc (Nat.le_refl _) _).alloc (by simp) _).alloc (by simp; omega) _).alloc (by simp; omega) _
  refine wpIn_rangeFunc_ownG rfl (by omega) (gf := 88) (lb := #[.pointer (some ⟨w.heap.size + 1 + 1, 0, none⟩), .pointer (some ⟨w.heap.size + 1 + 1 + 1, 0, none⟩)]) rfl trivial (enters_of Tryd.func88 (by kernel_rfl) rfl)
    (upp_stops 2 (by omega) (w.heap.size + 1 + 1) (w.heap.size + 1 + 1 + 1) w.heap.size x n hx hts _ (hT.below hB0 hts) (by simp) (by simp) (cell_al _ c2.1) c3.1) Kp.t (Kp.b (by simp; omega) (by simp)) (Below.refl _ _) (fun _ => rfl)
    (fun (pre : List Pl) W => (∃ v, Boxed W (w.heap.size + 1) 22 v ∧ W.ownsRow (w.heap.size + 1 + 1 + 1 + 1) 3 1 v (cf n (vals pre)).length ((cf n (vals pre)).map (Value.int .i64)) ∧ (v = .slice none 0 0 ↔ cf n (vals pre) = [])) ∧ Boxed W w.heap.size 3 (.int .i64 n) ∧ Boxed W (w.heap.size + 1 + 1 + 1) 3 (.int .i64 n) ∧ Below w.heap.size w W)
    (fun _ _ _ => False)
    (OwnFrom.and (Own.from (holdsRow_own (w.heap.size + 1 + 1 + 1 + 1) (w.heap.size + 1) 22 3 1 (fun pre : List Pl => (cf n (vals pre)).length) (fun pre : List Pl => (cf n (vals pre)).map (Value.int .i64)) (fun (pre : List Pl) v => v = .slice none 0 0 ↔ cf n (vals pre) = [])) _) (OwnFrom.and (Own.from (boxed_own _ _ (fun _ => _)) _) (OwnFrom.and (Own.from (boxed_own _ _ (fun _ => _)) _) (ownFrom_below (Nat.le_refl _) (by simp; omega)))))
    (fun _ _ _ _ _ hs _ _ => hs)
    ⟨⟨_, (bO.alloc _).alloc _, World.ownsRow_nil _ _ _ _, by simp [cf, vals]⟩, ((bX.alloc _).alloc _).alloc _, by have := Boxed.new (((w.alloc (.cells #[.int .i64 n] 3)).alloc (.cells #[.slice none 0 0] 22)).alloc (.cells #[.int .i64 x] 3)) 3 (.int .i64 n); simpa using this, hB0⟩
    (fun z : Pl => { tmps := #[.int .i64 x, .int .i64 n, undef, .pointer (some ⟨w.heap.size, 0, none⟩), .slice none 0 0, .int .i64 0, .pointer (some ⟨w.heap.size + 1, 0, none⟩), .int .i64 z.1, .int .i64 x, .int .i64 n, .bool true, .bool false, .int .i64 x, .int .i64 n, .func (.func 88) #[] #[.pointer (some ⟨w.heap.size + 1 + 1, 0, none⟩), .pointer (some ⟨w.heap.size + 1 + 1 + 1, 0, none⟩)], .int .i64 z.1, undef, undef, undef, undef, undef, undef, undef, undef, undef, undef], defers := [] }) ?assign ?body ?done ?stop
  case assign =>
    intro l z W K hK
    gi_wp2
    exact hK
  case body =>
    rintro l pre ⟨z, hzb⟩ W ⟨⟨v, hv, hrow, hnil⟩, hbx, hbn, hB⟩ hlt
    have hc := hv.cell
    have hcx := hbx.cell
    have hsz : w.heap.size + 1 + 1 + 1 + 1 ≤ W.heap.size := by have := hbn.lt; omega
    have hpl : (cf n (vals pre)).length ≤ pre.length := by simp only [cf, List.length_map]; exact Nat.le_trans (List.length_filter_le _ _) (Nat.le_of_eq (vals_len pre))
    have hm8 : 8 ≤ maxLen := by decide
    gi_wp2_with (refine ⟨trivial, ?_⟩; gi_at_call 76; refine (CallsIn.inRound l (callsIn_wide.2 (root_right (inB_right hx) _))).mono ?_; rintro e w' ⟨rfl, rfl⟩)
    · have hz : (z != n - 1) = true := by assumption
      have hTw : Tab w'.drew := fun j hj => hT.below hB hts j hj
      have hd : 1 ≤ 3 - 1 - 1 := by omega
      have hmx : Tryd.prog.follows .mixedOrders = true := by kernel_rfl
      have hownd : (w'.drew.alloc (.cells #[.int .i64 (sibI z)] 3)).ownsRow (w.heap.size + 1 + 1 + 1 + 1) 3 1 v (cf n (vals pre)).length ((cf n (vals pre)).map (Value.int .i64)) := World.ownsRow.alloc (w := w'.drew) hrow _
      obtain ⟨v', w1, hrun, hown', hgrow, _⟩ := run_append_own (P := Tryd.prog) (w'.drew.alloc (.cells #[.int .i64 (sibI z)] 3)) (w.heap.size + 1 + 1 + 1 + 1) 22 22 3 i0 (.int .i64 0) 1 8 Tryd.underlying22 hi hz0 hz1 hz2 rfl (by decide) v _ _ hownd ⟨w'.heap.size, 0, none⟩ 1 1 [.int .i64 (sibI z)] rfl (cell_one_new w'.drew _ _) (by simp [Value.oneCell']) (by omega) (by omega) (by simp; omega)
      obtain ⟨g', cap', rfl⟩ := ownsRow_succ hown'
      obtain ⟨hv1, hv2, hr2, hk2, hb2⟩ := Boxed.appended (W := w'.drew) hv (by decide) (World.ownsRow.mono (w := w'.drew) (base' := w.heap.size) hrow (by omega)) hB.size (by omega) (hown'.mono (base' := w.heap.size) (by omega)) hgrow
      have hcA := (hv.alloc (.cells #[.int .i64 (sibI z)] 3)).cell
      have hc1 := hv1.cell; have hf1 := hv1.frozen
      have e := cf_hit (n := n) (y := z) (vals pre) hz
      have sx := Boxed.stays (W := w'.drew) (v' := .slice (some ⟨g', 0, none⟩) ((cf n (vals pre)).length + 1) cap') (B := w.heap.size + 1) hbx (by omega) (by omega) hrow hgrow
      have sn := Boxed.stays (W := w'.drew) (v' := .slice (some ⟨g', 0, none⟩) ((cf n (vals pre)).length + 1) cap') (B := w.heap.size + 1) hbn (by omega) (by omega) hrow hgrow
      have hb3 : Below w.heap.size w' (w1.setCell ⟨w.heap.size + 1, 0, none⟩ (.slice (some ⟨g', 0, none⟩) ((cf n (vals pre)).length + 1) cap')) := ((Below.refl _ w').drew).trans hb2
      have hlast : (w1.setCell ⟨w.heap.size + 1, 0, none⟩ (.slice (some ⟨g', 0, none⟩) ((cf n (vals pre)).length + 1) cap')).ownsRow (w.heap.size + 1 + 1 + 1 + 1) 3 1 (.slice (some ⟨g', 0, none⟩) ((cf n (vals pre)).length + 1) cap') (cf n (vals pre ++ [z])).length ((cf n (vals pre ++ [z])).map (Value.int .i64)) := by
        rw [e]; simpa using hown'.kept (grownBy_setCell' w1 (w.heap.size + 1) _) (.inr (hv1.not_row (by decide) hown').symm)
      have hkf : KeepsFrom ((((w.alloc (.cells #[.int .i64 n] 3)).alloc (.cells #[.slice none 0 0] 22)).alloc (.cells #[.int .i64 x] 3)).alloc (.cells #[.int .i64 n] 3)).heap.size w' (w1.setCell ⟨w.heap.size + 1, 0, none⟩ (.slice (some ⟨g', 0, none⟩) ((cf n (vals pre)).length + 1) cap')) := ((KeepsOthers.drew w').trans hk2).from _
      have hnl : Value.slice (some ⟨g', 0, none⟩) ((cf n (vals pre)).length + 1) cap' = .slice none 0 0 ↔ cf n (vals pre ++ [z]) = [] := by rw [e]; simp
      refine wpIn_region_any hmx ?_
      change wpAnyIn _ _ _ _ _ _ _ _ _ (World.drew _)
      refine wpAnyIn_ready (rs := [0, 1]) (by kernel_rfl) (by simp) ?_
      refine AllReadyIn.cons rfl (fun K hK => ?_) ?_
      · go_simp
        refine hK _ _ ?_
        clear hK K
        refine wpAnyIn_ready (rs := [1]) (by kernel_rfl) (by simp) ?_
        refine AllReadyIn.cons rfl (fun K hK => ?_) ?_
        · go_simp
          refine hK _ _ ?_
          clear hK K
          refine wpAnyIn_ready (rs := [2]) (by kernel_rfl) (by simp) ?_
          refine AllReadyIn.cons rfl (fun K hK => ?_) ?_
          · go_simp
            gi_wp2_with (refine ⟨trivial, ?_⟩; gi_at_call 77; refine (CallsIn.inRound l (callsIn_wide.2 (sibling_any z hzb.1 hzb.2 hTw))).mono ?_; rintro e w2 ⟨rfl, rfl⟩)
            refine wpAnyIn_ready (rs := [3]) (by kernel_rfl) (by simp) ?_
            refine AllReadyIn.cons rfl (fun K hK => ?_) ?_
            · go_simp
              refine hK _ _ ?_
              clear hK K
              refine wpAnyIn_ready (rs := [4]) (by kernel_rfl) (by simp) ?_
              refine ready_append (s := .tmp 20) (x := .tmp 23) (t := 22) rfl rfl rfl hrun ?_ ?_
              · skip
                refine wpAnyIn_ready (rs := [5]) (by kernel_rfl) (by simp) ?_
                refine AllReadyIn.cons rfl (fun K hK => ?_) ?_
                · go_simp
                  refine hK _ _ ?_
                  clear hK K
                  refine wpAnyIn_done (by kernel_rfl) ?_ _
                  gi_wp2; exact ⟨hkf, ⟨hb3, fun _ => sn.cell⟩, ⟨_, hv2, by rw [vals_snoc]; exact hlast, by rw [vals_snoc]; exact hnl⟩, sx, sn, hB.trans hb3⟩
                exact AllReadyIn.nil
              exact AllReadyIn.nil
            exact AllReadyIn.nil
          exact AllReadyIn.nil
        exact AllReadyIn.nil
      refine AllReadyIn.cons rfl (fun K hK => ?_) ?_
      · go_simp
        refine hK _ _ ?_
        clear hK K
        refine wpAnyIn_ready (rs := [0, 2]) (by kernel_rfl) (by simp) ?_
        refine AllReadyIn.cons rfl (fun K hK => ?_) ?_
        · go_simp
          refine hK _ _ ?_
          clear hK K
          refine wpAnyIn_ready (rs := [2]) (by kernel_rfl) (by simp) ?_
          refine AllReadyIn.cons rfl (fun K hK => ?_) ?_
          · go_simp
            gi_wp2_with (refine ⟨trivial, ?_⟩; gi_at_call 77; refine (CallsIn.inRound l (callsIn_wide.2 (sibling_any z hzb.1 hzb.2 hTw))).mono ?_; rintro e w2 ⟨rfl, rfl⟩)
            refine wpAnyIn_ready (rs := [3]) (by kernel_rfl) (by simp) ?_
            refine AllReadyIn.cons rfl (fun K hK => ?_) ?_
            · go_simp
              refine hK _ _ ?_
              clear hK K
              refine wpAnyIn_ready (rs := [4]) (by kernel_rfl) (by simp) ?_
              refine ready_append (s := .tmp 20) (x := .tmp 23) (t := 22) rfl rfl rfl hrun ?_ ?_
              · skip
                refine wpAnyIn_ready (rs := [5]) (by kernel_rfl) (by simp) ?_
                refine AllReadyIn.cons rfl (fun K hK => ?_) ?_
                · go_simp
                  refine hK _ _ ?_
                  clear hK K
                  refine wpAnyIn_done (by kernel_rfl) ?_ _
                  gi_wp2; exact ⟨hkf, ⟨hb3, fun _ => sn.cell⟩, ⟨_, hv2, by rw [vals_snoc]; exact hlast, by rw [vals_snoc]; exact hnl⟩, sx, sn, hB.trans hb3⟩
                exact AllReadyIn.nil
              exact AllReadyIn.nil
            exact AllReadyIn.nil
          exact AllReadyIn.nil
        refine AllReadyIn.cons rfl (fun K hK => ?_) ?_
        · go_simp
          gi_wp2_with (refine ⟨trivial, ?_⟩; gi_at_call 77; refine (CallsIn.inRound l (callsIn_wide.2 (sibling_any z hzb.1 hzb.2 hTw))).mono ?_; rintro e w2 ⟨rfl, rfl⟩)
          refine wpAnyIn_ready (rs := [0, 3]) (by kernel_rfl) (by simp) ?_
          refine AllReadyIn.cons rfl (fun K hK => ?_) ?_
          · go_simp
            refine hK _ _ ?_
            clear hK K
            refine wpAnyIn_ready (rs := [3]) (by kernel_rfl) (by simp) ?_
            refine AllReadyIn.cons rfl (fun K hK => ?_) ?_
            · go_simp
              refine hK _ _ ?_
              clear hK K
              refine wpAnyIn_ready (rs := [4]) (by kernel_rfl) (by simp) ?_
              refine ready_append (s := .tmp 20) (x := .tmp 23) (t := 22) rfl rfl rfl hrun ?_ ?_
              · skip
                refine wpAnyIn_ready (rs := [5]) (by kernel_rfl) (by simp) ?_
                refine AllReadyIn.cons rfl (fun K hK => ?_) ?_
                · go_simp
                  refine hK _ _ ?_
                  clear hK K
                  refine wpAnyIn_done (by kernel_rfl) ?_ _
                  gi_wp2; exact ⟨hkf, ⟨hb3, fun _ => sn.cell⟩, ⟨_, hv2, by rw [vals_snoc]; exact hlast, by rw [vals_snoc]; exact hnl⟩, sx, sn, hB.trans hb3⟩
                exact AllReadyIn.nil
              exact AllReadyIn.nil
            exact AllReadyIn.nil
          refine AllReadyIn.cons rfl (fun K hK => ?_) ?_
          · go_simp
            refine hK _ _ ?_
            clear hK K
            refine wpAnyIn_ready (rs := [0]) (by kernel_rfl) (by simp) ?_
            refine AllReadyIn.cons rfl (fun K hK => ?_) ?_
            · go_simp
              refine hK _ _ ?_
              clear hK K
              refine wpAnyIn_ready (rs := [4]) (by kernel_rfl) (by simp) ?_
              refine ready_append (s := .tmp 20) (x := .tmp 23) (t := 22) rfl rfl rfl hrun ?_ ?_
              · skip
                refine wpAnyIn_ready (rs := [5]) (by kernel_rfl) (by simp) ?_
                refine AllReadyIn.cons rfl (fun K hK => ?_) ?_
                · go_simp
                  refine hK _ _ ?_
                  clear hK K
                  refine wpAnyIn_done (by kernel_rfl) ?_ _
                  gi_wp2; exact ⟨hkf, ⟨hb3, fun _ => sn.cell⟩, ⟨_, hv2, by rw [vals_snoc]; exact hlast, by rw [vals_snoc]; exact hnl⟩, sx, sn, hB.trans hb3⟩
                exact AllReadyIn.nil
              exact AllReadyIn.nil
            exact AllReadyIn.nil
          exact AllReadyIn.nil
        exact AllReadyIn.nil
      exact AllReadyIn.nil
    · have hz : (z != n - 1) = false := by assumption
      have e := cf_miss (n := n) (y := z) (vals pre) hz
      exact ⟨KeepsFrom.refl _ _, ⟨Below.refl _ _, id⟩, ⟨v, hv, by rw [vals_snoc, e]; exact hrow, by rw [vals_snoc, e]; exact hnil⟩, hbx, hbn, hB⟩
  case done =>
    rintro D ys W hD hys ⟨⟨v, hv, hrow, hnil⟩, hbx, hbn, hB⟩ hK
    rw [hys] at hrow hnil
    have hc := hv.cell
    gi_wp2
    refine ⟨by simp, .inl ⟨_, _, rfl, run_takeDeferred hK, ?_⟩⟩
    exact ⟨_, results_tmp2 rfl _ _ _, v, rfl, ⟨ownsRow_putObj (hrow.mono (by omega)) _ hK rfl, hnil⟩, hB.trans (belowK_b (w := w) (Nat.le_refl _) W D _ _ (by simp at hD; omega) hK rfl rfl)⟩
  case stop =>
    rintro D c pre W _ _ h _
    exact h.elim


theorem Copath_any (x n : Int) {w : World} (hT : Tab w) :
    Calls Tryd.prog 50 #[.int .i64 x, .int .i64 n] w fun e W' => ∃ v, e = .returned (.tuple #[v, .int .i64 (errIf (inB x n))]) ∧ Made w.heap.size W' v (listIf (inB x n) (copathI x n)) ∧ Below w.heap.size w W' := by
  cases hx : inB x n with
  | true => exact (callsIn_wide (n := 3)).1 (copath_yes x n hx hT)
  | false => exact (copath_no x n hx).mono fun e W' ⟨he, hb⟩ => ⟨_, he, ⟨World.ownsRow_nil _ _ _ _, by simp [listIf]⟩, hb⟩

end Go.Proofs.YtdnopkpoepdihaaDoor
