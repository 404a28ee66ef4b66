/-
  The path of a place: package heap's Path.
-/
import Derived.Test.YtdnopkpoepdihaaDoorHD
import Derived.Deep.Onto
namespace Go.Proofs.YtdnopkpoepdihaaDoor
open Go.RowKit Go.Shelf
set_option linter.unusedSimpArgs false
set_option linter.unusedVariables false
attribute [local go_sem] Oper.semAt_some

theorem Tryd.infoI : (Tryd.prog.info? 3).map (fun i => (i.zero, i.size, i.bytes)) = some (some (.int .i64 0), 1, 8) := by kernel_rfl

/-- A list of numbers that a call has made. -/
def Made (b : Nat) (W : World) (v : Value) (l : List Int) : Prop := W.ownsRow b 3 1 v l.length (l.map (Value.int .i64)) ∧ (v = .slice none 0 0 ↔ l = [])

def pf (x : Int) (l : List Int) : List Int := l.filter fun y => y != x
theorem pf_hit {x y : Int} (pre : List Int) (h : (y != x) = true) : pf x (pre ++ [y]) = pf x pre ++ [y] := by simp [pf, List.filter_append, h]
theorem pf_miss {x y : Int} (pre : List Int) (h : (y != x) = false) : pf x (pre ++ [y]) = pf x pre := by simp [pf, List.filter_append, h]

/-- A box below the row's base, other than the row's own, stays behind an append. -/
theorem Boxed.stays {W w1 : World} {M B b : Nat} {t' e : TypeId} {size k : Nat} {v v' u : Value} {xs : List Value} {tmp : Obj}
    (hu : Boxed W b t' u) (hb : b < M) (hne : b ≠ B) (hrow : W.ownsRow M e size v k xs) (hgrow : (W.alloc tmp).grownBy w1 v.ownBlock) :
    Boxed (w1.setCell ⟨B, 0, none⟩ v') b t' u := by
  refine Boxed.other ((hu.alloc tmp).kept hgrow (fun e' => ?_)) hne v'
  rcases hrow.2 with ⟨rfl, _⟩ | ⟨g, cap, cur, rfl, hg, _, _⟩
  · simp [Value.ownBlock] at e'
  · have : b = g := by simpa [Value.ownBlock] using e'
    omega

set_option maxRecDepth 100000 in
set_option maxHeartbeats 2000000 in
theorem path_yes (x n : Int) (hx : inB x n = true) {w : World} (hT : Tab w) :
    CallsIn Fence.wide 3 Tryd.prog 73 #[.int .i64 x, .int .i64 n] w fun e W' => ∃ v, e = .returned (.tuple #[v, .int .i64 0]) ∧ Made w.heap.size W' v (pathI x n) ∧ Below w.heap.size w W' := by
  have hts := hT.size
  obtain ⟨i0, hi, hz0, hz1, hz2⟩ := info_parts Tryd.infoI
  refine callsIn_of_wp_marks Tryd.func73 rfl trivial ?_ rfl
  simp only [Tryd.ntmps73, List.size_toArray, List.length_cons, List.length_nil, Nat.reduceAdd, Nat.reduceSub, Array.replicate_succ, Array.replicate_zero, List.push_toArray, List.append_toArray, List.nil_append, List.cons_append]
  gi_wp2_with first
    | (refine ⟨trivial, ?_⟩; gi_at_call 74; refine (callsIn_wide.2 (isPlace_any _ _ _)).mono ?_; rintro e w' ⟨rfl, rfl⟩; simp only [hx])
    | (refine ⟨trivial, ?_⟩; gi_at_call 75; refine (callsIn_wide.2 (upward_any _ _ _)).mono ?_; rintro e w' ⟨rfl, rfl⟩)
  have bX := Boxed.new w 3 (.int .i64 x)
  have bO := Boxed.new (w.alloc (.cells #[.int .i64 x] 3)) 22 (.slice none 0 0)
  have c2 := cell_new ((w.alloc (.cells #[.int .i64 x] 3)).alloc (.cells #[.slice none 0 0] 22)) (.int .i64 x) 3
  have c3 := cell_new (((w.alloc (.cells #[.int .i64 x] 3)).alloc (.cells #[.slice none 0 0] 22)).alloc (.cells #[.int .i64 x] 3)) (.int .i64 n) 3
  simp only [World.size_alloc] at bO c2 c3
  have hB0 : Below w.heap.size w ((((w.alloc (.cells #[.int .i64 x] 3)).alloc (.cells #[.slice none 0 0] 22)).alloc (.cells #[.int .i64 x] 3)).alloc (.cells #[.int .i64 n] 3)) := ((((Below.refl _ w).alloc (Nat.le_refl _) _).alloc (by simp) _).alloc (by simp; omega) _).alloc (by simp; omega) _
  refine wpIn_rangeFunc_ownG rfl (by omega) (gf := 88) (lb := #[.pointer (some ⟨w.heap.size + 1 + 1, 0, none⟩), .pointer (some ⟨w.heap.size + 1 + 1 + 1, 0, none⟩)]) rfl trivial (enters_of Tryd.func88 (by kernel_rfl) rfl)
    (up_stops 2 (by omega) (w.heap.size + 1 + 1) (w.heap.size + 1 + 1 + 1) w.heap.size x n hx hts _ (hT.below hB0 hts) (by simp) (by simp) (cell_al _ c2.1) c3.1) Kp.t (Kp.b (by simp; omega) (by simp)) (Below.refl _ _) (fun _ => rfl)
    (fun pre W => (∃ v, Boxed W (w.heap.size + 1) 22 v ∧ W.ownsRow (w.heap.size + 1 + 1 + 1 + 1) 3 1 v (pf x pre).length ((pf x pre).map (Value.int .i64)) ∧ (v = .slice none 0 0 ↔ pf x pre = [])) ∧ Boxed W w.heap.size 3 (.int .i64 x) ∧ Boxed W (w.heap.size + 1 + 1 + 1) 3 (.int .i64 n) ∧ Below w.heap.size w W)
    (fun _ _ _ => False)
    (OwnFrom.and (Own.from (holdsRow_own (w.heap.size + 1 + 1 + 1 + 1) (w.heap.size + 1) 22 3 1 (fun pre => (pf x pre).length) (fun pre => (pf x pre).map (Value.int .i64)) (fun pre v => v = .slice none 0 0 ↔ pf x pre = [])) _) (OwnFrom.and (Own.from (boxed_own _ _ (fun _ => _)) _) (OwnFrom.and (Own.from (boxed_own _ _ (fun _ => _)) _) (ownFrom_below (Nat.le_refl _) (by simp; omega)))))
    (fun _ _ _ _ _ hs _ _ => hs)
    ⟨⟨_, (bO.alloc _).alloc _, World.ownsRow_nil _ _ _ _, by simp [pf]⟩, ((bX.alloc _).alloc _).alloc _, by have := Boxed.new (((w.alloc (.cells #[.int .i64 x] 3)).alloc (.cells #[.slice none 0 0] 22)).alloc (.cells #[.int .i64 x] 3)) 3 (.int .i64 n); simpa using this, hB0⟩
    (fun z => { tmps := #[.int .i64 x, .int .i64 n, .pointer (some ⟨w.heap.size, 0, none⟩), undef, .slice none 0 0, .int .i64 0, .pointer (some ⟨w.heap.size + 1, 0, none⟩), .int .i64 z, .int .i64 x, .int .i64 n, .bool true, .bool false, .int .i64 x, .int .i64 n, .func (.func 88) #[] #[.pointer (some ⟨w.heap.size + 1 + 1, 0, none⟩), .pointer (some ⟨w.heap.size + 1 + 1 + 1, 0, none⟩)], .int .i64 z, undef, undef, undef, undef, undef, undef, undef, undef], defers := [] }) ?assign ?body ?done ?stop
  case assign =>
    intro l z W K hK
    gi_wp2
    exact hK
  case body =>
    rintro l pre z W ⟨⟨v, hv, hrow, hnil⟩, hbx, hbn, hB⟩ hlt
    have hc := hv.cell
    have hcx := hbx.cell
    have hsz : w.heap.size + 1 + 1 + 1 + 1 ≤ W.heap.size := by have := hbn.lt; omega
    have hpl : (pf x pre).length ≤ pre.length := List.length_filter_le _ _
    have hm8 : 8 ≤ maxLen := by decide
    gi_wp2_with (gi_at_builtin; refine wpListIn_append_own _ rfl _ _ 22 rfl (w.heap.size + 1 + 1 + 1 + 1) 3 i0 (.int .i64 0) 1 8 Tryd.underlying22 hi hz0 hz1 hz2 rfl (by decide) _ _ _ rfl (hrow.alloc _) ⟨W.heap.size, 0, none⟩ 1 1 [.int .i64 z] rfl rfl (cell_one_new _ _ _) (by simp [Value.oneCell']) (by omega) (by omega) (by simp; omega) ?_; intro v' w1 hown' hgrow _; obtain ⟨g', cap', rfl⟩ := ownsRow_succ hown'; obtain ⟨hv1, hv2, hr2, hk2, hb2⟩ := hv.appended (by decide) (hrow.mono (base' := w.heap.size) (by omega)) hB.size (by omega) (hown'.mono (base' := w.heap.size) (by omega)) hgrow; have hc1 := hv1.cell; have hf1 := hv1.frozen)
    · have hz : (z != x) = true := by assumption
      have sx := Boxed.stays (v' := .slice (some ⟨g', 0, none⟩) ((pf x pre).length + 1) cap') (B := w.heap.size + 1) hbx (by omega) (by omega) hrow hgrow
      have sn := Boxed.stays (v' := .slice (some ⟨g', 0, none⟩) ((pf x pre).length + 1) cap') (B := w.heap.size + 1) hbn (by omega) (by omega) hrow hgrow
      exact ⟨hk2.from _, ⟨hb2, fun _ => sn.cell⟩, ⟨_, hv2, by rw [pf_hit pre hz]; simpa using hown'.kept (grownBy_setCell' w1 (w.heap.size + 1) _) (.inr (hv1.not_row (by decide) hown').symm), by rw [pf_hit pre hz]; simp⟩, sx, sn, hB.trans hb2⟩
    · have hz : (z != x) = false := by assumption
      exact ⟨KeepsFrom.refl _ _, ⟨Below.refl _ _, id⟩, ⟨v, hv, by rw [pf_miss pre hz]; exact hrow, by rw [pf_miss pre hz]; exact hnil⟩, hbx, hbn, hB⟩
  case done =>
    rintro D ys W hD rfl ⟨⟨v, hv, hrow, hnil⟩, hbx, hbn, hB⟩ hK
    have hc := hv.cell
    gi_wp2
    refine ⟨by simp, .inl ⟨_, _, rfl, run_takeDeferred hK, ?_⟩⟩
    exact ⟨_, results_tmp2 rfl _ _ _, v, rfl, ⟨ownsRow_putObj (hrow.mono (by omega)) _ hK rfl, hnil⟩, hB.trans (belowK_b (w := w) (Nat.le_refl _) W D _ _ (by simp at hD; omega) hK rfl rfl)⟩
  case stop =>
    rintro D c pre W _ _ h _
    exact h.elim

set_option maxHeartbeats 1000000 in
theorem path_no (x n : Int) (hx : inB x n = false) {w : World} :
    Calls Tryd.prog 73 #[.int .i64 x, .int .i64 n] w fun e W' => e = .returned (.tuple #[.slice none 0 0, .int .i64 30]) ∧ Below w.heap.size w W' := by
  go_enter Tryd.func73, Tryd.ntmps73
  go_wp2_with (go_at_call 74; refine (isPlace_any _ _ _).mono ?_; rintro e w' ⟨rfl, rfl⟩; simp only [hx])
  go_ret2
  exact ⟨rfl, (Below.refl _ w).alloc (Nat.le_refl _) _⟩

set_option maxHeartbeats 1000000 in
theorem copath_no (x n : Int) (hx : inB x n = false) {w : World} :
    Calls Tryd.prog 50 #[.int .i64 x, .int .i64 n] w fun e W' => e = .returned (.tuple #[.slice none 0 0, .int .i64 30]) ∧ Below w.heap.size w W' := by
  go_enter Tryd.func50, Tryd.ntmps50
  go_wp2_with (go_at_call 74; refine (isPlace_any _ _ _).mono ?_; rintro e w' ⟨rfl, rfl⟩; simp only [hx])
  go_ret2
  exact ⟨rfl, (Below.refl _ w).alloc (Nat.le_refl _) _⟩

def listIf (b : Bool) (l : List Int) : List Int := if b then l else []

theorem Path_any (x n : Int) {w : World} (hT : Tab w) :
    Calls Tryd.prog 73 #[.int .i64 x, .int .i64 n] w fun e W' => ∃ v, e = .returned (.tuple #[v, .int .i64 (errIf (inB x n))]) ∧ Made w.heap.size W' v (listIf (inB x n) (pathI x n)) ∧ Below w.heap.size w W' := by
  cases hx : inB x n with
  | true => exact (callsIn_wide (n := 3)).1 (path_yes x n hx hT)
  | false => exact (path_no x n hx).mono fun e W' ⟨he, hb⟩ => ⟨_, he, ⟨World.ownsRow_nil _ _ _ _, by simp [listIf]⟩, hb⟩

end Go.Proofs.YtdnopkpoepdihaaDoor
