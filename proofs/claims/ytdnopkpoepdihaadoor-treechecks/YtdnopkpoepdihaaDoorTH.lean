/-
  Blank vertices put behind a tree.
-/
import Derived.Test.YtdnopkpoepdihaaDoorTG
namespace Go.Proofs.YtdnopkpoepdihaaDoor
open Go.RowKit
set_option linter.unusedSimpArgs false
set_option linter.unusedVariables false

def zeroV : Value := .agg #[.bool false, .int .i64 0, .int .i64 0, .int .i64 0, .int .i64 0, .slice none 0 0]
def nilV : Value := .slice none 0 0
theorem zeroV_cells : zeroV.cells = (vcells PV.blank nilV).toArray := rfl

theorem zeroV_eq (k : Nat) : (Builtin.zeroCells zeroV.cells k).toList = flatV (List.replicate k PV.blank) (List.replicate k nilV) := by
  apply List.ext_getElem?
  intro j
  have hz : zeroV.cells.size = 6 := rfl
  by_cases hj : j < k * 6
  · have hx : j / 6 < k := by omega
    have h1 := flatV_get PV.blank nilV (List.replicate k PV.blank) (List.replicate k nilV) (j / 6) (by simp [hx]) (by simp [hx]) (j % 6) (by omega)
    rw [show j / 6 * 6 + j % 6 = j by omega] at h1
    rw [h1]
    have hr : j % 6 < 6 := by omega
    have h2 : (Builtin.zeroCells zeroV.cells k).toList[j]? = some (zeroV.cells[j % 6]!) := by
      simp [Builtin.zeroCells, hz, hj]
    rw [h2]
    generalize j % 6 = r at *
    match r, hr with
    | 0, _ => rfl
    | 1, _ => rfl
    | 2, _ => rfl
    | 3, _ => rfl
    | 4, _ => rfl
    | 5, _ => rfl
  · have h1 : (Builtin.zeroCells zeroV.cells k).toList.length = k * 6 := by simp [Builtin.zeroCells, hz]
    have h2 := flatV_len (List.replicate k PV.blank) (List.replicate k nilV) (by simp)
    rw [List.getElem?_eq_none (by omega), List.getElem?_eq_none (by rw [h2]; simp; omega)]

theorem run_append_roomV (w : World) (ty : TypeId) (g n cap k : Nat) (h0 : 0 < k) (hk : k ≤ 4096) (hroom : n + k ≤ cap) (hc : ∀ j, j < k * 6 → (w.cell? ⟨g, n * 6 + j, none⟩).isSome = true) (hf : ∀ j, w.frozen? ⟨g, n * 6 + j, none⟩ = false) :
    (Builtin.append_ #[27, 3] ty #[.slice (some ⟨g, 0, none⟩) n cap, .int .i64 k]).run Tryd.prog w = .ok (.slice (some ⟨g, 0, none⟩) (n + k) cap) (w.setCells g (n * 6) (flatV (List.replicate k PV.blank) (List.replicate k nilV))) := by
  obtain ⟨i0, hi, hz0, hz1, hz2⟩ := info_parts Tryd.infoV
  have hlen := flatV_len (List.replicate k PV.blank) (List.replicate k nilV) (by simp)
  have hone := flatV_one (List.replicate k PV.blank) (List.replicate k nilV) (fun h hh => by obtain ⟨_, rfl⟩ := List.mem_replicate.1 hh; rfl)
  have hst := run_storeCells_cells (P := Tryd.prog) g (n * 6) (flatV (List.replicate k PV.blank) (List.replicate k nilV)) 0 w (fun j hj => by rw [hlen] at hj; simp at hj; simpa using hc j hj) (fun j hj => by simpa using hf j) hone
  have hzz : (Builtin.zeroCells (Value.agg #[.bool false, .int .i64 0, .int .i64 0, .int .i64 0, .int .i64 0, .slice none 0 0]).cells k).toList = flatV (List.replicate k PV.blank) (List.replicate k nilV) := zeroV_eq k
  have hw : IntKind.i64.wrap (k : Int) = k := by rw [IntKind.wrap_i64]; omega
  have hneg : ¬ ((k : Int) < 0) := by omega
  have hns : ¬ (k = 0) := by omega
  have h48i : ¬ (281474976710656 < (k : Int) * 64) := by omega
  simp only [Nat.add_zero] at hst
  simp [Builtin.append_, run_underlying Tryd.underlying27, run_underlying Tryd.underlying3, sizeOf, typeInfo, zeroValue, hi, hz0, hz1, hz2, asInt, asIntOf, hw, hneg, hns, h48i, hroom, Addr.add_lit, hzz, hst]
  intro h; omega

theorem OwnT.appZ {B : Nat} {w : World} {g cap : Nat} {t : Tree} {hs : List Value} (h : OwnT B w (.slice (some ⟨g, 0, none⟩) t.length cap) t hs t.length) (hB : B ≤ w.heap.size) (hl : t.length ≤ 63) (k : Nat) (h0 : 0 < k) (hk : k ≤ 4096) (ty : TypeId) :
    ∃ v' w', (Builtin.append_ #[27, 3] ty #[.slice (some ⟨g, 0, none⟩) t.length cap, .int .i64 k]).run Tryd.prog w = .ok v' w' ∧ OwnT B w' v' (t ++ List.replicate k PV.blank) (hs ++ List.replicate k nilV) (t.length + k) ∧ w.grownBy w' (some g) := by
  obtain ⟨i0, hi, hz0, hz1, hz2⟩ := info_parts Tryd.infoV
  obtain ⟨cur, ht, hnc, hcm, hcl, hfull⟩ := row_full h.row
  have hfl := flatV_len t hs h.len
  have hgw : g < w.heap.size := by
    rcases h.row.2 with ⟨e, _⟩ | ⟨g', cap', cur, e, _, hgg, _⟩
    · cases e
    · cases e; exact (Array.getElem?_eq_some_iff.1 hgg).1
  have lts : ∀ (x : Nat) (a : Value) (b : Nat), hs[x]? = some a → a.ownBlock = some b → b < w.heap.size := fun x a b ha hb => by
    have hx : x < t.length := by rw [← h.len]; exact (List.getElem?_eq_some_iff.1 ha).1
    exact ((h.late x _ a hx (vx_some hx) ha).lt b hb).2
  -- what a new or longer row gives
  have fin : ∀ (v' : Value) (w' : World), w'.ownsRow B 24 6 v' (t.length + k) (flatV t hs ++ flatV (List.replicate k PV.blank) (List.replicate k nilV)) → w.grownBy w' (some g) → (v'.ownBlock = some g ∨ v'.ownBlock = some w.heap.size) → OwnT B w' v' (t ++ List.replicate k PV.blank) (hs ++ List.replicate k nilV) (t.length + k) := by
    intro v' w' hr hg hv
    have split : ∀ (x : Nat) (a : Value) (b : Nat), (hs ++ List.replicate k nilV)[x]? = some a → a.ownBlock = some b → x < t.length ∧ hs[x]? = some a := by
      intro x a b ha hb
      by_cases hx : x < t.length
      · exact ⟨hx, by rwa [List.getElem?_append_left (by rw [h.len]; exact hx)] at ha⟩
      · exfalso
        rw [List.getElem?_append_right (by rw [h.len]; omega)] at ha
        obtain ⟨_, rfl⟩ := List.mem_replicate.1 (List.mem_of_getElem? ha)
        simp [nilV, Value.ownBlock] at hb
    refine ⟨by simp [h.len], by simpa [flatV_append t hs _ _ h.len] using hr, fun x u a hx hu ha => ?_, fun x a b hx ha hb => ?_⟩
    · by_cases hxl : x < t.length
      · rw [List.getElem?_append_left hxl] at hu
        rw [List.getElem?_append_left (by rw [h.len]; exact hxl)] at ha
        refine (h.late x u a hxl hu ha).kept hg ?_
        cases hao : a.ownBlock with
        | none => exact .inl rfl
        | some b => exact .inr (fun e => (h.apart x a b hxl ha hao).1 (by cases e; rfl))
      · rw [List.getElem?_append_right (by omega)] at hu
        rw [List.getElem?_append_right (by rw [h.len]; omega)] at ha
        obtain ⟨_, rfl⟩ := List.mem_replicate.1 (List.mem_of_getElem? hu)
        obtain ⟨_, rfl⟩ := List.mem_replicate.1 (List.mem_of_getElem? ha)
        exact World.ownsRow_nil _ _ _ _
    · obtain ⟨hxl, ha'⟩ := split x a b ha hb
      obtain ⟨p1, p2⟩ := h.apart x a b hxl ha' hb
      refine ⟨?_, fun y a2 hy hyx ha2 e => ?_⟩
      · rcases hv with hv | hv
        · rw [hv]; exact p1
        · rw [hv]
          have := lts x a b ha' hb
          simp; omega
      · obtain ⟨hyl, ha2'⟩ := split y a2 b ha2 e
        exact p2 y a2 hyl hyx ha2' e
  by_cases hroom : t.length + k ≤ cap
  · obtain ⟨r1, r2⟩ := stored_all (w := w) (flatV (List.replicate k PV.blank) (List.replicate k nilV)) (t.length * 6) w _ hfull
    have hzl := flatV_len (List.replicate k PV.blank) (List.replicate k nilV) (by simp)
    simp only [List.length_replicate] at hzl
    have e1 := setAll_take (flatV (List.replicate k PV.blank) (List.replicate k nilV)) cur (t.length * 6) (by rw [hzl, hcl]; omega)
    have r3 := row_cut r1 (t.length + k) hroom
    rw [hzl, show t.length * 6 + k * 6 = (t.length + k) * 6 by omega] at e1
    rw [e1, ht] at r3
    refine ⟨_, _, run_append_roomV w ty g t.length cap k h0 hk hroom (fun j hj => ?_) (fun j => h.row.frozenAt _), fin _ _ r3 r2 (.inl rfl), r2⟩
    rw [hfull.cellAt _ (by omega), List.getElem?_eq_getElem (by omega)]
    rfl
  · have hold : (Builtin.firstCells i0.size t.length (.slice (some ⟨g, 0, none⟩) t.length cap)).run Tryd.prog w.drew = .ok (flatV t hs).toArray w.drew := by
      rw [hz1]
      exact run_firstCells_some w.drew 6 t.length ⟨g, 0, none⟩ t.length cap (flatV t hs) (by rw [hfl]) (fun j v hj => by
        have hjl := (List.getElem?_eq_some_iff.1 hj).1
        rw [show (⟨g, 0, none⟩ : Addr).add j = ⟨g, j, none⟩ by unfold Addr.add; split <;> simp_all]
        have := h.row.cellAt j (by rw [← hfl]; exact hjl)
        exact this.trans hj)
    have hrun := Lib.run_append_grow_zeros (P := Tryd.prog) w 27 3 ty 24 i0 zeroV .i64 .i64 Tryd.underlying27 Tryd.underlying3 hi hz0 (some ⟨g, 0, none⟩) t.length cap (flatV t hs) hold k h0 (by omega) (by omega) (by omega) (by rw [hz2]; omega) (by rw [hz2]; exact growslice_fits (by omega) (by omega))
    have hge := grownCap_ge w (t.length + k) cap 24
    have hle := grownCap_le_maxLen w (t.length + k) cap 24 (by unfold maxLen; omega)
    obtain ⟨G, hG⟩ : ∃ G, grownCap w (t.length + k) cap 24 = G := ⟨_, rfl⟩
    rw [hG] at hrun hge hle
    have hzl := flatV_len (List.replicate k PV.blank) (List.replicate k nilV) (by simp)
    simp only [List.length_replicate] at hzl
    have hgn := grown_new w (.cells ((flatV t hs).toArray ++ Builtin.zeroCells zeroV.cells k ++ Builtin.zeroCells zeroV.cells (G - (t.length + k))) 24) (some g)
    refine ⟨_, _, hrun, fin _ _ ?_ hgn (.inr rfl), hgn⟩
    have hez : Builtin.zeroCells zeroV.cells k = (flatV (List.replicate k PV.blank) (List.replicate k nilV)).toArray := by rw [← zeroV_eq]
    have hea : ∀ a b : List Value, a.toArray ++ b.toArray = (a ++ b).toArray := fun a b => by simp
    rw [hez, hea (flatV t hs) (flatV (List.replicate k PV.blank) (List.replicate k nilV))]
    exact row_new w.drew (size := 6) hB (flatV t hs ++ flatV (List.replicate k PV.blank) (List.replicate k nilV)) (Builtin.zeroCells zeroV.cells (G - (t.length + k))) (t.length + k) G (by rw [List.length_append, hfl, hzl]; omega) (by simp [Builtin.zeroCells, zeroV, Value.cells]) hge hle

end Go.Proofs.YtdnopkpoepdihaaDoor
