/-
  A leaf added: the walk of package tree's Add.
-/
import Derived.Test.YtdnopkpoepdihaaDoorTI
namespace Go.Proofs.YtdnopkpoepdihaaDoor
open Go.RowKit
set_option linter.unusedSimpArgs false
set_option linter.unusedVariables false

theorem room_sh {t : Tree} (hs : Sh t) (hr : ¬ (least t = lv t ∧ lv t = 32)) : Sh (room t) ∧ least t < lv (room t) ∧ (least t = lv t → lv (room t) = 2 * lv t) ∧ (least t ≠ lv t → room t = t) := by
  have hb := hs.bounds
  have hl := (least_spec t).1
  unfold room
  by_cases h : least t = lv t
  · rw [if_pos h]
    have e1 : (dbl t).length = t.length + 2 * lv t := by simp [dbl]
    have e2 : lv (dbl t) = 2 * lv t := by
      have : lv (dbl t) = ((dbl t).length + 1) / 2 := rfl
      rw [this, e1]; omega
    refine ⟨⟨?_, ?_⟩, by omega, fun _ => e2, fun h2 => absurd h h2⟩
    · rw [e2]
      have hr1 := hs.1
      simp [rightB] at hr1 ⊢
      omega
    · rw [e1, e2]; omega
  · rw [if_neg h]
    exact ⟨hs, by omega, fun h2 => absurd h2 h, fun _ => rfl⟩

def leafCells (u : PV) (h : Value) : Array Value := #[.bool u.full, .int .i64 u.key, .int .i64 u.client, .int .i64 u.sig, .int .i64 u.hash, h]

set_option maxRecDepth 100000 in
set_option maxHeartbeats 4000000 in
theorem add_yes {t : Tree} (hf : Fit t) {v : Value} {w : World} (ht : TreeAt w v t) (hT : Tab w) (u : PV) (h : Value) (hr : ¬ (least t = lv t ∧ lv t = 32)) :
    Calls Tryd.prog 33 #[v, u.val h] w fun e w' => ∃ v' hs, e = .returned (.tuple #[v', .int .i64 (least t), .int .i64 0]) ∧ OwnT w.heap.size w' v' (addF t u) hs (addF t u).length ∧ Below w.heap.size w w' := by
  have hs := hf.sh
  have hbd := hs.bounds
  obtain ⟨hsr, hll, hdb, hsm⟩ := room_sh hs hr
  have hls := (least_spec t).1
  have hfl : ∀ W, Calls Tryd.prog 41 #[u.val h] W fun e w' => e = .returned ((leafV u).val (.slice none 0 0)) ∧ Below W.heap.size W w' := fun W => fullLeaf_any u h W
  unfold PV.val at *
  obtain ⟨va, vcap, rfl, _⟩ := id ht
  obtain ⟨w0, hw0⟩ : ∃ w0, w.alloc (.cells (leafCells u h) 24) = w0 := ⟨_, rfl⟩
  have b0 : Below w.heap.size w w0 := by rw [← hw0]; exact (Below.refl _ _).alloc (Nat.le_refl _) _
  have ht0 := ht.below b0
  have hT0 := hT.below b0 hT.size
  have q0 : w0.heap[w.heap.size]? = some (.cells (leafCells u h) 24) := by rw [← hw0]; exact heap_alloc_new w _
  have hsz0 : w.heap.size < w0.heap.size := by rw [← hw0]; simp
  unfold leafCells at hw0
  go_enter Tryd.func33, Tryd.ntmps33
  go_wp2_with (rw [hw0])
  refine (Leaves_sh ht0 hs).mono ?_
  rintro e w' ⟨rfl, hw⟩
  obtain rfl := hw.symm
  go_wp2_with fail
  refine (leastBlank_any ht0 hs).mono ?_
  rintro e w1 ⟨rfl, b1⟩
  have ht1 := ht0.below b1
  go_wp2_with fail
  refine (copied_any ht1 (by omega) (by omega) (fun x u hx => by have := (hf.small x u hx).1; omega)).mono ?_
  rintro e w2 ⟨v2, hs2, rfl, o2, b2⟩
  have b12 := on b1 b2
  have o2' := o2.mono b1.size
  have hll63 : lv (room t) ≤ 32 := hsr.bounds.2.1
  obtain ⟨g2, cap2, rfl, hg2B, hg2l⟩ := o2'.form (by omega)
  clear o2 b1 b2
  go_upto_if 20 with fail
  go_cut [7, 9] (fun a b wx => a = .int .i64 (lv (room t)) ∧ ∃ hs3, OwnT w0.heap.size wx b (room t) hs3 (room t).length ∧ Below w0.heap.size w0 wx)
  case first =>
    by_cases hle : least t = lv t
    · have hr2 : rightB (lv t * 2) = true := by
        have h1 := hsr.1
        rw [hdb hle] at h1
        rw [show ((lv t : Int) * 2) = ((2 * lv t : Nat) : Int) by omega]
        exact h1
      have e1 : ((least t : Int) == (lv t : Int)) = true := by simp [hle]
      obtain ⟨v3, w3, hrun, o3, g3⟩ := o2'.appZ (Nat.le_trans (by omega) b12.size) (by omega) (2 * lv t) (by omega) (by omega) 27
      have b3 := b12.grown g3 b12.size (fun k hk => by cases hk; exact hg2B)
      have hroom : room t = t ++ List.replicate (2 * lv t) PV.blank := by simp [room, hle, dbl]
      have o3' : OwnT w0.heap.size w3 v3 (room t) (hs2 ++ List.replicate (2 * lv t) nilV) (room t).length := by rw [hroom]; simpa using o3
      have hlv := hdb hle
      have Hle : Hid (least t = lv t) := hle
      clear hle
      have ek : (((2 * lv t : Nat)) : Int) = 2 * ((lv t : Int) * 2) - 1 - (t.length : Int) := by omega
      rw [ek] at hrun
      go_wp2_with first
        | (go_at_call 47; refine (right_any _ _).mono ?_; rintro e w' ⟨rfl, hw⟩; obtain rfl := hw.symm; rw [hr2])
        | (refine Lib.wpList_append_run _ rfl (.tmp 26) (.tmp 32) 27 3 rfl (.slice (some ⟨g2, 0, none⟩) t.length cap2) (.int .i64 (2 * ((lv t : Int) * 2) - 1 - (t.length : Int))) rfl rfl v3 w3 hrun ?_)
      go_meet
      exact ⟨by rw [hlv]; go_num, _, o3', b3⟩
    · have hrm := hsm hle
      have e1 : ((least t : Int) == (lv t : Int)) = false := by simp; omega
      go_wp2_with fail
      go_meet
      exact ⟨by rw [hrm], hs2, by rw [hrm]; exact o2', b12⟩
  case rest =>
  obtain ⟨rfl, hs3, o3, b3⟩ := hcut
  obtain ⟨g3, cap3, rfl, hg3B, hg3l⟩ := o3.form (by have := hsr.bounds; omega)
  have hlr := hsr.bounds
  have hlt3 : 2 * least t < (room t).length := by omega
  have i1 : 2 * (least t : Int) < ((room t).length : Int) := by omega
  have i2 : (least t : Int) ≤ 32 := by omega
  have q3 : wc.heap[w.heap.size]? = some (.cells (leafCells u h) 24) := (b3.block _ hsz0).trans q0
  unfold leafCells at q3
  have bc : ∀ j, wc.cell? ⟨w.heap.size, j, none⟩ = #[.bool u.full, .int .i64 u.key, .int .i64 u.client, .int .i64 u.sig, .int .i64 u.hash, h][j]? := fun j => by simp [World.cell?, q3]
  have bc0 := bc 0
  have bc1 := bc 1
  have bc2 := bc 2
  have bc3 := bc 3
  have bc4 := bc 4
  have bc5 := bc 5
  simp at bc0 bc1 bc2 bc3 bc4 bc5
  clear bc o2' b12
  go_wp2_with fail
  refine (hfl wc).mono ?_
  rintro e w4 ⟨rfl, b4⟩
  have o4 := o3.below (Nat.le_refl _) b4
  have b34 := b3.trans (b4.mono b3.size)
  obtain ⟨o5, g5⟩ := o4.setV hlt3 (leafV u) rfl
  clear o3 bc0 bc1 bc2 bc3 bc4 bc5 q3
  obtain ⟨hd4, hhd4⟩ := o4.head hlt3
  obtain ⟨d0, d1, d2, d3, d4, d5⟩ := o4.vat (vx_some hlt3) hhd4
  have fz : ∀ j, w4.frozen? ⟨g3, j, none⟩ = false := fun j => o4.row.frozenAt j
  obtain ⟨w5, hw5⟩ : ∃ w5, w4.setCells g3 (2 * least t * 6) (vcells (leafV u) (.slice none 0 0)) = w5 := ⟨_, rfl⟩
  rw [hw5] at o5 g5
  simp only [World.setCells, vcells] at hw5
  have b5 : Below w0.heap.size w0 w5 := b34.grown g5 b34.size (fun k hk => by cases hk; exact hg3B)
  have hT5 : Tab w5 := hT0.below b5 hT0.size
  have hlf : leafB (least t) (lv (room t)) = true := by simp [leafB, hsr.1]; omega
  go_wp2_with (rw [hw5])
  refine (pathOf_any _ _ hlf hT5).mono ?_
  rintro e w6 ⟨v6, rfl, m6, b6⟩
  have hin := leafB_in hlf
  have hpl := path_len (2 * (least t : Int)) (lv (room t))
  have o6 := o5.below (by simp) b6
  obtain ⟨P, hP⟩ : ∃ P, pathI (2 * (least t : Int)) (lv (room t)) = P := ⟨_, rfl⟩
  have Hpa : ∀ (j : Nat) (y : Int), P[j]? = some y → inB y (lv (room t)) = true ∧ y ≠ 2 * (least t : Int) ∧ (P.take j).contains y = false := fun j y hy => by
    have := path_at hin (by rw [hP]; exact hy)
    rwa [hP] at this
  have Hend : Hid (addJ (room t) (least t) u P = addF t u) := by rw [← hP]; exact addJ_end hs u hsr
  have Hz : Hid (addJ (room t) (least t) u [] = (room t).set (2 * least t) (leafV u)) := addJ_zero (room t) (least t) u hlt3
  have Hsm : ∀ (x : Nat) (a : PV), (room t)[x]? = some a → a.late.length ≤ 32 ∧ a.late.Pairwise (· < ·) := by
    intro x a hx
    by_cases hle : least t = lv t
    · have e : room t = t ++ List.replicate (2 * lv t) PV.blank := by simp [room, hle, dbl]
      rw [e] at hx
      by_cases hxt : x < t.length
      · rw [List.getElem?_append_left hxt] at hx
        have := hf.small x a hx
        exact ⟨this.1, this.2.1⟩
      · rw [List.getElem?_append_right (by omega)] at hx
        obtain ⟨_, rfl⟩ := List.mem_replicate.1 (List.mem_of_getElem? hx)
        simp [PV.blank]
    · rw [hsm hle] at hx
      have := hf.small x a hx
      exact ⟨this.1, this.2.1⟩
  rw [hP] at m6 hpl
  have hc6 : ∃ a6 cap6, v6 = .slice a6 P.length cap6 ∧ (P ≠ [] → ∃ b, a6 = some ⟨b, 0, none⟩ ∧ w5.heap.size ≤ b ∧ b < w6.heap.size ∧ ∀ (i : Nat) (x : Int), P[i]? = some x → w6.cell? ⟨b, i, none⟩ = some (.int .i64 x)) := by
    rcases m6.2 with ⟨rfl, hn0⟩ | ⟨b, cap, cur, rfl, hbb, hgg, _⟩
    · exact ⟨none, 0, by rw [hn0], fun hne => absurd (List.eq_nil_of_length_eq_zero hn0) hne⟩
    · refine ⟨_, cap, rfl, fun _ => ⟨b, rfl, hbb, (Array.getElem?_eq_some_iff.1 hgg).1, fun i x hx => ?_⟩⟩
      have hil := (List.getElem?_eq_some_iff.1 hx).1
      rw [World.ownsRow.cellAt m6 i (by omega)]
      simp [hx]
  obtain ⟨a6, cap6, rfl, hc6⟩ := hc6
  have lt5 : ∀ (x : Nat) (a : Value) (k : Nat), (hs3.set (2 * least t) (.slice none 0 0))[x]? = some a → a.ownBlock = some k → k < w5.heap.size := fun x a k ha hk => by
    have hx : x < (room t).length := by
      have h1 := (List.getElem?_eq_some_iff.1 ha).1
      have h2 := o5.len
      simp at h1 h2
      omega
    have hx2 : x < ((room t).set (2 * least t) (leafV u)).length := by simpa using hx
    exact ((o5.late x _ a hx (vx_some hx2) ha).lt k hk).2
  have g3w5 : g3 < w5.heap.size := Nat.lt_of_lt_of_le hg3l (Nat.le_trans b4.size g5.size)
  clear hP m6 o5 o4 hw5 hfl d0 d1 d2 d3 d4 d5 fz
  have hlen7 : (P.length : Int) ≤ 7 := by omega
  have b56 := on b5 b6
  rw [← Hz.out] at o6
  go_wp2_with fail
  go_loopw [44] (fun k wr => ∃ (j : Nat) (hsj : List Value), j ≤ P.length ∧ k = .int .i64 j ∧ OwnT w0.heap.size wr (.slice (some ⟨g3, 0, none⟩) (room t).length cap3) (addJ (room t) (least t) u (P.take j)) hsj (room t).length ∧ Below w0.heap.size w0 wr ∧ w6.heap.size ≤ wr.heap.size ∧ (∀ b, w5.heap.size ≤ b → b < w6.heap.size → wr.heap[b]? = w6.heap[b]?) ∧ (∀ (x : Nat) (a : Value) (k : Nat), hsj[x]? = some a → a.ownBlock = some k → k < w5.heap.size ∨ w6.heap.size ≤ k)) (fun k _ => P.length - (intOf k).toNat)
  case atStart => exact ⟨0, _, Nat.zero_le _, rfl, o6, b56, Nat.le_refl _, fun _ _ _ => rfl, fun x a k ha hk => .inl (lt5 x a k ha hk)⟩
  case round =>
    obtain ⟨j, hsj, hj, rfl, oj, hB, hS, hM, hL⟩ := hrel
    have hsz := hB.size
    by_cases hlt : j < P.length
    · obtain ⟨y, hy⟩ : ∃ y, P[j]? = some y := ⟨P[j]'hlt, by simp⟩
      obtain ⟨bP, rfl, hb1, hb2, hcP⟩ := hc6 (by rintro rfl; simp at hlt)
      obtain ⟨p1, p2, p3⟩ := Hpa j y hy
      obtain ⟨Y, rfl, hY⟩ := in_place hsr p1
      have hget := vx_some (t := room t) hY
      have hjt := addJ_at (leaf := u) hget p2 p3
      have hstep := addJ_step (leaf := u) hget p2 p3
      have htk : P.take (j + 1) = P.take j ++ [(Y : Int)] := by rw [List.take_add_one, hy]; rfl
      rw [← htk] at hstep
      have hYl : Y < (addJ (room t) (least t) u (P.take j)).length := by rw [addJ_len]; exact hY
      have oj' : OwnT w0.heap.size wr (.slice (some ⟨g3, 0, none⟩) (addJ (room t) (least t) u (P.take j)).length cap3) (addJ (room t) (least t) u (P.take j)) hsj (addJ (room t) (least t) u (P.take j)).length := by rw [addJ_len]; exact oj
      obtain ⟨a, ha⟩ := oj'.head hYl
      obtain ⟨d0, _, _, _, _, d5⟩ := oj'.vat hjt ha
      have cP : wr.cell? ⟨bP, j, none⟩ = some (.int .i64 (Y : Int)) := (World.cell?_of_block (a := ⟨bP, j, none⟩) (hM bP hb1 hb2)).trans (hcP j _ hy)
      have i3 : (j : Int) < (P.length : Int) := by omega
      have i4 : (Y : Int) < ((room t).length : Int) := by omega
      have hol := oj'.late Y _ a hYl hjt ha
      obtain ⟨s1, s2⟩ := Hsm Y _ hget
      clear hc6 hcP Hpa Hsm hy
      cases hfu : (vx (room t) Y).full with
      | false =>
        rw [hfu] at d0 hstep
        have Ho : Hid (OwnT w0.heap.size wr (.slice (some ⟨g3, 0, none⟩) (room t).length cap3) (addJ (room t) (least t) u (P.take (j + 1))) hsj (room t).length) := by rw [hstep]; exact oj
        clear oj oj' hstep htk hjt hget
        go_wp2_with fail
        go_roundw
        case rel => exact ⟨j + 1, hsj, by omega, by go_num, Ho.out, hB, hS, hM, hL⟩
        case measure => simp [intOf]; omega
      | true =>
        rw [if_pos hfu] at hstep
        rw [hfu] at d0
        go_wp2_with fail
        refine (withNumber_any hol hsz (by omega) s2 (least t)).mono ?_
        rintro e w7 ⟨v7, rfl, o7, g7, l7⟩
        have hil : (ins (least t) (vx (room t) Y).late).length ≤ 33 := by
          have : ∀ (i : Int) (l : List Int), (ins i l).length = l.length + 1 := by
            intro i l
            induction l with
            | nil => rfl
            | cons k r ih => unfold ins; split <;> simp [ih]
          rw [this]; omega
        obtain ⟨qa, qc, hv7, _⟩ := ownsRow_ints o7 (by omega)
        subst hv7
        obtain ⟨r1, r2⟩ := oj'.setL (Nat.le_refl _) hYl ha hjt (ins (least t) (vx (room t) Y).late) (w1 := w7) (by rw [if_pos hYl]; exact g7) o7 (by rcases l7 with h | h; exact .inl ⟨hYl, h⟩; exact .inr (.inr h)) _ (.inl rfl) hYl
        rw [show (addJ (room t) (least t) u (P.take j)).set Y { (vx (room t) Y) with late := ins (least t) (vx (room t) Y).late } = addJ (room t) (least t) u (P.take (j + 1)) from hstep.symm, addJ_len] at r1
        have B7 := hB.grown g7 hsz (fun k hk => (hol.lt k hk).1)
        have B8 : Below w0.heap.size w0 (w7.setCell ⟨g3, Y * 6 + 5, none⟩ (.slice qa (ins (least t) (vx (room t) Y).late).length qc)) := B7.setCell (p := ⟨g3, Y * 6 + 5, none⟩) hg3B _
        have hgr : g3 < wr.heap.size := by omega
        have hgne : some g3 ≠ a.ownBlock := fun e => (oj'.apart Y a g3 hYl ha e.symm).1 rfl
        have cg : w7.cell? ⟨g3, Y * 6 + 5, none⟩ = some a := g7.cell d5 hgne
        have fz : w7.frozen? ⟨g3, Y * 6 + 5, none⟩ = false := (World.frozen?_of_block (g7.block g3 hgr hgne)).trans (oj'.row.frozenAt _)
        have S8 : w6.heap.size ≤ (w7.setCell ⟨g3, Y * 6 + 5, none⟩ (.slice qa (ins (least t) (vx (room t) Y).late).length qc)).heap.size := Nat.le_trans hS (Nat.le_trans g7.size r2.size)
        have M8 : ∀ b, w5.heap.size ≤ b → b < w6.heap.size → (w7.setCell ⟨g3, Y * 6 + 5, none⟩ (.slice qa (ins (least t) (vx (room t) Y).late).length qc)).heap[b]? = w6.heap[b]? := fun b h1 h2 => by
          refine (r2.block b (by have := g7.size; omega) (by simp; omega)).trans ((g7.block b (by omega) (fun e => ?_)).trans (hM b h1 h2))
          have := hL Y a b ha e.symm
          omega
        have L8 : ∀ (x : Nat) (a' : Value) (k : Nat), (hsj.set Y (.slice qa (ins (least t) (vx (room t) Y).late).length qc))[x]? = some a' → a'.ownBlock = some k → k < w5.heap.size ∨ w6.heap.size ≤ k := fun x a' k ha' hk => by
          by_cases hx : x = Y
          · subst hx
            rw [List.getElem?_set_self (List.getElem?_eq_some_iff.1 ha).1] at ha'
            cases ha'
            rcases l7 with h | ⟨N, h, hN⟩
            · exact hL x a k ha (h ▸ hk)
            · rw [h] at hk
              cases hk
              exact .inr (by omega)
          · rw [List.getElem?_set_ne (by omega)] at ha'
            exact hL x a' k ha' hk
        have HO : Hid (OwnT w0.heap.size (w7.setCell ⟨g3, Y * 6 + 5, none⟩ (.slice qa (ins (least t) (vx (room t) Y).late).length qc)) (.slice (some ⟨g3, 0, none⟩) (room t).length cap3) (addJ (room t) (least t) u (P.take (j + 1))) (hsj.set Y (.slice qa (ins (least t) (vx (room t) Y).late).length qc)) (room t).length) := r1
        have HX : Hid (Below w0.heap.size w0 (w7.setCell ⟨g3, Y * 6 + 5, none⟩ (.slice qa (ins (least t) (vx (room t) Y).late).length qc)) ∧ w6.heap.size ≤ (w7.setCell ⟨g3, Y * 6 + 5, none⟩ (.slice qa (ins (least t) (vx (room t) Y).late).length qc)).heap.size ∧ (∀ b, w5.heap.size ≤ b → b < w6.heap.size → (w7.setCell ⟨g3, Y * 6 + 5, none⟩ (.slice qa (ins (least t) (vx (room t) Y).late).length qc)).heap[b]? = w6.heap[b]?) ∧ (∀ (x : Nat) (a' : Value) (k : Nat), (hsj.set Y (.slice qa (ins (least t) (vx (room t) Y).late).length qc))[x]? = some a' → a'.ownBlock = some k → k < w5.heap.size ∨ w6.heap.size ≤ k)) := ⟨B8, S8, M8, L8⟩
        clear r1 r2 B8 S8 M8 L8 oj oj' hstep htk hjt hget hL hM o7 g7 l7 hol s2
        go_wp2_with fail
        go_roundw
        case rel => exact ⟨j + 1, _, by omega, by go_num, HO.out, HX.out⟩
        case measure => simp [intOf]; omega
    · have e : P.take j = P := List.take_of_length_le (by omega)
      rw [e, Hend.out] at oj
      have e2 : (room t).length = (addF t u).length := by simp [addF]
      rw [e2] at oj
      clear hc6 Hpa Hsm
      go_wp2_with fail
      go_ret3
      exact ⟨_, hsj, rfl, by rw [← e2] at oj ⊢; exact oj.mono b0.size, b0.trans (hB.mono b0.size)⟩

end Go.Proofs.YtdnopkpoepdihaaDoor
