/-
  No room for a leaf; a leaf replaced, with all above it blank: package tree's replaced · Whether a leaf from a number on is full; whether a tree is right: package tree's Check · Whether a tree is right: package tree's Check · Whether a tree is right: the walk of package tree's Check.
-/
import Derived.Test.YtdnopkpoepdihaaDoorTJ
namespace Go.Proofs.YtdnopkpoepdihaaDoor
open Go.RowKit
set_option linter.unusedSimpArgs false
set_option linter.unusedVariables false

set_option maxRecDepth 100000 in
set_option maxHeartbeats 4000000 in
theorem add_no {t : Tree} (hf : Fit t) {v : Value} {w : World} (ht : TreeAt w v t) (u : PV) (h : Value) (h1 : least t = lv t) (h2 : lv t = 32) :
    Calls Tryd.prog 33 #[v, u.val h] w fun e w' => e = .returned (.tuple #[.slice none 0 0, .int .i64 0, .int .i64 41]) ∧ Below w.heap.size w w' := by
  have hs := hf.sh
  have hbd := hs.bounds
  unfold PV.val at *
  obtain ⟨w0, hw0⟩ : ∃ w0, w.alloc (.cells (leafCells u h) 24) = w0 := ⟨_, rfl⟩
  have b0 : Below w.heap.size w w0 := by rw [← hw0]; exact (Below.refl _ _).alloc (Nat.le_refl _) _
  have ht0 := ht.below b0
  unfold leafCells at hw0
  go_enter Tryd.func33, Tryd.ntmps33
  go_wp2_with (rw [hw0])
  refine (Leaves_sh ht0 hs).mono ?_
  rintro e w' ⟨rfl, hw⟩
  obtain rfl := hw.symm
  go_wp2_with fail
  refine (leastBlank_any ht0 hs).mono ?_
  rintro e w1 ⟨rfl, b1⟩
  have ht1 := ht0.below b1
  go_wp2_with fail
  refine (copied_any ht1 (by omega) (by omega) (fun x u hx => by have := (hf.small x u hx).1; omega)).mono ?_
  rintro e w2 ⟨v2, hs2, rfl, o2, b2⟩
  go_wp2_with (go_at_call 47; refine (right_any _ _).mono ?_; rintro e w' ⟨rfl, hw⟩; obtain rfl := hw.symm)
  go_ret3
  exact ⟨rfl, on b0 (on b1 b2)⟩

/-- The tree while the parents above a leaf are made blank. -/
def putJV (i : Int) (v : PV) (Q : List Int) (x : Nat) (u : PV) : PV :=
  if (x : Int) = 2 * i then v else if Q.contains (x : Int) then PV.blank else u
def putJ (t : Tree) (i : Int) (v : PV) (Q : List Int) : Tree := t.mapIdx (putJV i v Q)
theorem putJ_len (t : Tree) (i : Int) (v : PV) (Q : List Int) : (putJ t i v Q).length = t.length := by simp [putJ]
theorem putJ_get (t : Tree) (i : Int) (v : PV) (Q : List Int) (x : Nat) : (putJ t i v Q)[x]? = t[x]?.map (putJV i v Q x) := by simp [putJ]

theorem putJ_zero (t : Tree) (k : Nat) (v : PV) (hk : 2 * k < t.length) : putJ t k v [] = t.set (2 * k) v := by
  apply List.ext_getElem?
  intro x
  rw [putJ_get]
  by_cases hx : x = 2 * k
  · subst hx
    rw [List.getElem?_set_self hk, vx_some hk]
    simp [putJV]
  · rw [List.getElem?_set_ne (by omega)]
    cases h : t[x]? with
    | none => rfl
    | some u =>
      have : ¬ ((x : Int) = 2 * (k : Int)) := by omega
      simp [putJV, this]

theorem putJ_step {t : Tree} {i : Int} {v : PV} {Q : List Int} {y : Nat} (hy : y < t.length) (hni : (y : Int) ≠ 2 * i) : putJ t i v (Q ++ [(y : Int)]) = (putJ t i v Q).set y PV.blank := by
  apply List.ext_getElem?
  intro x
  rw [putJ_get]
  by_cases hx : x = y
  · subst hx
    rw [List.getElem?_set_self (by rw [putJ_len]; exact hy), vx_some hy]
    simp [putJV, hni]
  · rw [List.getElem?_set_ne (by omega), putJ_get]
    have : ¬ ((x : Int) = (y : Int)) := by omega
    cases h : t[x]? with
    | none => rfl
    | some u => simp [putJV, this]

theorem putJ_end {t : Tree} (hs : Sh t) (k : Nat) (hk : k < lv t) (v : PV) : putJ t k v (pathI (2 * (k : Int)) (lv t)) = putF t k v := by
  unfold putJ putF
  apply List.ext_getElem?
  intro x
  simp only [List.getElem?_mapIdx]
  cases h : t[x]? with
  | none => rfl
  | some u =>
    have hx := (List.getElem?_eq_some_iff.1 h).1
    have hin := place_in hs hx
    have hb := hs.bounds
    have hl : inB (2 * (k : Int)) (lv t) = true := by simp [inB, hs.1]; omega
    simp only [Option.map_some, putJV, putV]
    by_cases hx2 : (x : Int) = 2 * (k : Int)
    · simp [hx2]
    · rw [if_neg hx2, if_neg hx2]
      have e : (pathI (2 * (k : Int)) (lv t)).contains (x : Int) = underB (2 * (k : Int)) x (lv t) := by
        simp [pathI, underB, hl, hin, List.contains_iff_mem, List.mem_filter, hx2]
      rw [e]

set_option maxRecDepth 100000 in
set_option maxHeartbeats 4000000 in
theorem replaced_any {t : Tree} (hf : Fit t) {v : Value} {w : World} (ht : TreeAt w v t) (hT : Tab w) (k : Nat) (hk : k < lv t) (u : PV) (hu : u.late = []) :
    Calls Tryd.prog 65 #[v, .int .i64 k, u.val (.slice none 0 0)] w fun e w' => ∃ v' hs, e = .returned v' ∧ OwnT w.heap.size w' v' (putF t k u) hs (putF t k u).length ∧ Below w.heap.size w w' := by
  have hs := hf.sh
  have hbd := hs.bounds
  unfold PV.val at *
  obtain ⟨va, vcap, rfl, _⟩ := id ht
  obtain ⟨w0, hw0⟩ : ∃ w0, w.alloc (.cells (leafCells u (.slice none 0 0)) 24) = w0 := ⟨_, rfl⟩
  have b0 : Below w.heap.size w w0 := by rw [← hw0]; exact (Below.refl _ _).alloc (Nat.le_refl _) _
  have ht0 := ht.below b0
  have hT0 := hT.below b0 hT.size
  have q0 : w0.heap[w.heap.size]? = some (.cells (leafCells u (.slice none 0 0)) 24) := by rw [← hw0]; exact heap_alloc_new w _
  have hsz0 : w.heap.size < w0.heap.size := by rw [← hw0]; simp
  unfold leafCells at hw0
  go_enter Tryd.func65, Tryd.ntmps65
  go_wp2_with (rw [hw0])
  refine (copied_any ht0 (by omega) (by omega) (fun x u hx => by have := (hf.small x u hx).1; omega)).mono ?_
  rintro e w3 ⟨v3, hs3, rfl, o3, b3⟩
  obtain ⟨g3, cap3, rfl, hg3B, hg3l⟩ := o3.form (by omega)
  have hlt3 : 2 * k < t.length := by omega
  have i1 : 2 * (k : Int) < (t.length : Int) := by omega
  have i2 : (k : Int) ≤ 32 := by omega
  have q3 : w3.heap[w.heap.size]? = some (.cells (leafCells u (.slice none 0 0)) 24) := (b3.block _ hsz0).trans q0
  unfold leafCells at q3
  have bc : ∀ j, w3.cell? ⟨w.heap.size, j, none⟩ = #[.bool u.full, .int .i64 u.key, .int .i64 u.client, .int .i64 u.sig, .int .i64 u.hash, .slice none 0 0][j]? := fun j => by simp [World.cell?, q3]
  have bc0 := bc 0
  have bc1 := bc 1
  have bc2 := bc 2
  have bc3 := bc 3
  have bc4 := bc 4
  have bc5 := bc 5
  simp at bc0 bc1 bc2 bc3 bc4 bc5
  obtain ⟨o5, g5⟩ := o3.setV hlt3 u hu
  obtain ⟨hd4, hhd4⟩ := o3.head hlt3
  obtain ⟨d0, d1, d2, d3, d4, d5⟩ := o3.vat (vx_some hlt3) hhd4
  have fz : ∀ j, w3.frozen? ⟨g3, j, none⟩ = false := fun j => o3.row.frozenAt j
  obtain ⟨w5, hw5⟩ : ∃ w5, w3.setCells g3 (2 * k * 6) (vcells u (.slice none 0 0)) = w5 := ⟨_, rfl⟩
  rw [hw5] at o5 g5
  simp only [World.setCells, vcells] at hw5
  have b5 : Below w0.heap.size w0 w5 := b3.grown g5 b3.size (fun k hk => by cases hk; exact hg3B)
  have hT5 : Tab w5 := hT0.below b5 hT0.size
  have ht5 := ht0.below b5
  have hlf : leafB k (lv t) = true := by simp [leafB, hs.1]; omega
  clear bc o3
  go_wp2_with (rw [hw5])
  refine (Leaves_sh ht5 hs).mono ?_
  rintro e w' ⟨rfl, hw⟩
  obtain rfl := hw.symm
  go_wp2_with fail
  refine (pathOf_any _ _ hlf hT5).mono ?_
  rintro e w6 ⟨v6, rfl, m6, b6⟩
  have hin := leafB_in hlf
  have hpl := path_len (2 * (k : Int)) (lv t)
  have o6 := o5.below (by simp) b6
  obtain ⟨P, hP⟩ : ∃ P, pathI (2 * (k : Int)) (lv t) = P := ⟨_, rfl⟩
  have Hpa : ∀ (j : Nat) (y : Int), P[j]? = some y → inB y (lv t) = true ∧ y ≠ 2 * (k : Int) ∧ (P.take j).contains y = false := fun j y hy => by
    have := path_at hin (by rw [hP]; exact hy)
    rwa [hP] at this
  have Hend : Hid (putJ t k u P = putF t k u) := by rw [← hP]; exact putJ_end hs k hk u
  have Hz : Hid (putJ t k u [] = t.set (2 * k) u) := putJ_zero t k u hlt3
  rw [hP] at m6 hpl
  have hc6 : ∃ a6 cap6, v6 = .slice a6 P.length cap6 ∧ (P ≠ [] → ∃ b, a6 = some ⟨b, 0, none⟩ ∧ w5.heap.size ≤ b ∧ b < w6.heap.size ∧ ∀ (i : Nat) (x : Int), P[i]? = some x → w6.cell? ⟨b, i, none⟩ = some (.int .i64 x)) := by
    rcases m6.2 with ⟨rfl, hn0⟩ | ⟨b, cap, cur, rfl, hbb, hgg, _⟩
    · exact ⟨none, 0, by rw [hn0], fun hne => absurd (List.eq_nil_of_length_eq_zero hn0) hne⟩
    · refine ⟨_, cap, rfl, fun _ => ⟨b, rfl, hbb, (Array.getElem?_eq_some_iff.1 hgg).1, fun i x hx => ?_⟩⟩
      have hil := (List.getElem?_eq_some_iff.1 hx).1
      rw [World.ownsRow.cellAt m6 i (by omega)]
      simp [hx]
  obtain ⟨a6, cap6, rfl, hc6⟩ := hc6
  have g3w5 : g3 < w5.heap.size := Nat.lt_of_lt_of_le hg3l g5.size
  clear hP m6 o5 hw5 d0 d1 d2 d3 d4 d5 fz bc0 bc1 bc2 bc3 bc4 bc5 q3 hd4 hhd4
  have hlen7 : (P.length : Int) ≤ 7 := by omega
  have b56 := on b5 b6
  rw [← Hz.out] at o6
  go_wp2_with fail
  go_loopw [22] (fun q wr => ∃ (j : Nat) (hsj : List Value), j ≤ P.length ∧ q = .int .i64 j ∧ OwnT w0.heap.size wr (.slice (some ⟨g3, 0, none⟩) t.length cap3) (putJ t k u (P.take j)) hsj t.length ∧ Below w0.heap.size w0 wr ∧ w6.heap.size ≤ wr.heap.size ∧ (∀ b, w5.heap.size ≤ b → b < w6.heap.size → wr.heap[b]? = w6.heap[b]?)) (fun q _ => P.length - (intOf q).toNat)
  case atStart => exact ⟨0, _, Nat.zero_le _, rfl, o6, b56, Nat.le_refl _, fun _ _ _ => rfl⟩
  case round =>
    obtain ⟨j, hsj, hj, rfl, oj, hB, hS, hM⟩ := hrel
    have hsz := hB.size
    by_cases hlt : j < P.length
    · obtain ⟨y, hy⟩ : ∃ y, P[j]? = some y := ⟨P[j]'hlt, by simp⟩
      obtain ⟨bP, rfl, hb1, hb2, hcP⟩ := hc6 (by rintro rfl; simp at hlt)
      obtain ⟨p1, p2, p3⟩ := Hpa j y hy
      obtain ⟨Y, rfl, hY⟩ := in_place hs p1
      have hstep := putJ_step (v := u) (Q := P.take j) hY p2
      have htk : P.take (j + 1) = P.take j ++ [(Y : Int)] := by rw [List.take_add_one, hy]; rfl
      rw [← htk] at hstep
      have hYl : Y < (putJ t k u (P.take j)).length := by rw [putJ_len]; exact hY
      have oj' : OwnT w0.heap.size wr (.slice (some ⟨g3, 0, none⟩) (putJ t k u (P.take j)).length cap3) (putJ t k u (P.take j)) hsj (putJ t k u (P.take j)).length := by rw [putJ_len]; exact oj
      obtain ⟨a, ha⟩ := oj'.head hYl
      obtain ⟨d0, d1, d2, d3, d4, d5⟩ := oj'.vat (vx_some hYl) ha
      have fz : ∀ j, wr.frozen? ⟨g3, j, none⟩ = false := fun j => oj'.row.frozenAt j
      have cP : wr.cell? ⟨bP, j, none⟩ = some (.int .i64 (Y : Int)) := (World.cell?_of_block (a := ⟨bP, j, none⟩) (hM bP hb1 hb2)).trans (hcP j _ hy)
      have i3 : (j : Int) < (P.length : Int) := by omega
      have i4 : (Y : Int) < (t.length : Int) := by omega
      obtain ⟨r1, r2⟩ := oj'.setV hYl PV.blank rfl
      obtain ⟨w8, hw8⟩ : ∃ w8, wr.setCells g3 (Y * 6) (vcells PV.blank (.slice none 0 0)) = w8 := ⟨_, rfl⟩
      rw [hw8] at r1 r2
      rw [← hstep, putJ_len] at r1
      have HO : Hid (OwnT w0.heap.size w8 (.slice (some ⟨g3, 0, none⟩) t.length cap3) (putJ t k u (P.take (j + 1))) (hsj.set Y (.slice none 0 0)) t.length) := r1
      have HX : Hid (Below w0.heap.size w0 w8 ∧ w6.heap.size ≤ w8.heap.size ∧ (∀ b, w5.heap.size ≤ b → b < w6.heap.size → w8.heap[b]? = w6.heap[b]?)) := ⟨hB.grown r2 hsz (fun k hk => by cases hk; exact hg3B), Nat.le_trans hS r2.size, fun b h1 h2 => (r2.block b (by omega) (by simp; omega)).trans (hM b h1 h2)⟩
      simp only [World.setCells, vcells, PV.blank] at hw8
      clear r1 r2 oj oj' hstep htk hM hcP Hpa hc6 hy
      go_wp2_with (rw [hw8])
      go_roundw
      case rel => exact ⟨j + 1, _, by omega, by go_num, HO.out, HX.out⟩
      case measure => simp [intOf]; omega
    · have e : P.take j = P := List.take_of_length_le (by omega)
      rw [e, Hend.out] at oj
      have e2 : t.length = (putF t k u).length := by simp [putF]
      clear hc6 Hpa
      go_wp2_with fail
      go_ret
      exact ⟨_, hsj, rfl, by rw [← e2]; exact oj.mono b0.size, b0.trans (hB.mono b0.size)⟩

end Go.Proofs.YtdnopkpoepdihaaDoor

namespace Go.Proofs.YtdnopkpoepdihaaDoor
open Go.RowKit
set_option linter.unusedSimpArgs false
set_option linter.unusedVariables false

set_option maxHeartbeats 1000000 in
theorem clos_any (x k : Int) (p : Nat) (w : World) (hc : w.cell? ⟨p, 0, none⟩ = some (.int .i64 k)) :
    Calls Tryd.prog 71 #[.int .i64 x, .pointer (some ⟨p, 0, none⟩)] w fun e w' => e = .returned (.bool (decide (k ≤ x))) ∧ w' = w := by
  go_enter Tryd.func71, Tryd.ntmps71
  go_wp2_with fail
  go_ret
  exact ⟨by simp, rfl⟩

set_option maxRecDepth 100000 in
set_option maxHeartbeats 2000000 in
theorem indexFunc_any {w : World} {v : Value} {l : List Int} (hl : IntsAt w v l) (hlen : l.length ≤ 4096) (k : Int) (p : Nat) (hc : w.cell? ⟨p, 0, none⟩ = some (.int .i64 k)) :
    Calls Tryd.prog 87 #[v, .func (.func 71) #[] #[.pointer (some ⟨p, 0, none⟩)]] w fun e w' => ∃ r : Int, e = .returned (.int .i64 r) ∧ decide (0 ≤ r) = (l.any fun i => decide (k ≤ i)) ∧ w' = w := by
  obtain ⟨a, cap, rfl, hl1, hcl⟩ := hl
  go_enter Tryd.func87, Tryd.ntmps87
  go_wp2_with fail
  go_loop [8] (fun q => ∃ j : Nat, j ≤ l.length ∧ q = .int .i64 j ∧ Hid ((l.take j).any (fun i => decide (k ≤ i)) = false)) (fun q => l.length - (intOf q).toNat)
  case atStart => exact ⟨0, Nat.zero_le _, rfl, rfl⟩
  case round =>
    obtain ⟨j, hj, rfl, HA⟩ := hrel
    by_cases hlt : j < l.length
    · obtain ⟨y, hy⟩ : ∃ y, l[j]? = some y := ⟨l[j], by simp [hlt]⟩
      obtain ⟨b, off, rfl, hbl, hcell⟩ := hcl (by rintro rfl; simp at hy)
      have c0 := hcell j y hy
      have i1 : (j : Int) < (l.length : Int) := by omega
      have i2 : (j : Int) ≤ 4096 := by omega
      have Hy : Hid (l[j]? = some y) := hy
      clear hcell hcl hy
      cases hk : decide (k ≤ y) with
      | true =>
        have HR : Hid ((l.any fun i => decide (k ≤ i)) = true) := by
          simp only [Hid, List.any_eq_true]
          exact ⟨y, List.mem_of_getElem? Hy.out, hk⟩
        go_wp2_with (go_at_call 71; refine (clos_any y k p _ hc).mono ?_; rintro e w' ⟨rfl, hw⟩; obtain rfl := hw.symm; rw [hk])
        go_ret
        exact ⟨_, rfl, by rw [HR.out]; simp, rfl⟩
      | false =>
        have HN : Hid ((l.take (j + 1)).any (fun i => decide (k ≤ i)) = false) := by
          show _ = _
          rw [List.take_add_one, Hy.out, List.any_append, HA.out]
          simp [hk]
        go_wp2_with (go_at_call 71; refine (clos_any y k p _ hc).mono ?_; rintro e w' ⟨rfl, hw⟩; obtain rfl := hw.symm; rw [hk])
        exact ⟨⟨j + 1, by omega, by go_num, HN⟩, by simp [intOf]; omega⟩
    · have HR : Hid ((l.any fun i => decide (k ≤ i)) = false) := by
        have := HA.out
        rwa [List.take_of_length_le (by omega)] at this
      clear hcl
      go_wp2_with fail
      all_goals go_ret
      all_goals exact ⟨_, rfl, by rw [HR.out]; rfl, rfl⟩

set_option maxHeartbeats 1000000 in
theorem containsFunc_any {w : World} {v : Value} {l : List Int} (hl : IntsAt w v l) (hlen : l.length ≤ 4096) (k : Int) (p : Nat) (hc : w.cell? ⟨p, 0, none⟩ = some (.int .i64 k)) :
    Calls Tryd.prog 70 #[v, .func (.func 71) #[] #[.pointer (some ⟨p, 0, none⟩)]] w fun e w' => e = .returned (.bool (l.any fun i => decide (k ≤ i))) ∧ w' = w := by
  go_enter Tryd.func70, Tryd.ntmps70
  go_wp2_with fail
  refine (indexFunc_any hl hlen k p hc).mono ?_
  rintro e w' ⟨r, rfl, hr, hw⟩
  obtain rfl := hw.symm
  go_wp2_with fail
  go_ret
  exact ⟨by rw [← hr]; simp, rfl⟩

set_option maxHeartbeats 1000000 in
theorem fullFrom_any {w : World} {v : Value} {t : Tree} (ht : TreeAt w v t) (hs : Sh t) (k : Nat) :
    Calls Tryd.prog 43 #[v, .int .i64 k] w fun e w' => e = .returned (.bool (fromB t k)) ∧ Below w.heap.size w w' := by
  have hml := membersN_len t (lv t)
  have hb := hs.bounds
  obtain ⟨w0, hw0⟩ : ∃ w0, w.alloc (.cells #[.int .i64 (k : Int)] 3) = w0 := ⟨_, rfl⟩
  have b0 : Below w.heap.size w w0 := by rw [← hw0]; exact (Below.refl _ _).alloc (Nat.le_refl _) _
  have c0 : w0.cell? ⟨w.heap.size, 0, none⟩ = some (.int .i64 (k : Int)) := by rw [← hw0]; exact (cell_new w _ _).1
  have hs0 : w.heap.size < w0.heap.size := by rw [← hw0]; simp
  have ht0 := ht.below b0
  go_enter Tryd.func43, Tryd.ntmps43
  go_wp2_with (rw [hw0])
  refine (Members_any ht0 hs).mono ?_
  rintro e w1 ⟨v1, rfl, m1, b1⟩
  have c1 := (b1.cell (p := ⟨w.heap.size, 0, none⟩) hs0).trans c0
  have hc := containsFunc_any (m1.ints (by unfold members; omega)) (by unfold members; omega) k w.heap.size c1
  go_wp2_with fail
  refine hc.mono ?_
  rintro e w' ⟨rfl, hw⟩
  obtain rfl := hw.symm
  go_wp2_with fail
  go_ret
  exact ⟨rfl, on b0 b1⟩

end Go.Proofs.YtdnopkpoepdihaaDoor

namespace Go.Proofs.YtdnopkpoepdihaaDoor
open Go.RowKit
set_option linter.unusedSimpArgs false
set_option linter.unusedVariables false

def lateB (t : Tree) (x : Int) : Int → List Int → Bool
  | _, [] => true
  | last, i :: r => decide (last < i) && fullB t i && underB (2 * i) x (lv t) && lateB t x i r
def vertB (t : Tree) (x : Int) (u : PV) : Bool :=
  if u.full then (if lev x == 0 then decide (u.late.length = 0) else u.client == 0 && (u.sig == 0 && lateB t x (-1) u.late))
  else u.key == 0 && (u.client == 0 && (u.sig == 0 && (u.hash == 0 && decide (u.late.length = 0))))
def vertsB (t : Tree) (k : Nat) : Bool := (List.range k).all fun x => vertB t x (vx t x)
def checkB (t : Tree) : Bool := shB t && (vertsB t t.length && fromB t (lv t / 2))

theorem vertsB_succ (t : Tree) (k : Nat) : vertsB t (k + 1) = (vertsB t k && vertB t k (vx t k)) := by
  simp [vertsB, List.range_succ]
theorem vertsB_false {t : Tree} {k m : Nat} (hk : k < m) (h : vertB t k (vx t k) = false) : vertsB t m = false := by
  cases hv : vertsB t m with
  | false => rfl
  | true =>
    unfold vertsB at hv
    rw [List.all_eq_true] at hv
    have := hv k (List.mem_range.2 hk)
    rw [h] at this
    cases this

theorem nilB (l : List Int) : ((l.length : Int) == 0) = decide (l = []) := by
  cases l with
  | nil => rfl
  | cons a r =>
    simp
    omega

theorem fullB_range {t : Tree} {i : Int} (h : fullB t i = true) : 0 ≤ i ∧ i < lv t := by
  simp [fullB] at h; exact ⟨h.1.1, h.1.2⟩

set_option maxRecDepth 100000 in
set_option maxHeartbeats 2000000 in
theorem isRightLate_any {w : World} {v : Value} {t : Tree} (ht : TreeAt w v t) (hs : Sh t) (hT : Tab w) {x : Nat} (hx : x < t.length) :
    Calls Tryd.prog 69 #[v, .int .i64 x, .int .i64 (lv t)] w fun e w' => e = .returned (.bool (lateB t x (-1) (vx t x).late)) ∧ Below w.heap.size w w' := by
  have hbd := hs.bounds
  obtain ⟨b, off, cap, hd, rfl, hbl, hv⟩ := ht.get (vx_some hx)
  obtain ⟨_, _, _, _, _, c5, a, cp, rfl, hl1, hcl⟩ := hv
  have i1 : (x : Int) < (t.length : Int) := by omega
  obtain ⟨L, hL⟩ : ∃ L, (vx t x).late = L := ⟨_, rfl⟩
  rw [hL] at c5 hl1 hcl ⊢
  clear hL
  go_enter Tryd.func69, Tryd.ntmps69
  go_wp2_with fail
  go_loopw [7, 16] (fun z q wr => ∃ (j : Nat) (last : Int), j ≤ L.length ∧ q = .int .i64 j ∧ z = .int .i64 last ∧ Hid (lateB t x (-1) L = lateB t x last (L.drop j)) ∧ Below w.heap.size w wr) (fun _ q _ => L.length - (intOf q).toNat)
  case atStart => exact ⟨0, -1, Nat.zero_le _, rfl, rfl, rfl, Below.refl _ _⟩
  case round =>
    obtain ⟨j, last, hj, rfl, rfl, HL, hB⟩ := hrel
    have htr := ht.below hB
    have hTr := hT.below hB hT.size
    by_cases hlt : j < L.length
    · obtain ⟨y, hy⟩ : ∃ y, L[j]? = some y := ⟨L[j], by simp [hlt]⟩
      obtain ⟨b2, off2, rfl, hbl2, hcell⟩ := hcl (by rintro rfl; simp at hy)
      have c0 := (hB.cell (p := ⟨b2, off2 + j, none⟩) hbl2).trans (hcell j y hy)
      have i2 : (j : Int) < (L.length : Int) := by omega
      have hdr : L.drop j = y :: L.drop (j + 1) := by
        rw [List.drop_eq_getElem_cons hlt]
        congr 1
        have := (List.getElem?_eq_some_iff.1 hy).2
        exact this
      have hst : lateB t x last (L.drop j) = (decide (last < y) && fullB t y && underB (2 * y) x (lv t) && lateB t x y (L.drop (j + 1))) := by rw [hdr]; rfl
      have HL2 : Hid (lateB t x (-1) L = (decide (last < y) && fullB t y && underB (2 * y) x (lv t) && lateB t x y (L.drop (j + 1)))) := by rw [← hst]; exact HL.out
      clear hcell hcl hy hdr hst HL
      by_cases h1 : last < y
      · have h1' : ¬ (y ≤ last) := by omega
        cases h2 : fullB t y with
        | false =>
          have HR : Hid (lateB t x (-1) L = false) := by rw [HL2.out, h2]; simp [Hid]
          go_wp2_with (go_at_call 64; refine (isMember_any htr hs _).mono ?_; rintro e w' ⟨rfl, hw⟩; obtain rfl := hw.symm; rw [h2])
          go_ret
          exact ⟨by rw [HR.out]; rfl, hB⟩
        | true =>
          have hyr := fullB_range h2
          have i3 : y ≤ 32 := by omega
          have hu := Under_any (2 * y) x (lv t) hTr
          cases h3 : underB (2 * y) x (lv t) with
          | false =>
            have HR : Hid (lateB t x (-1) L = false) := by rw [HL2.out, h3]; simp [Hid]
            go_wp2_with first
              | (go_at_call 64; refine (isMember_any htr hs _).mono ?_; rintro e w' ⟨rfl, hw⟩; obtain rfl := hw.symm; rw [h2])
              | (go_at_call 86; refine hu.mono ?_; rintro e w3 ⟨rfl, b3⟩; rw [h3])
            go_ret
            exact ⟨by rw [HR.out]; rfl, hB.trans (b3.mono hB.size)⟩
          | true =>
            have HR : Hid (lateB t x (-1) L = lateB t x y (L.drop (j + 1))) := by rw [HL2.out, h2, h3]; simp [Hid, h1]
            go_wp2_with first
              | (go_at_call 64; refine (isMember_any htr hs _).mono ?_; rintro e w' ⟨rfl, hw⟩; obtain rfl := hw.symm; rw [h2])
              | (go_at_call 86; refine hu.mono ?_; rintro e w3 ⟨rfl, b3⟩; rw [h3])
            go_roundw
            case rel => exact ⟨j + 1, y, by omega, by go_num, rfl, HR, hB.trans (b3.mono hB.size)⟩
            case measure => simp [intOf]; omega
      · have HR : Hid (lateB t x (-1) L = false) := by rw [HL2.out]; simp [Hid, h1]
        have h1' : y ≤ last := by omega
        go_wp2_with fail
        go_ret
        exact ⟨by rw [HR.out]; rfl, hB⟩
    · have HR : Hid (lateB t x (-1) L = true) := by
        rw [HL.out, List.drop_of_length_le (by omega)]; rfl
      clear hcl
      go_wp2_with fail
      all_goals go_ret
      all_goals exact ⟨by rw [HR.out]; rfl, hB⟩

set_option maxRecDepth 100000 in
set_option maxHeartbeats 4000000 in
theorem isRightVertex_any {w : World} {v : Value} {t : Tree} (ht : TreeAt w v t) (hs : Sh t) (hT : Tab w) {x : Nat} (hx : x < t.length) :
    Calls Tryd.prog 42 #[v, .int .i64 x, .int .i64 (lv t)] w fun e w' => e = .returned (.bool (vertB t x (vx t x))) ∧ Below w.heap.size w w' := by
  have hbd := hs.bounds
  have hrl : ∀ o, Calls Tryd.prog 69 #[v, .int .i64 x, .int .i64 (lv t)] (w.alloc o) fun e w' => e = .returned (.bool (lateB t x (-1) (vx t x).late)) ∧ Below (w.alloc o).heap.size (w.alloc o) w' := fun o => by
    have b0 : Below w.heap.size w (w.alloc o) := (Below.refl _ _).alloc (Nat.le_refl _) _
    exact isRightLate_any (ht.below b0) hs (hT.below b0 hT.size) hx
  have b0 : ∀ o, Below w.heap.size w (w.alloc o) := fun o => (Below.refl _ _).alloc (Nat.le_refl _) _
  have hT0 : ∀ o, Tab (w.alloc o) := fun o => hT.below (b0 o) hT.size
  obtain ⟨b, off, cap, hd, rfl, hbl, hv⟩ := ht.get (vx_some hx)
  obtain ⟨c0, c1, c2, c3, c4, c5, a, cp, rfl, hl1, hcl⟩ := hv
  have i1 : (x : Int) < (t.length : Int) := by omega
  obtain ⟨u, hu⟩ : ∃ u, vx t x = u := ⟨_, rfl⟩
  rw [hu] at c0 c1 c2 c3 c4 c5 hl1 hrl ⊢
  clear hcl hu
  have hlev : lev (x : Int) < 9223372036854775808 := by
    have := lev_small (x := (x : Int)) (by omega) (by omega)
    omega
  cases hf : u.full with
  | false =>
    have HV : Hid (vertB t x u = (u.key == 0 && (u.client == 0 && (u.sig == 0 && (u.hash == 0 && decide (u.late.length = 0)))))) := by simp [Hid, vertB, hf]
    rw [hf] at c0
    clear hrl
    cases kkey : (u.key == 0) with
    | false =>
      go_enter Tryd.func42, Tryd.ntmps42
      go_wp2_with fail
      go_ret
      exact ⟨by rw [HV.out]; simp [*, nilB], b0 _⟩
    | true =>
      cases kclient : (u.client == 0) with
      | false =>
        go_enter Tryd.func42, Tryd.ntmps42
        go_wp2_with fail
        go_ret
        exact ⟨by rw [HV.out]; simp [*, nilB], b0 _⟩
      | true =>
        cases ksig : (u.sig == 0) with
        | false =>
          go_enter Tryd.func42, Tryd.ntmps42
          go_wp2_with fail
          go_ret
          exact ⟨by rw [HV.out]; simp [*, nilB], b0 _⟩
        | true =>
          cases khash : (u.hash == 0) with
          | false =>
            go_enter Tryd.func42, Tryd.ntmps42
            go_wp2_with fail
            go_ret
            exact ⟨by rw [HV.out]; simp [*, nilB], b0 _⟩
          | true =>
            go_enter Tryd.func42, Tryd.ntmps42
            go_wp2_with fail
            go_ret
            exact ⟨by rw [HV.out]; simp [*, nilB], b0 _⟩
  | true =>
    rw [hf] at c0
    cases hz : (lev (x : Int) == 0) with
    | true =>
      have HV : Hid (vertB t x u = decide (u.late.length = 0)) := by simp [Hid, vertB, hf, hz]
      go_enter Tryd.func42, Tryd.ntmps42
      go_wp2_with (go_at_call 68; refine (level_any _ (by omega) (hT0 _)).mono ?_; rintro e w' ⟨rfl, hw⟩; obtain rfl := hw.symm)
      go_ret
      exact ⟨by rw [HV.out]; simp [nilB], b0 _⟩
    | false =>
      have HV : Hid (vertB t x u = (u.client == 0 && (u.sig == 0 && lateB t x (-1) u.late))) := by simp [Hid, vertB, hf, hz]
      cases k1 : (u.client == 0) with
      | false =>
        clear hrl
        go_enter Tryd.func42, Tryd.ntmps42
        go_wp2_with (go_at_call 68; refine (level_any _ (by omega) (hT0 _)).mono ?_; rintro e w' ⟨rfl, hw⟩; obtain rfl := hw.symm)
        go_ret
        exact ⟨by rw [HV.out]; simp [*, nilB], b0 _⟩
      | true =>
        cases k2 : (u.sig == 0) with
        | false =>
          clear hrl
          go_enter Tryd.func42, Tryd.ntmps42
          go_wp2_with (go_at_call 68; refine (level_any _ (by omega) (hT0 _)).mono ?_; rintro e w' ⟨rfl, hw⟩; obtain rfl := hw.symm)
          go_ret
          exact ⟨by rw [HV.out]; simp [*, nilB], b0 _⟩
        | true =>
          obtain ⟨Q, hQ⟩ : ∃ Q, lateB t x (-1) u.late = Q := ⟨_, rfl⟩
          rw [hQ] at hrl
          go_enter Tryd.func42, Tryd.ntmps42
          go_wp2_with first
            | (go_at_call 68; refine (level_any _ (by omega) (hT0 _)).mono ?_; rintro e w' ⟨rfl, hw⟩; obtain rfl := hw.symm)
            | (go_at_call 69; refine (hrl _).mono ?_; rintro e w3 ⟨rfl, b3⟩)
          go_ret
          exact ⟨by rw [HV.out]; simp [*], on (b0 _) b3⟩

end Go.Proofs.YtdnopkpoepdihaaDoor

namespace Go.Proofs.YtdnopkpoepdihaaDoor
open Go.RowKit
set_option linter.unusedSimpArgs false
set_option linter.unusedVariables false

set_option maxRecDepth 100000 in
set_option maxHeartbeats 4000000 in
theorem check_sh {w : World} {v : Value} {t : Tree} (ht : TreeAt w v t) (hs : Sh t) (hT : Tab w) :
    Calls Tryd.prog 17 #[v] w fun e w' => e = .returned (.bool (checkB t)) ∧ Below w.heap.size w w' := by
  have hbd := hs.bounds
  have hq : checkB t = (vertsB t t.length && fromB t (lv t / 2)) := by simp [checkB, shB_iff.2 hs]
  rw [hq]
  obtain ⟨va, vcap, rfl, _⟩ := id ht
  have hn0 : ((lv t : Int) == 0) = false := by simp; omega
  have i5 : (lv t : Int) ≤ 32 := by omega
  have hlt63 : (t.length : Int) ≤ 63 := by omega
  go_enter Tryd.func17, Tryd.ntmps17
  go_wp2_with fail
  refine (Leaves_sh ht hs).mono ?_
  rintro e w' ⟨rfl, hw⟩
  obtain rfl := hw.symm
  go_wp2_with fail
  go_loopw [11] (fun q wr => ∃ j : Nat, j ≤ t.length ∧ q = .int .i64 j ∧ Hid (vertsB t j = true) ∧ Below w.heap.size w wr) (fun q _ => t.length - (intOf q).toNat)
  case atStart => exact ⟨0, Nat.zero_le _, rfl, rfl, Below.refl _ _⟩
  case round =>
    obtain ⟨j, hj, rfl, HV, hB⟩ := hrel
    have htr := ht.below hB
    have hTr := hT.below hB hT.size
    by_cases hlt : j < t.length
    · have i1 : (j : Int) < (t.length : Int) := by omega
      go_wp2_with fail
      refine (isRightVertex_any htr hs hTr hlt).mono ?_
      rintro e w1 ⟨rfl, b1⟩
      have hB1 := hB.trans (b1.mono hB.size)
      cases hv : vertB t j (vx t j) with
      | true =>
        have HN : Hid (vertsB t (j + 1) = true) := by show _ = _; rw [vertsB_succ, HV.out, hv]; rfl
        go_wp2_with fail
        go_roundw
        case rel => exact ⟨j + 1, by omega, by go_num, HN, hB1⟩
        case measure => simp [intOf]; omega
      | false =>
        have HN : Hid (vertsB t t.length = false) := vertsB_false hlt hv
        go_wp2_with fail
        go_ret
        exact ⟨by rw [HN.out]; rfl, hB1⟩
    · have e : j = t.length := by omega
      subst e
      have e2 : ((lv t : Int)) / 2 = ((lv t / 2 : Nat) : Int) := by omega
      have hff := fullFrom_any htr hs (lv t / 2)
      rw [← e2] at hff
      clear e2
      go_wp2_with fail
      refine hff.mono ?_
      rintro e w1 ⟨rfl, b1⟩
      go_wp2_with fail
      go_ret
      exact ⟨by rw [HV.out]; simp, hB.trans (b1.mono hB.size)⟩

set_option maxHeartbeats 1000000 in
theorem check_no {w : World} {v : Value} {t : Tree} (ht : TreeAt w v t) (hs : shB t = false) :
    Calls Tryd.prog 17 #[v] w fun e w' => e = .returned (.bool false) ∧ w' = w := by
  have hl := Leaves_any ht
  rw [show leavesI t = 0 by simp [leavesI, hs]] at hl
  go_enter Tryd.func17, Tryd.ntmps17
  go_wp2_with (go_at_call 22; refine hl.mono ?_; rintro e w' ⟨rfl, hw⟩; obtain rfl := hw.symm)
  go_ret
  exact ⟨rfl, rfl⟩

theorem Check_any {w : World} {v : Value} {t : Tree} (ht : TreeAt w v t) (hT : Tab w) :
    Calls Tryd.prog 17 #[v] w fun e w' => e = .returned (.bool (checkB t)) ∧ Below w.heap.size w w' := by
  cases hs : shB t with
  | true => exact check_sh ht (shB_iff.1 hs) hT
  | false =>
    refine (check_no ht hs).mono ?_
    rintro e w' ⟨rfl, rfl⟩
    exact ⟨by simp [checkB, hs], Below.refl _ _⟩

end Go.Proofs.YtdnopkpoepdihaaDoor
