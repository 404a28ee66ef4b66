/-
  No room for a leaf; a leaf replaced, with all above it blank: package tree's replaced.
-/
import Derived.Test.YtdnopkpoepdihaaDoorTJ
namespace Go.Proofs.YtdnopkpoepdihaaDoor
open Go.RowKit
set_option linter.unusedSimpArgs false
set_option linter.unusedVariables false

set_option maxRecDepth 100000 in
set_option maxHeartbeats 4000000 in
theorem add_no {t : Tree} (hf : Fit t) {v : Value} {w : World} (ht : TreeAt w v t) (u : PV) (h : Value) (h1 : least t = lv t) (h2 : lv t = 32) :
    Calls Tryd.prog 33 #[v, u.val h] w fun e w' => e = .returned (.tuple #[.slice none 0 0, .int .i64 0, .int .i64 41]) ∧ Below w.heap.size w w' := by
  have hs := hf.sh
  have hbd := hs.bounds
  unfold PV.val at *
  obtain ⟨w0, hw0⟩ : ∃ w0, w.alloc (.cells (leafCells u h) 24) = w0 := ⟨_, rfl⟩
  have b0 : Below w.heap.size w w0 := by rw [← hw0]; exact (Below.refl _ _).alloc (Nat.le_refl _) _
  have ht0 := ht.below b0
  unfold leafCells at hw0
  go_enter Tryd.func33, Tryd.ntmps33
  go_wp2_with (rw [hw0])
  refine (Leaves_sh ht0 hs).mono ?_
  rintro e w' ⟨rfl, hw⟩
  obtain rfl := hw.symm
  go_wp2_with fail
  refine (leastBlank_any ht0 hs).mono ?_
  rintro e w1 ⟨rfl, b1⟩
  have ht1 := ht0.below b1
  go_wp2_with fail
  refine (copied_any ht1 (by omega) (by omega) (fun x u hx => by have := (hf.small x u hx).1; omega)).mono ?_
  rintro e w2 ⟨v2, hs2, rfl, o2, b2⟩
  go_wp2_with (go_at_call 47; refine (right_any _ _).mono ?_; rintro e w' ⟨rfl, hw⟩; obtain rfl := hw.symm)
  go_ret3
  exact ⟨rfl, on b0 (on b1 b2)⟩

/-- The tree while the parents above a leaf are made blank. -/
def putJV (i : Int) (v : PV) (Q : List Int) (x : Nat) (u : PV) : PV :=
  if (x : Int) = 2 * i then v else if Q.contains (x : Int) then PV.blank else u
def putJ (t : Tree) (i : Int) (v : PV) (Q : List Int) : Tree := t.mapIdx (putJV i v Q)
theorem putJ_len (t : Tree) (i : Int) (v : PV) (Q : List Int) : (putJ t i v Q).length = t.length := by simp [putJ]
theorem putJ_get (t : Tree) (i : Int) (v : PV) (Q : List Int) (x : Nat) : (putJ t i v Q)[x]? = t[x]?.map (putJV i v Q x) := by simp [putJ]

theorem putJ_zero (t : Tree) (k : Nat) (v : PV) (hk : 2 * k < t.length) : putJ t k v [] = t.set (2 * k) v := by
  apply List.ext_getElem?
  intro x
  rw [putJ_get]
  by_cases hx : x = 2 * k
  · subst hx
    rw [List.getElem?_set_self hk, vx_some hk]
    simp [putJV]
  · rw [List.getElem?_set_ne (by omega)]
    cases h : t[x]? with
    | none => rfl
    | some u =>
      have : ¬ ((x : Int) = 2 * (k : Int)) := by omega
      simp [putJV, this]

theorem putJ_step {t : Tree} {i : Int} {v : PV} {Q : List Int} {y : Nat} (hy : y < t.length) (hni : (y : Int) ≠ 2 * i) : putJ t i v (Q ++ [(y : Int)]) = (putJ t i v Q).set y PV.blank := by
  apply List.ext_getElem?
  intro x
  rw [putJ_get]
  by_cases hx : x = y
  · subst hx
    rw [List.getElem?_set_self (by rw [putJ_len]; exact hy), vx_some hy]
    simp [putJV, hni]
  · rw [List.getElem?_set_ne (by omega), putJ_get]
    have : ¬ ((x : Int) = (y : Int)) := by omega
    cases h : t[x]? with
    | none => rfl
    | some u => simp [putJV, this]

theorem putJ_end {t : Tree} (hs : Sh t) (k : Nat) (hk : k < lv t) (v : PV) : putJ t k v (pathI (2 * (k : Int)) (lv t)) = putF t k v := by
  unfold putJ putF
  apply List.ext_getElem?
  intro x
  simp only [List.getElem?_mapIdx]
  cases h : t[x]? with
  | none => rfl
  | some u =>
    have hx := (List.getElem?_eq_some_iff.1 h).1
    have hin := place_in hs hx
    have hb := hs.bounds
    have hl : inB (2 * (k : Int)) (lv t) = true := by simp [inB, hs.1]; omega
    simp only [Option.map_some, putJV, putV]
    by_cases hx2 : (x : Int) = 2 * (k : Int)
    · simp [hx2]
    · rw [if_neg hx2, if_neg hx2]
      have e : (pathI (2 * (k : Int)) (lv t)).contains (x : Int) = underB (2 * (k : Int)) x (lv t) := by
        simp [pathI, underB, hl, hin, List.contains_iff_mem, List.mem_filter, hx2]
      rw [e]

set_option maxRecDepth 100000 in
set_option maxHeartbeats 4000000 in
theorem replaced_any {t : Tree} (hf : Fit t) {v : Value} {w : World} (ht : TreeAt w v t) (hT : Tab w) (k : Nat) (hk : k < lv t) (u : PV) (hu : u.late = []) :
    Calls Tryd.prog 65 #[v, .int .i64 k, u.val (.slice none 0 0)] w fun e w' => ∃ v' hs, e = .returned v' ∧ OwnT w.heap.size w' v' (putF t k u) hs (putF t k u).length ∧ Below w.heap.size w w' := by
  have hs := hf.sh
  have hbd := hs.bounds
  unfold PV.val at *
  obtain ⟨va, vcap, rfl, _⟩ := id ht
  obtain ⟨w0, hw0⟩ : ∃ w0, w.alloc (.cells (leafCells u (.slice none 0 0)) 24) = w0 := ⟨_, rfl⟩
  have b0 : Below w.heap.size w w0 := by rw [← hw0]; exact (Below.refl _ _).alloc (Nat.le_refl _) _
  have ht0 := ht.below b0
  have hT0 := hT.below b0 hT.size
  have q0 : w0.heap[w.heap.size]? = some (.cells (leafCells u (.slice none 0 0)) 24) := by rw [← hw0]; exact heap_alloc_new w _
  have hsz0 : w.heap.size < w0.heap.size := by rw [← hw0]; simp
  unfold leafCells at hw0
  go_enter Tryd.func65, Tryd.ntmps65
  go_wp2_with (rw [hw0])
  refine (copied_any ht0 (by omega) (by omega) (fun x u hx => by have := (hf.small x u hx).1; omega)).mono ?_
  rintro e w3 ⟨v3, hs3, rfl, o3, b3⟩
  obtain ⟨g3, cap3, rfl, hg3B, hg3l⟩ := o3.form (by omega)
  have hlt3 : 2 * k < t.length := by omega
  have i1 : 2 * (k : Int) < (t.length : Int) := by omega
  have i2 : (k : Int) ≤ 32 := by omega
  have q3 : w3.heap[w.heap.size]? = some (.cells (leafCells u (.slice none 0 0)) 24) := (b3.block _ hsz0).trans q0
  unfold leafCells at q3
  have bc : ∀ j, w3.cell? ⟨w.heap.size, j, none⟩ = #[.bool u.full, .int .i64 u.key, .int .i64 u.client, .int .i64 u.sig, .int .i64 u.hash, .slice none 0 0][j]? := fun j => by simp [World.cell?, q3]
  have bc0 := bc 0
  have bc1 := bc 1
  have bc2 := bc 2
  have bc3 := bc 3
  have bc4 := bc 4
  have bc5 := bc 5
  simp at bc0 bc1 bc2 bc3 bc4 bc5
  obtain ⟨o5, g5⟩ := o3.setV hlt3 u hu
  obtain ⟨hd4, hhd4⟩ := o3.head hlt3
  obtain ⟨d0, d1, d2, d3, d4, d5⟩ := o3.vat (vx_some hlt3) hhd4
  have fz : ∀ j, w3.frozen? ⟨g3, j, none⟩ = false := fun j => o3.row.frozenAt j
  obtain ⟨w5, hw5⟩ : ∃ w5, w3.setCells g3 (2 * k * 6) (vcells u (.slice none 0 0)) = w5 := ⟨_, rfl⟩
  rw [hw5] at o5 g5
  simp only [World.setCells, vcells] at hw5
  have b5 : Below w0.heap.size w0 w5 := b3.grown g5 b3.size (fun k hk => by cases hk; exact hg3B)
  have hT5 : Tab w5 := hT0.below b5 hT0.size
  have ht5 := ht0.below b5
  have hlf : leafB k (lv t) = true := by simp [leafB, hs.1]; omega
  clear bc o3
  go_wp2_with (rw [hw5])
  refine (Leaves_sh ht5 hs).mono ?_
  rintro e w' ⟨rfl, hw⟩
  obtain rfl := hw.symm
  go_wp2_with fail
  refine (pathOf_any _ _ hlf hT5).mono ?_
  rintro e w6 ⟨v6, rfl, m6, b6⟩
  have hin := leafB_in hlf
  have hpl := path_len (2 * (k : Int)) (lv t)
  have o6 := o5.below (by simp) b6
  obtain ⟨P, hP⟩ : ∃ P, pathI (2 * (k : Int)) (lv t) = P := ⟨_, rfl⟩
  have Hpa : ∀ (j : Nat) (y : Int), P[j]? = some y → inB y (lv t) = true ∧ y ≠ 2 * (k : Int) ∧ (P.take j).contains y = false := fun j y hy => by
    have := path_at hin (by rw [hP]; exact hy)
    rwa [hP] at this
  have Hend : Hid (putJ t k u P = putF t k u) := by rw [← hP]; exact putJ_end hs k hk u
  have Hz : Hid (putJ t k u [] = t.set (2 * k) u) := putJ_zero t k u hlt3
  rw [hP] at m6 hpl
  have hc6 : ∃ a6 cap6, v6 = .slice a6 P.length cap6 ∧ (P ≠ [] → ∃ b, a6 = some ⟨b, 0, none⟩ ∧ w5.heap.size ≤ b ∧ b < w6.heap.size ∧ ∀ (i : Nat) (x : Int), P[i]? = some x → w6.cell? ⟨b, i, none⟩ = some (.int .i64 x)) := by
    rcases m6.2 with ⟨rfl, hn0⟩ | ⟨b, cap, cur, rfl, hbb, hgg, _⟩
    · exact ⟨none, 0, by rw [hn0], fun hne => absurd (List.eq_nil_of_length_eq_zero hn0) hne⟩
    · refine ⟨_, cap, rfl, fun _ => ⟨b, rfl, hbb, (Array.getElem?_eq_some_iff.1 hgg).1, fun i x hx => ?_⟩⟩
      have hil := (List.getElem?_eq_some_iff.1 hx).1
      rw [World.ownsRow.cellAt m6 i (by omega)]
      simp [hx]
  obtain ⟨a6, cap6, rfl, hc6⟩ := hc6
  have g3w5 : g3 < w5.heap.size := Nat.lt_of_lt_of_le hg3l g5.size
  clear hP m6 o5 hw5 d0 d1 d2 d3 d4 d5 fz bc0 bc1 bc2 bc3 bc4 bc5 q3 hd4 hhd4
  have hlen7 : (P.length : Int) ≤ 7 := by omega
  have b56 := on b5 b6
  rw [← Hz.out] at o6
  go_wp2_with fail
  go_loopw [22] (fun q wr => ∃ (j : Nat) (hsj : List Value), j ≤ P.length ∧ q = .int .i64 j ∧ OwnT w0.heap.size wr (.slice (some ⟨g3, 0, none⟩) t.length cap3) (putJ t k u (P.take j)) hsj t.length ∧ Below w0.heap.size w0 wr ∧ w6.heap.size ≤ wr.heap.size ∧ (∀ b, w5.heap.size ≤ b → b < w6.heap.size → wr.heap[b]? = w6.heap[b]?)) (fun q _ => P.length - (intOf q).toNat)
  case atStart => exact ⟨0, _, Nat.zero_le _, rfl, o6, b56, Nat.le_refl _, fun _ _ _ => rfl⟩
  case round =>
    obtain ⟨j, hsj, hj, rfl, oj, hB, hS, hM⟩ := hrel
    have hsz := hB.size
    by_cases hlt : j < P.length
    · obtain ⟨y, hy⟩ : ∃ y, P[j]? = some y := ⟨P[j]'hlt, by simp⟩
      obtain ⟨bP, rfl, hb1, hb2, hcP⟩ := hc6 (by rintro rfl; simp at hlt)
      obtain ⟨p1, p2, p3⟩ := Hpa j y hy
      obtain ⟨Y, rfl, hY⟩ := in_place hs p1
      have hstep := putJ_step (v := u) (Q := P.take j) hY p2
      have htk : P.take (j + 1) = P.take j ++ [(Y : Int)] := by rw [List.take_add_one, hy]; rfl
      rw [← htk] at hstep
      have hYl : Y < (putJ t k u (P.take j)).length := by rw [putJ_len]; exact hY
      have oj' : OwnT w0.heap.size wr (.slice (some ⟨g3, 0, none⟩) (putJ t k u (P.take j)).length cap3) (putJ t k u (P.take j)) hsj (putJ t k u (P.take j)).length := by rw [putJ_len]; exact oj
      obtain ⟨a, ha⟩ := oj'.head hYl
      obtain ⟨d0, d1, d2, d3, d4, d5⟩ := oj'.vat (vx_some hYl) ha
      have fz : ∀ j, wr.frozen? ⟨g3, j, none⟩ = false := fun j => oj'.row.frozenAt j
      have cP : wr.cell? ⟨bP, j, none⟩ = some (.int .i64 (Y : Int)) := (World.cell?_of_block (a := ⟨bP, j, none⟩) (hM bP hb1 hb2)).trans (hcP j _ hy)
      have i3 : (j : Int) < (P.length : Int) := by omega
      have i4 : (Y : Int) < (t.length : Int) := by omega
      obtain ⟨r1, r2⟩ := oj'.setV hYl PV.blank rfl
      obtain ⟨w8, hw8⟩ : ∃ w8, wr.setCells g3 (Y * 6) (vcells PV.blank (.slice none 0 0)) = w8 := ⟨_, rfl⟩
      rw [hw8] at r1 r2
      rw [← hstep, putJ_len] at r1
      have HO : Hid (OwnT w0.heap.size w8 (.slice (some ⟨g3, 0, none⟩) t.length cap3) (putJ t k u (P.take (j + 1))) (hsj.set Y (.slice none 0 0)) t.length) := r1
      have HX : Hid (Below w0.heap.size w0 w8 ∧ w6.heap.size ≤ w8.heap.size ∧ (∀ b, w5.heap.size ≤ b → b < w6.heap.size → w8.heap[b]? = w6.heap[b]?)) := ⟨hB.grown r2 hsz (fun k hk => by cases hk; exact hg3B), Nat.le_trans hS r2.size, fun b h1 h2 => (r2.block b (by omega) (by simp; omega)).trans (hM b h1 h2)⟩
      simp only [World.setCells, vcells, PV.blank] at hw8
      clear r1 r2 oj oj' hstep htk hM hcP Hpa hc6 hy
      go_wp2_with (rw [hw8])
      go_roundw
      case rel => exact ⟨j + 1, _, by omega, by go_num, HO.out, HX.out⟩
      case measure => simp [intOf]; omega
    · have e : P.take j = P := List.take_of_length_le (by omega)
      rw [e, Hend.out] at oj
      have e2 : t.length = (putF t k u).length := by simp [putF]
      clear hc6 Hpa
      go_wp2_with fail
      go_ret
      exact ⟨_, hsj, rfl, by rw [← e2]; exact oj.mono b0.size, b0.trans (hB.mono b0.size)⟩

end Go.Proofs.YtdnopkpoepdihaaDoor
