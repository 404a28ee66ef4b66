/-
  The law TreeUpdates.
-/
import Derived.Test.YtdnopkpoepdihaaDoorUD0
import Derived.Test.YtdnopkpoepdihaaDoorUD1
import Derived.Test.YtdnopkpoepdihaaDoorSG
import Derived.Deep.QuietTactic
import Derived.BigQuiet
namespace Go.Proofs.YtdnopkpoepdihaaDoor
open Go.RowKit
set_option linter.unusedSimpArgs false
set_option linter.unusedVariables false

theorem mem_take_next {L : List Int} {q : Nat} {y : Int} (h : L[q]? = some y) (j : Int) : decide (j ∈ L.take (q + 1)) = (decide (j ∈ L.take q) || (j == y)) := by
  rw [List.take_add_one, h]
  have e : (j == y) = decide (j = y) := by
    by_cases hq : j = y
    · simp [hq]
    · simp [hq]
  rw [e]
  simp

theorem TreeAt.one {w : World} {b off n cap : Nat} {t : Tree} (h : TreeAt w (.slice (some ⟨b, off, none⟩) n cap) t) {x : Nat} (hx : x < t.length) (c : Nat) : TreeAt w (.slice (some ⟨b, off + x * 6, none⟩) 1 c) [vx t x] := by
  obtain ⟨b', off', cap', hd, e, hb, hv⟩ := h.get (vx_some hx)
  simp only [Value.slice.injEq, Option.some.injEq, Addr.mk.injEq] at e
  obtain ⟨⟨rfl, rfl, _⟩, _, _⟩ := e
  refine ⟨_, c, rfl, by simp, fun _ => ⟨b, off + x * 6, rfl, hb, fun y u hu => ?_⟩⟩
  have hy : y = 0 := by
    have := (List.getElem?_eq_some_iff.1 hu).1
    simp at this
    exact this
  subst hy
  simp at hu
  subst hu
  exact ⟨hd, by simpa using hv⟩

theorem own_below {B : Nat} {v : Value} {l : List Int} {w w' : World} (h : OwnI B w v l) (hb : Below w.heap.size w w') : OwnI B w' v l :=
  World.ownsRow.kept h (row := none) ⟨hb.os, hb.tape, hb.output, hb.size, fun j hj _ => hb.block j hj⟩ (by cases hv : v.ownBlock <;> simp)

theorem cap_form {w : World} {v : Value} {t : Tree} (h : TreeAt w v t) (hc : CapOk v) : ∃ a c, v = .slice a t.length c ∧ t.length ≤ c := by
  obtain ⟨a, c, rfl, _⟩ := h
  obtain ⟨a', n, c', e, hl⟩ := hc
  cases e
  exact ⟨a, c, rfl, hl⟩

set_option maxHeartbeats 8000000 in
set_option maxRecDepth 100000 in
theorem updates_walk (u : PV) (h : Value) (i key : Int) {w : World} {vs : Value} {l : List (POp × Value)} (hs : ScriptAt w vs l) (hT : Tab w) :
    Calls Tryd.prog 12 #[u.val h, vs, .int .i64 i, .int .i64 key] w fun e w' => e = .returned (.bool true) ∧ Below w.heap.size w w' := by
  have hT1 := hT.size
  have hG := Good.grown u (l.map (·.1))
  have hgr : ∀ W, ScriptAt W vs l → Calls Tryd.prog 30 #[u.val h, vs] W fun e w' => ∃ v', e = .returned v' ∧ TreeAt w' v' (grownF u (l.map (·.1))) ∧ Below W.heap.size W w' := fun W hW => grown_any u h hW
  obtain ⟨T, hTT⟩ : ∃ T, grownF u (l.map (·.1)) = T := ⟨_, rfl⟩
  rw [hTT] at hG hgr
  clear hTT
  obtain ⟨w0, hw0⟩ : ∃ w0, w.alloc (.cells (leafCells u h) 24) = w0 := ⟨_, rfl⟩
  have b0 : Below w.heap.size w w0 := by rw [← hw0]; exact (Below.refl _ _).alloc (Nat.le_refl _) _
  have hz0 : w.heap.size < w0.heap.size := by rw [← hw0]; simp
  have bc : ∀ r, w0.cell? ⟨w.heap.size, r, none⟩ = (leafCells u h)[r]? := fun r => by rw [← hw0]; simp
  have hT0 := hT.below b0 hT1
  have hs0 := hs.below b0
  unfold leafCells at hw0
  unfold PV.val at hgr
  unfold PV.val
  go_enter Tryd.func12, Tryd.ntmps12
  go_wp2_with (rw [hw0])
  refine (anchor_any hT0).mono ?_
  rintro e w1 ⟨rfl, b1⟩
  have hs1 := hs0.below b1
  obtain ⟨c0, c1, c2, c3, c4, c5⟩ := leaf_cells b1 hz0 bc
  clear hw0
  go_wp2_with fail
  refine (hgr w1 hs1).mono ?_
  rintro e w2 ⟨v2, rfl, t2, b2⟩
  clear c0 c1 c2 c3 c4 c5
  have b12 := on b1 b2
  have hT2 := hT0.below b12 (by omega)
  have b02 := on b0 b12
  obtain ⟨V, hV⟩ : ∃ V : PV, V = ⟨false, key, 0, 0, 0, []⟩ := ⟨_, rfl⟩
  obtain ⟨w3, hw3⟩ : ∃ w3, w2.alloc (.cells #[.bool false, .int .i64 key, .int .i64 0, .int .i64 0, .int .i64 0, .slice none 0 0] 24) = w3 := ⟨_, rfl⟩
  have Hw3 : Hid (w2.alloc (.cells #[.bool false, .int .i64 key, .int .i64 0, .int .i64 0, .int .i64 0, .slice none 0 0] 24) = w3) := hw3
  have b3 : Below w2.heap.size w2 w3 := by rw [← hw3]; exact (Below.refl _ _).alloc (Nat.le_refl _) _
  have hz3 : w2.heap.size < w3.heap.size := by rw [← hw3]; simp
  have bc3 : ∀ r, w3.cell? ⟨w2.heap.size, r, none⟩ = (leafCells V (.slice none 0 0))[r]? := fun r => by rw [← hw3, hV]; simp [leafCells]
  clear hw3
  have t3 := t2.below b3
  have hT3 := hT2.below b3 hT2.size
  have b03 := on b02 b3
  have hfb := fun {W : World} {v : Value} (ht : TreeAt W v T) => refFull_any ht hG.sh i
  have hfi := fun {W : World} {v : Value} (ht : TreeAt W v T) (hT : Tab W) => Filtered_any hG.fit i ht hT
  have hfl := filt_len T i
  have hPl : ((filt T i).map (·.1)).length = (filt T i).length := by simp
  obtain ⟨c0, c1, c2, c3, c4, c5⟩ := leaf_cells (Below.refl _ w3) hz3 bc3
  obtain ⟨ta, tcap, rfl, htl, _⟩ := id t3
  have hbT := hG.sh.bounds
  have i1 : (T.length : Int) ≤ 63 := by omega
  clear hgr hs hs0 hs1 b1 b2 b12 hT hT0 bc b0 hz0 t2 hT2 b02 htl
  obtain ⟨n, hn⟩ : ∃ n, (filt T i).length = n := ⟨_, rfl⟩
  have hmk : ∀ w, (Instr.makeSlice 22 (.int .i64 (n : Int)) (.int .i64 (n : Int))).run Tryd.prog w = .ok (.slice (some ⟨w.heap.size, 0, none⟩) n n) (w.alloc (.cells (zeros n) 3)) := fun w => make_nums w n (by omega)
  have i2 : (n : Int) ≤ 7 := by omega
  cases hi : fullB T i with
  | false =>
    have hu := update_no hG.fit t3 i hi V (.slice none 0 0)
    have hm := fun (W : World) (v vk vh : Value) (ht : TreeAt W v T) => merge_no hG.fit ht i hi V (.slice none 0 0) vk vh
    simp only [hi] at hfb
    unfold PV.val at hu hm
    simp only [hV] at c0 c1 c2 c3 c4 hu hm
    go_wp2_with (go_at_call 34; rw [Hw3.out]; refine hu.mono ?_; rintro e w4 ⟨rfl, b4⟩; have t4 := t3.below b4; have hT4 := hT3.below b4 hT3.size; clear hu)
    clear Hw3 c0 c1 c2 c3 c4 c5
    refine (hfi t4 hT4).mono ?_
    rintro e w5 ⟨p5, c5v, rfl, mp, mc, b5⟩
    have kp := ownsRow_ints mp (by simp; omega)
    obtain ⟨pa, pc, rfl, _⟩ := id kp
    rw [hPl, hn]
    have b35 := on b4 b5
    have bz : Below w5.heap.size w5 (w5.alloc (.cells (zeros n) 3)) := (Below.refl _ _).alloc (Nat.le_refl _) _
    obtain ⟨c0, c1, c2, c3, c4, c5⟩ := leaf_cells (on b35 bz) hz3 bc3
    simp only [hV] at c0 c1 c2 c3 c4
    clear kp mp mc
    go_wp2_with (rw [hmk])
    refine (hm _ _ _ _ (t4.below (on b5 bz))).mono ?_
    rintro e w6 ⟨rfl, b6⟩
    go_wp2_with (go_at_call 31; refine (hfb (t4.below (on b5 (on bz b6)))).mono ?_; rintro e w' ⟨rfl, hw⟩; obtain rfl := hw.symm)
    go_ret
    exact ⟨rfl, on b03 (on b35 (on bz b6))⟩
  | true =>
    have hri := fullB_range hi
    have hu := update_cap hG.fit t3 hT3 i hi V (.slice none 0 0)
    have hm := fun (W : World) (v vk vh : Value) (ks hs : List Int) (ht : TreeAt W v T) (hT : Tab W) (h1 : IntsAt W vk ks) (h2 : IntsAt W vh hs) (h3 : ks.length = (filt T i).length) (h4 : hs.length = (filt T i).length) => merge_cap hG.fit ht hT i hi V (.slice none 0 0) h1 h2 h3 h4
    have hUF := upd_facts hG hi key (List.replicate n 0) (List.replicate n 0) (by simp [hn]) (by simp [hn])
    simp only [hi] at hfb
    unfold PV.val at hu hm
    rw [← hV] at hUF
    have HV : Hid (V = ⟨false, key, 0, 0, 0, []⟩) := hV
    obtain ⟨U, hU⟩ : ∃ U, putF T i (leafV V) = U := ⟨_, rfl⟩
    have hMs : members U = members T := by
      obtain ⟨kk, hkk, _, _⟩ := fullB_nat hi
      have := hG.upd (k := kk) (by rw [isF_fullB, ← hkk]; exact hi) (leafV V) ⟨rfl, rfl⟩
      rw [← hU, hkk]
      exact members_same hG.sh this.1.sh this.2
    have hGU : Good U := by
      obtain ⟨kk, hkk, _, _⟩ := fullB_nat hi
      rw [← hU, hkk]
      exact (hG.upd (k := kk) (by rw [isF_fullB, ← hkk]; exact hi) (leafV V) ⟨rfl, rfl⟩).1
    rw [hU] at hu hUF
    simp only [hV] at c0 c1 c2 c3 c4 hu hm
    go_wp2_with (go_at_call 34; rw [Hw3.out]; refine hu.mono ?_; rintro e w4 ⟨vU, rfl, ⟨tU, hcU⟩, b4⟩; have t4 := t3.below b4; have hT4 := hT3.below b4 hT3.size; clear hu)
    clear Hw3 c0 c1 c2 c3 c4 c5
    refine (hfi t4 hT4).mono ?_
    rintro e w5 ⟨p5, c5v, rfl, mp, mc, b5⟩
    have kp := ownsRow_ints mp (by simp; omega)
    obtain ⟨pa, pc, rfl, _⟩ := id kp
    rw [hPl, hn]
    have b35 := on b4 b5
    obtain ⟨w6, hw6⟩ : ∃ w6, w5.alloc (.cells (zeros n) 3) = w6 := ⟨_, rfl⟩
    have b6 : Below w5.heap.size w5 w6 := by rw [← hw6]; exact (Below.refl _ _).alloc (Nat.le_refl _) _
    have kz : IntsAt w6 (.slice (some ⟨w5.heap.size, 0, none⟩) n n) (List.replicate n 0) := ints_zeros (by omega) (by rw [← hw6]; exact heap_alloc_new w5 _)
    obtain ⟨c0, c1, c2, c3, c4, c5⟩ := leaf_cells (on b35 b6) hz3 bc3
    simp only [hV] at c0 c1 c2 c3 c4
    have b46 := on b5 b6
    have hm2 := hm _ _ _ _ _ _ (t4.below b46) (hT4.below b46 hT4.size) kz kz (by simp [hn]) (by simp [hn])
    rw [← HV.out] at hm2
    obtain ⟨W, hW⟩ : ∃ W, mergeF T i V (List.replicate n 0) (List.replicate n 0) = W := ⟨_, rfl⟩
    rw [hW] at hm2 hUF
    clear mp mc hm
    go_wp2_with first | rw [hmk] | rw [hw6]
    refine hm2.mono ?_
    rintro e w7 ⟨vW, rfl, ⟨tW, hcW⟩, b7⟩
    have kp' : IntsAt w5 (.slice pa n pc) (fpath T i) := by rw [← hn, ← hPl]; exact kp
    have hpn : (fpath T i).length = n := by unfold fpath; omega
    obtain ⟨ua, uc, rfl, hul⟩ := cap_form tU hcU
    obtain ⟨xa, xc, rfl, hxl⟩ := cap_form tW hcW
    have b47 := on b46 b7
    have b57 := on b6 b7
    have t7 := t4.below b47
    have u7 := tU.below b47
    have p7 := kp'.below b57
    have hT7 := hT4.below b47 hT4.size
    have b37 := on b4 b47
    have b07 := on b03 b37
    have q27 : ∀ (w : World) (a : Option Addr) (n c : Nat), (Builtin.len_ #[27] 3 #[.slice a n c]).run Tryd.prog w = .ok (goInt n) w := fun w a n c => run_len_slice w _ _ _ _ _ Tryd.underlying27
    have e1 : ((U.length : Int) != (T.length : Int)) = false := by have := hUF.lenU; simp; omega
    have e2 : ((W.length : Int) != (T.length : Int)) = false := by have := hUF.lenW; simp; omega
    have i3 : (U.length : Int) ≤ 63 := by have := hUF.lenU; omega
    have i4 : (W.length : Int) ≤ 63 := by have := hUF.lenW; omega
    have i5 : (U.length : Int) ≤ (uc : Int) := by omega
    have i6 : (W.length : Int) ≤ (xc : Int) := by omega
    have HUF : Hid (UpdFacts T U W i key (upL (2 * i) (lv T)) (fpath T i)) := hUF
    have hUPl := upL_len (2 * i) (lv T)
    have hup := fun W => upl_any (2 * i) (lv T) W (by omega) (by omega) (by omega)
    obtain ⟨UP, hUP⟩ : ∃ UP, upL (2 * i) (lv T) = UP := ⟨_, rfl⟩
    rw [hUP] at HUF hUPl hup
    obtain ⟨P, hP⟩ : ∃ P, fpath T i = P := ⟨_, rfl⟩
    rw [hP] at HUF p7 hpn
    have HMs : Hid (members U = members T) := hMs
    have HGU : Hid (Good U) := hGU
    have HGT : Hid (Good T) := hG
    have Hpn : Hid (P.length = n) := hpn
    have iri : 0 ≤ i := hri.1
    have iri2 : i ≤ 32 := by omega
    have ilv : (lv T : Int) ≤ 32 := by omega
    have i7 : (UP.length : Int) ≤ 6 := by omega
    obtain ⟨g, hg0⟩ : ∃ g, U.length = g := ⟨_, rfl⟩
    have Hfb : Hid (∀ W v, TreeAt W v T → Calls Tryd.prog 31 #[v, .int .i64 i] W fun e w' => e = .returned (.bool true) ∧ w' = W) := fun W v ht => hfb ht
    clear hg0 g hUP hP hMs hGU hG hpn kp kp' hUF hcU hcW hm2 tU b47 b57 b46 b4 b5 b6 b7 b35 b37 b3 hw6 hW hU hV c0 c1 c2 c3 c4 c5 hmk hfi t4 hT4 kz t3 hT3 hbT hn hPl hfl hUPl hri hi hz3 bc3 b03 hul hxl hfb
    go_wp2_with first
      | rw [q27]
      | (go_at_call 31; refine (Hfb.out _ _ t7).mono ?_; rintro e w' ⟨rfl, hw⟩; obtain rfl := hw.symm)
    obtain ⟨i0, hi0, hz0, hz1, hz2⟩ := info_parts Tryd.infoI
    go_loopw [18, 93] (fun c k wr => ∃ j : Nat, j ≤ T.length ∧ k = .int .i64 j ∧ OwnI w7.heap.size wr c (fulls W i UP j) ∧ Below w7.heap.size w7 wr) (fun _ k _ => T.length - (intOf k).toNat)
    case atStart => exact ⟨0, Nat.zero_le _, rfl, World.ownsRow_nil _ _ _ _, Below.refl _ _⟩
    case round =>
      obtain ⟨j, hj, rfl, hown, hB⟩ := hrel
      by_cases hlt : j < T.length
      · have HJ : Hid (j + 1 ≤ T.length) := hlt
        have hFs := fulls_succ W i UP j
        have i8 : (j : Int) < (T.length : Int) := by omega
        have tr := t7.below hB
        have ur := u7.below hB
        have xr := tW.below hB
        have hF := HUF.out
        clear hj hlt
        go_wp2_with first
          | (go_at_call 23; refine (refLeaves_any tr).mono ?_; rintro e w' ⟨rfl, hw⟩; obtain rfl := hw.symm)
          | (go_at_call 40; refine (hup wr).mono ?_; rintro e w8 ⟨v8, rfl, m8, b8⟩; have k8 := ownsRow_ints m8 (by omega); obtain ⟨ya, yc, rfl, _, hyc⟩ := id k8; clear m8)
        have Hyc : Hid (UP ≠ [] → ∃ b off, ya = some ⟨b, off, none⟩ ∧ b < w8.heap.size ∧ ∀ (i : Nat) (x : Int), UP[i]? = some x → w8.cell? ⟨b, off + i, none⟩ = some (.int .i64 x)) := hyc
        have hB8 := on hB b8
        have t8 := tr.below b8
        have ut8 := ur.below b8
        have x8 := xr.below b8
        have own8 : OwnI w7.heap.size w8 u18 (fulls W i UP j) := own_below hown b8
        clear hyc k8 hown tr ur xr b8 hB
        go_loop [20, 102] (fun b k => ∃ p : Nat, p ≤ UP.length ∧ k = .int .i64 p ∧ b = .bool (decide ((j : Int) ∈ UP.take p))) (fun _ k => UP.length - (intOf k).toNat)
        case atStart => exact ⟨0, Nat.zero_le _, rfl, by simp⟩
        case round =>
          obtain ⟨p, hp, rfl, rfl⟩ := hrel
          by_cases hpl : p < UP.length
          · obtain ⟨y, hy⟩ : ∃ y, UP[p]? = some y := ⟨UP[p], by simp [hpl]⟩
            obtain ⟨lb, lo, rfl, hlb, hcell⟩ := Hyc.out (by rintro rfl; simp at hy)
            have n0 := hcell p y hy
            have He : Hid (decide ((j : Int) ∈ UP.take (p + 1)) = (decide ((j : Int) ∈ UP.take p) || ((j : Int) == y))) := mem_take_next hy _
            have i9 : (p : Int) < (UP.length : Int) := by omega
            have HP : Hid (p + 1 ≤ UP.length) := hpl
            obtain ⟨B, hBB⟩ : ∃ B, decide ((j : Int) ∈ UP.take p) = B := ⟨_, rfl⟩
            rw [hBB] at He
            rw [hBB]
            clear hBB hcell hlb hy hp hpl Hyc hF hFs
            cases B with
            | true =>
              go_wp2_with fail
              exact ⟨⟨p + 1, HP.out, by go_num, by rw [He.out]; rfl⟩, by have := HP.out; simp [intOf]; omega⟩
            | false =>
              go_wp2_with fail
              exact ⟨⟨p + 1, HP.out, by go_num, by rw [He.out]; simp⟩, by have := HP.out; simp [intOf]; omega⟩
          · have i9 : ¬ ((p : Int) < (UP.length : Int)) := by omega
            have ep : UP.take p = UP := List.take_of_length_le (by omega)
            rw [ep]
            have hjT : j < T.length := by omega
            obtain ⟨tb, toff, _, th, et, htb, tc0, tc1, tc2, tc3, tc4, tc5, tc6⟩ := t8.get (vx_some hjT)
            simp only [Value.slice.injEq] at et
            obtain ⟨rfl, -, -⟩ := et
            obtain ⟨la, lc, rfl, _, _⟩ := id tc6
            obtain ⟨ub, uo, _, uh, eu, hub, uc0, uc1, uc2, uc3, uc4, uc5, uc6⟩ := ut8.get (vx_some (t := U) (x := j) (by rw [hF.lenU]; exact hjT))
            simp only [Value.slice.injEq] at eu
            obtain ⟨rfl, -, -⟩ := eu
            obtain ⟨xb, xo, _, xh, ex, hxb, xc0, xc1, xc2, xc3, xc4, xc5, xc6⟩ := x8.get (vx_some (t := W) (x := j) (by rw [hF.lenW]; exact hjT))
            simp only [Value.slice.injEq] at ex
            obtain ⟨rfl, -, -⟩ := ex
            obtain ⟨w9, hw9⟩ : ∃ w9, w8.alloc (.cells (leafCells (vx T j) (.slice la (vx T j).late.length lc)) 24) = w9 := ⟨_, rfl⟩
            have b9 : Below w8.heap.size w8 w9 := by rw [← hw9]; exact (Below.refl _ _).alloc (Nat.le_refl _) _
            have hz9 : w8.heap.size < w9.heap.size := by rw [← hw9]; simp
            have hx9 : ∀ r, w9.cell? ⟨w8.heap.size, r, none⟩ = (leafCells (vx T j) (.slice la (vx T j).late.length lc))[r]? := fun r => by rw [← hw9]; simp
            have t9 : TreeAt w9 (.slice (some ⟨w8.heap.size, 0, none⟩) 1 1) [vx T j] := tree_one hx9 hz9 (tc6.below b9)
            have ut9 := ut8.below b9
            have xt9 := x8.below b9
            have own9 := own_below own8 b9
            have hB9 := on hB8 b9
            have i10 : (j : Int) < (U.length : Int) := by have := hF.lenU; omega
            have i11 : (j : Int) < (W.length : Int) := by have := hF.lenW; omega
            have yu0 := (b9.cell (p := ⟨ub, _, none⟩) hub).trans uc0
            have yu1 := (b9.cell (p := ⟨ub, _, none⟩) hub).trans uc1
            have yx0 := (b9.cell (p := ⟨xb, _, none⟩) hxb).trans xc0
            have yx1 := (b9.cell (p := ⟨xb, _, none⟩) hxb).trans xc1
            clear ep hp hpl Hyc tc6 uc0 uc1 uc2 uc3 uc4 uc5 uc6 xc0 xc1 xc2 xc3 xc4 xc5 xc6 ut8 x8 t8 own8 hB8 hx9 hz9 hub hxb htb
            unfold leafCells at hw9
            by_cases hown2 : (j : Int) = 2 * i
            · have k1 : ((j : Int) == 2 * i) = true := by simp [hown2]
              obtain ⟨f1, f2, f3, f4⟩ := hF.own j hjT hown2
              have HF : Hid (OwnI w7.heap.size w9 u18 (fulls W i UP (j + 1))) := by
                show OwnI _ _ _ _
                rw [hFs, if_neg (by simp [hown2]), List.append_nil]
                exact own9
              rw [f3] at yu0
              rw [f1] at yu1
              rw [f4] at yx0
              rw [f2] at yx1
              clear hF hFs hown2 f1 f2 f3 f4 own9 hjT
              go_wp2_with (rw [hw9])
              go_roundw
              case rel => exact ⟨j + 1, HJ.out, by go_num, HF.out, hB9⟩
              case measure => have := HJ.out; simp [intOf]; omega
            · have k1 : ((j : Int) == 2 * i) = false := by simp [hown2]
              by_cases hup2 : (j : Int) ∈ UP
              · have f1 := hF.above j hjT hown2 hup2
                have k2 : decide ((j : Int) ∈ UP) = true := by simp [hup2]
                rw [k2]
                rw [f1] at yu0
                have HD : Hid (fulls W i UP (j + 1) = fulls W i UP j ++ (if (vx W j).full then [(j : Int)] else [])) := by
                  show _ = _
                  rw [hFs]
                  simp [hown2, hup2]
                have hfl := fulls_len W i UP j
                clear hF hFs hown2 hup2 f1 k2
                cases hWf : (vx W j).full with
                | false =>
                  rw [hWf] at yx0 HD
                  have HF : Hid (OwnI w7.heap.size w9 u18 (fulls W i UP (j + 1))) := by
                    show OwnI _ _ _ _
                    rw [HD.out, if_neg (by simp), List.append_nil]
                    exact own9
                  clear own9 HD
                  go_wp2_with (rw [hw9])
                  go_roundw
                  case rel => exact ⟨j + 1, HJ.out, by go_num, HF.out, hB9⟩
                  case measure => have := HJ.out; simp [intOf]; omega
                | true =>
                  rw [hWf] at yx0 HD
                  obtain ⟨R, hR⟩ : ∃ R, fulls W i UP j = R := ⟨_, rfl⟩
                  rw [hR] at own9 HD hfl
                  have Hm1 : Hid (R.length + 1 ≤ maxLen) := by show _ ≤ maxLen; unfold maxLen; omega
                  have Hm2 : Hid ((R.length + 1) * 8 ≤ 140737488355328) := by show _ ≤ _; omega
                  have hp0 : w7.heap.size ≤ (w9.alloc (.cells #[.int .i64 (j : Int)] 3)).heap.size := by have := hB9.size; simp; omega
                  clear hR hfl
                  go_wp2_with first
                    | rw [hw9]
                    | (refine wpList_append_own_at _ rfl (.tmp 167) (.tmp 169) 22 rfl w7.heap.size 3 i0 (.int .i64 0) 1 8 Tryd.underlying22 hi0 hz0 hz1 hz2 rfl Nat.one_pos _ R.length _ rfl (own9.alloc _) ⟨w9.heap.size, 0, none⟩ 1 1 [.int .i64 (j : Int)] rfl rfl (cell_one_new _ _ _) (one_int _) Hm1.out Hm2.out hp0 ?_; intro v10 w10 ho10 hg10 hnil10 hl10)
                  have b10 := (hB9.alloc hB9.size (.cells #[.int .i64 (j : Int)] 3)).grown hg10 hp0 (fun k hk => (own9.lt k hk).1)
                  go_roundw
                  case rel => exact ⟨j + 1, HJ.out, by go_num, by rw [HD.out]; simpa [OwnI] using ho10, b10⟩
                  case measure => have := HJ.out; simp [intOf]; omega
              · obtain ⟨f1, f2⟩ := hF.same j hjT hown2 hup2
                have k2 : decide ((j : Int) ∈ UP) = false := by simp [hup2]
                rw [k2]
                have HF : Hid (OwnI w7.heap.size w9 u18 (fulls W i UP (j + 1))) := by
                  show OwnI _ _ _ _
                  rw [hFs, if_neg (by simp [hup2]), List.append_nil]
                  exact own9
                have u1 := fun c => TreeAt.one ut9 (x := j) (by rw [hF.lenU]; exact hjT) c
                have x1 := fun c => TreeAt.one xt9 (x := j) (by rw [hF.lenW]; exact hjT) c
                rw [f1] at u1
                rw [f2] at x1
                clear hF hFs hown2 hup2 f1 f2 own9 k2 ut9 xt9
                go_wp2_with first
                  | rw [hw9]
                  | (go_at_call 16; with_reducible refine Calls.mono (same_eq t9 (u1 _)) ?_; rintro e w10 ⟨rfl, b10⟩; have t10 := t9.below b10; have x10 := fun c => (x1 c).below b10)
                  | (go_at_call 16; with_reducible refine Calls.mono (same_eq t10 (x10 _)) ?_; rintro e w11 ⟨rfl, b11⟩)
                have HF11 : Hid (OwnI w7.heap.size w11 u18 (fulls W i UP (j + 1)) ∧ Below w7.heap.size w7 w11) := ⟨own_below HF.out (on b10 b11), on hB9 (on b10 b11)⟩
                go_roundw
                case rel => exact ⟨j + 1, HJ.out, by go_num, HF11.out⟩
                case measure => have := HJ.out; simp [intOf]; omega
      · have ej : j = T.length := by omega
        have i8 : ¬ ((j : Int) < (T.length : Int)) := by omega
        obtain ⟨hpl, hpc⟩ := fulls_perm HUF.out
        rw [ej] at hown
        obtain ⟨FL, hFL⟩ : ∃ FL, fulls W i UP T.length = FL := ⟨_, rfl⟩
        rw [hFL] at hown hpl hpc
        have hpn := Hpn.out
        have kf := ownsRow_ints hown (by omega)
        obtain ⟨fa, fc, rfl, _, hfc⟩ := id kf
        have tr := t7.below hB
        have ur := u7.below hB
        obtain ⟨pa', pc', epv, _, hpcell⟩ := p7.below hB
        simp only [Value.slice.injEq] at epv
        obtain ⟨rfl, -, rfl⟩ := epv
        have i9 : (FL.length : Int) ≤ 7 := by omega
        have e5 : ((n : Int) == (FL.length : Int)) = true := by simp; omega
        have HpL : Hid (∀ p : Nat, p < n → ∃ y b off, P[p]? = some y ∧ pa = some ⟨b, off, none⟩ ∧ wr.cell? ⟨b, off + p, none⟩ = some (.int .i64 y) ∧ FL.count y = 1) := fun p hp => by
          obtain ⟨y, hy⟩ : ∃ y, P[p]? = some y := ⟨P[p]'(by omega), by simp⟩
          obtain ⟨b, off, e, _, hc⟩ := hpcell (by rintro rfl; simp at hy)
          exact ⟨y, b, off, hy, e, hc p y hy, hpc y (List.mem_of_getElem? hy)⟩
        have Hfc : Hid (FL ≠ [] → ∃ b off, fa = some ⟨b, off, none⟩ ∧ b < wr.heap.size ∧ ∀ (i : Nat) (x : Int), FL[i]? = some x → wr.cell? ⟨b, off + i, none⟩ = some (.int .i64 x)) := hfc
        have HB07 : Hid (Below w.heap.size w wr) := on b07 hB
        clear hfc hpcell kf hown ej hFL hpl hpc hpn HUF hj hlt p7 t7 u7 tW hB
        go_wp2_with fail
        go_loop [24, 193] (fun nn k => ∃ p : Nat, p ≤ n ∧ k = .int .i64 p ∧ nn = .int .i64 p) (fun _ k => n - (intOf k).toNat)
        case atStart => exact ⟨0, Nat.zero_le _, rfl, rfl⟩
        case round =>
          obtain ⟨p, hp, rfl, rfl⟩ := hrel
          by_cases hpl : p < n
          · obtain ⟨y, b, off, hy, rfl, hc, hcnt⟩ := HpL.out p hpl
            have i10 : (p : Int) < (n : Int) := by omega
            have HP : Hid (p + 1 ≤ n) := hpl
            have Hcnt : Hid (FL.count y = 1) := hcnt
            clear hcnt hy hp hpl HpL
            go_wp2_with fail
            go_loop [24, 199] (fun nn k => ∃ q : Nat, q ≤ FL.length ∧ k = .int .i64 q ∧ nn = .int .i64 ((p : Int) + ((FL.take q).count y : Nat))) (fun _ k => FL.length - (intOf k).toNat)
            case atStart => exact ⟨0, Nat.zero_le _, rfl, by simp⟩
            case round =>
              obtain ⟨q, hq, rfl, rfl⟩ := hrel
              by_cases hql : q < FL.length
              · obtain ⟨z, hz⟩ : ∃ z, FL[q]? = some z := ⟨FL[q], by simp [hql]⟩
                obtain ⟨fb, fo, rfl, hfb2, hcell⟩ := Hfc.out (by rintro rfl; simp at hz)
                have n0 := hcell q z hz
                have i11 : (q : Int) < (FL.length : Int) := by omega
                have HQ : Hid (q + 1 ≤ FL.length) := hql
                have hct : (FL.take (q + 1)).count y = (FL.take q).count y + (if y = z then 1 else 0) := by
                  rw [List.take_add_one, hz, List.count_append]
                  congr 1
                  by_cases hyz : y = z
                  · simp [hyz]
                  · simp [hyz, List.count_cons, Ne.symm hyz]
                have hcl : ((FL.take q).count y : Int) ≤ 7 := by
                  have := List.count_le_length (a := y) (l := FL.take q)
                  have : (FL.take q).length ≤ FL.length := by simp; omega
                  omega
                obtain ⟨C, hC⟩ : ∃ C : Nat, (FL.take q).count y = C := ⟨_, rfl⟩
                rw [hC] at hct hcl
                rw [hC]
                have Hct : Hid ((FL.take (q + 1)).count y = C + (if y = z then 1 else 0)) := hct
                clear hC hct hcell hz hq hql hfb2 Hfc
                by_cases hyz : y = z
                · have k1 : (y == z) = true := by simp [hyz]
                  have HR : Hid ((FL.take (q + 1)).count y = C + 1) := by show _ = _; rw [Hct.out, if_pos hyz]
                  clear Hct hyz
                  go_wp2_with fail
                  exact ⟨⟨q + 1, HQ.out, by go_num, by rw [HR.out]; go_num⟩, by have := HQ.out; simp [intOf]; omega⟩
                · have k1 : (y == z) = false := by simp [hyz]
                  have HR : Hid ((FL.take (q + 1)).count y = C) := by show _ = _; rw [Hct.out, if_neg hyz]; rfl
                  clear Hct hyz
                  go_wp2_with fail
                  exact ⟨⟨q + 1, HQ.out, by go_num, by rw [HR.out]⟩, by have := HQ.out; simp [intOf]; omega⟩
              · have i11 : ¬ ((q : Int) < (FL.length : Int)) := by omega
                have eq1 : FL.take q = FL := List.take_of_length_le (by omega)
                rw [eq1, Hcnt.out]
                clear hq hql eq1 Hfc
                go_wp2_with fail
                exact ⟨⟨p + 1, HP.out, by go_num, by go_num⟩, by have := HP.out; simp [intOf]; omega⟩
          · have ep : p = n := by omega
            subst ep
            have i10 : ¬ ((p : Int) < (p : Int)) := by omega
            have hmT := membersN_len T (lv T)
            have HML : Hid (((members T).length : Int) ≤ 9223372036854775807) := by
              show ((membersN T (lv T)).length : Int) ≤ _
              omega
            clear hp hpl HpL Hfc hmT
            go_wp2_with first
              | (go_at_call 20; with_reducible refine Calls.mono (Members_any ur HGU.out.sh) ?_; rintro e w11 ⟨v11, rfl, m11, b11⟩; rw [HMs.out] at m11; have m11' := m11.ints HML.out; have tr11 := tr.below b11; clear m11)
              | (go_at_call 20; with_reducible refine Calls.mono (Members_any tr11 HGT.out.sh) ?_; rintro e w12 ⟨v12, rfl, m12, b12⟩; have m12' := m12.ints HML.out; have m11'' := m11'.below b12; clear m12)
              | (go_at_call 19; refine (ints_any m11'' m12').mono ?_; rintro e w13 ⟨rfl, b13⟩; rw [decide_eq_true (rfl : members T = members T)])
            go_ret
            exact ⟨rfl, on HB07.out (on b11 (on b12 b13))⟩

theorem updates_law {w : World} {v : Value} {a : PV × Value} (hv : VertexAt w v a) {vs : Value} {l : List (POp × Value)} (hs : ScriptAt w vs l) (i : Int) (hi : (Lit.int .i64 i).wf = true) (key : Int) (hk : (Lit.int .i64 key).wf = true) (hT : Tab w) :
    Calls Tryd.prog 12 #[v, vs, .int .i64 i, .int .i64 key] w fun e w' => e = .returned (.bool true) ∧ Below w.heap.size w w' := by
  obtain ⟨rfl, _⟩ := hv
  exact updates_walk _ _ _ _ hs hT

end Go.Proofs.YtdnopkpoepdihaaDoor
