/-
  The law TreeLate.
-/
import Derived.Test.YtdnopkpoepdihaaDoorUB
import Derived.Test.YtdnopkpoepdihaaDoorSG
import Derived.Deep.QuietTactic
import Derived.Deep.RegionLaw
import Derived.BigQuiet
namespace Go.Proofs.YtdnopkpoepdihaaDoor
open Go.RowKit
set_option linter.unusedSimpArgs false
set_option linter.unusedVariables false

theorem mem_take_succ {L : List Int} {q : Nat} {y : Int} (h : L[q]? = some y) (j : Int) : decide (j ∈ L.take (q + 1)) = (decide (j ∈ L.take q) || (y == j)) := by
  rw [List.take_add_one, h]
  have e : (y == j) = decide (j = y) := by
    by_cases hq : y = j
    · simp [hq]
    · simp [hq, Ne.symm hq]
  rw [e]
  simp

set_option maxHeartbeats 8000000 in
set_option maxRecDepth 100000 in
theorem late_walk (u : PV) (h : Value) (i : Int) {w : World} {vs : Value} {l : List (POp × Value)} (hs : ScriptAt w vs l) (hT : Tab w) :
    Calls Tryd.prog 11 #[u.val h, vs, .int .i64 i] w fun e w' => e = .returned (.bool true) ∧ Below w.heap.size w w' := by
  have hT1 := hT.size
  have hG := Good.grown u (l.map (·.1))
  have hgr : ∀ W, ScriptAt W vs l → Calls Tryd.prog 30 #[u.val h, vs] W fun e w' => ∃ v', e = .returned v' ∧ TreeAt w' v' (grownF u (l.map (·.1))) ∧ Below W.heap.size W w' := fun W hW => grown_any u h hW
  obtain ⟨T, hTT⟩ : ∃ T, grownF u (l.map (·.1)) = T := ⟨_, rfl⟩
  rw [hTT] at hG hgr
  clear hTT
  obtain ⟨w0, hw0⟩ : ∃ w0, w.alloc (.cells (leafCells u h) 24) = w0 := ⟨_, rfl⟩
  have b0 : Below w.heap.size w w0 := by rw [← hw0]; exact (Below.refl _ _).alloc (Nat.le_refl _) _
  have hz0 : w.heap.size < w0.heap.size := by rw [← hw0]; simp
  have bc : ∀ r, w0.cell? ⟨w.heap.size, r, none⟩ = (leafCells u h)[r]? := fun r => by rw [← hw0]; simp
  have Hbc : Hid (∀ r, w0.cell? ⟨w.heap.size, r, none⟩ = (leafCells u h)[r]?) := bc
  have Hz0 : Hid (w.heap.size < w0.heap.size) := hz0
  have hT0 := hT.below b0 hT1
  have hs0 := hs.below b0
  unfold leafCells at hw0
  unfold PV.val at hgr
  have hmg := fun (t : Tree) (hg : Good t) (W : World) (v vk vh : Value) (ks hs : List Int) (ht : TreeAt W v t) (hT : Tab W) (hi : fullB t i = true) (h1 : IntsAt W vk ks) (h2 : IntsAt W vh hs) (h3 : ks.length = (filt t i).length) (h4 : hs.length = (filt t i).length) => merge_yes hg.fit ht hT i hi u h h1 h2 h3 h4
  have had := fun (t : Tree) (hg : Good t) (W : World) (v : Value) (ht : TreeAt W v t) (hT : Tab W) (hr : ¬ (least t = lv t ∧ lv t = 32)) => add_yes hg.fit ht hT u h hr
  have han := fun (t : Tree) (hg : Good t) (W : World) (v : Value) (ht : TreeAt W v t) (hr : least t = lv t ∧ lv t = 32) => add_no hg.fit ht u h hr.1 hr.2
  unfold PV.val at hmg had han
  unfold PV.val
  go_enter Tryd.func11, Tryd.ntmps11
  go_wp2_with (rw [hw0])
  refine (anchor_any hT0).mono ?_
  rintro e w1 ⟨rfl, b1⟩
  have hs1 := hs0.below b1
  obtain ⟨c0, c1, c2, c3, c4, c5⟩ := leaf_cells b1 hz0 bc
  clear hw0
  go_wp2_with fail
  refine (hgr w1 hs1).mono ?_
  rintro e w2 ⟨v2, rfl, t2, b2⟩
  clear c0 c1 c2 c3 c4 c5
  have b12 := on b1 b2
  obtain ⟨c0, c1, c2, c3, c4, c5⟩ := leaf_cells b12 hz0 bc
  have hT2 := hT0.below b12 (by omega)
  have b02 := on b0 b12
  clear bc hgr hs hs0 hs1 b1 b2 hz0
  by_cases hr : least T = lv T ∧ lv T = 32
  · have ha := han T hG w2 v2 t2 hr
    have hml : (members T).length = 32 := by rw [members_all hr.1]; exact hr.2
    clear hmg had han
    go_wp2_with fail
    refine ha.mono ?_
    rintro e w3 ⟨rfl, b3⟩
    clear ha
    go_wp2_with (go_at_call 21; refine (refMembers_any (t2.below b3) hG.sh).mono ?_; rintro e w4 ⟨v4, rfl, o4, b4⟩; obtain ⟨ma, mcap, rfl, _⟩ := ownsRow_ints o4 (by rw [hml]; decide))
    go_ret
    exact ⟨rfl, on b02 (on b3 b4)⟩
  have ha := had T hG w2 v2 t2 hT2 hr
  have hGa := hG.add hr u
  have hla := fun {x : Nat} => late_add hG hr u (x := x)
  have hls := (least_spec T).1
  have hbT := hG.sh.bounds
  have hj32 : least T ≤ 32 := by omega
  obtain ⟨s1, s2, s3, s4⟩ := room_sh hG.sh hr
  have hjA : least T < lv (addF T u) := by rw [addF_lv]; exact s2
  clear s1 s2 s3 s4
  go_wp2_with fail
  refine ha.mono ?_
  rintro e w3 ⟨v3, hs3, rfl, o3, b3⟩
  have t3 := o3.treeF hGa.fit
  have hT3 := hT2.below b3 hT2.size
  have b03 := on b02 b3
  have Hb13 : Hid (Below w0.heap.size w0 w3) := on b12 b3
  obtain ⟨A, hA⟩ : ∃ A, addF T u = A := ⟨_, rfl⟩
  rw [hA] at t3 hGa hjA
  have Hla : Hid (∀ x : Nat, x < A.length → x % 2 = 1 → decide ((least T : Int) ∈ (vx A x).late) = (decide ((x : Int) ∈ upL (2 * (least T : Int)) (lv A)) && (vx A x).full)) := fun x h1 h2 => by
    have := hla (x := x) (by rw [hA]; exact h1) h2
    rwa [hA] at this
  obtain ⟨J, hJ⟩ : ∃ J : Nat, least T = J := ⟨_, rfl⟩
  rw [hJ] at Hla hjA hj32
  rw [hJ]
  have hbA := hGa.sh.bounds
  have HbA : Hid (1 ≤ lv A ∧ lv A ≤ 32 ∧ List.length A + 1 = 2 * lv A ∧ List.length A ≤ 63 ∧ 1 ≤ List.length A) := hbA
  have HjA : Hid (J < lv A) := hjA
  have HGA : Hid (Good A) := hGa
  have q27 : ∀ (w : World) (a : Option Addr) (n c : Nat), (Builtin.len_ #[27] 3 #[.slice a n c]).run Tryd.prog w = .ok (goInt n) w := fun w a n c => run_len_slice w _ _ _ _ _ Tryd.underlying27
  obtain ⟨va, vcap, rfl, hvl, _⟩ := id t3
  have i1 : (A.length : Int) ≤ 63 := by omega
  have i2 : (J : Int) ≤ 32 := by omega
  have i3 : (lv A : Int) ≤ 32 := by omega
  clear ha o3 c0 c1 c2 c3 c4 c5 hT0 hT hA hJ hls hla hr hT2 t2 b12 b02 b3 hbT hG hj32 hjA hbA hGa had han hvl
  go_wp2_with (rw [q27])
  go_loopw [11] (fun k wr => ∃ q : Nat, 2 * q + 1 ≤ A.length ∧ k = .int .i64 (2 * (q : Int) + 1) ∧ Below w3.heap.size w3 wr) (fun k _ => A.length - (intOf k).toNat)
  case atStart => exact ⟨0, by have := HbA.out; omega, rfl, Below.refl _ _⟩
  case round =>
    obtain ⟨q, hq, rfl, hB⟩ := hrel
    have tr := t3.below hB
    by_cases hlt : 2 * q + 1 < A.length
    · obtain ⟨X, hX⟩ : ∃ X : Nat, 2 * q + 1 = X := ⟨_, rfl⟩
      have hXi : (2 * (q : Int) + 1) = (X : Int) := by omega
      rw [hXi]
      have Hlx := Hla.out X (by omega) (by omega)
      obtain ⟨b1, o1, _, h1, e5, hb1, c0, c1, c2, c3, c4, c5, c6⟩ := tr.get (vx_some (t := A) (x := X) (by omega))
      simp only [Value.slice.injEq] at e5
      obtain ⟨rfl, -, -⟩ := e5
      obtain ⟨L, hL⟩ : ∃ L, (vx A X).late = L := ⟨_, rfl⟩
      rw [hL] at c6 Hlx
      have hLl : L.length ≤ 32 := by
        have := (HGA.out.fit.small X _ (vx_some (t := A) (x := X) (by omega))).1
        rwa [hL] at this
      obtain ⟨la, lc, rfl, _, hlc⟩ := id c6
      obtain ⟨F, hF⟩ : ∃ F, (vx A X).full = F := ⟨_, rfl⟩
      rw [hF] at c0 Hlx
      have HLx : Hid (decide ((J : Int) ∈ L) = (decide ((X : Int) ∈ upL (2 * (J : Int)) (lv A)) && F)) := Hlx
      have i4 : (X : Int) < (A.length : Int) := by omega
      have i5 : (L.length : Int) ≤ 32 := by omega
      have HXq : Hid (2 * q + 1 = X) := hX
      have Hlc : Hid (L ≠ [] → ∃ b off, la = some ⟨b, off, none⟩ ∧ b < wr.heap.size ∧ ∀ (i : Nat) (x : Int), L[i]? = some x → wr.cell? ⟨b, off + i, none⟩ = some (.int .i64 x)) := hlc
      clear Hlx hL hF hX hXi hlt hq hlc c6 hLl
      go_wp2_with (rw [q27])
      go_loop [12, 54] (fun b k => ∃ p : Nat, p ≤ L.length ∧ k = .int .i64 p ∧ b = .bool (decide ((J : Int) ∈ L.take p))) (fun _ k => L.length - (intOf k).toNat)
      case atStart => exact ⟨0, Nat.zero_le _, rfl, by simp⟩
      case round =>
        obtain ⟨p, hp, rfl, rfl⟩ := hrel
        by_cases hpl : p < L.length
        · obtain ⟨y, hy⟩ : ∃ y, L[p]? = some y := ⟨L[p], by simp [hpl]⟩
          obtain ⟨lb, lo, rfl, hlb, hcell⟩ := Hlc.out (by rintro rfl; simp at hy)
          have n0 := hcell p y hy
          have He : Hid (decide ((J : Int) ∈ L.take (p + 1)) = (decide ((J : Int) ∈ L.take p) || (y == (J : Int)))) := mem_take_succ hy _
          have i6 : (p : Int) < (L.length : Int) := by omega
          have HP : Hid (p + 1 ≤ L.length) := hpl
          obtain ⟨B, hBB⟩ : ∃ B, decide ((J : Int) ∈ L.take p) = B := ⟨_, rfl⟩
          rw [hBB] at He
          rw [hBB]
          clear hBB hcell hlb hy hp hpl HLx Hlc
          cases B with
          | true =>
            go_wp2_with fail
            exact ⟨⟨p + 1, HP.out, by go_num, by rw [He.out]; rfl⟩, by have := HP.out; simp [intOf]; omega⟩
          | false =>
            go_wp2_with fail
            exact ⟨⟨p + 1, HP.out, by go_num, by rw [He.out]; simp⟩, by have := HP.out; simp [intOf]; omega⟩
        · have i6 : ¬ ((p : Int) < (L.length : Int)) := by omega
          have ep : L.take p = L := List.take_of_length_le (by omega)
          rw [ep]
          obtain ⟨B1, hB1⟩ : ∃ B, decide ((J : Int) ∈ L) = B := ⟨_, rfl⟩
          rw [hB1] at HLx
          rw [hB1]
          obtain ⟨U, hU⟩ : ∃ U, upL (2 * (J : Int)) (lv A) = U := ⟨_, rfl⟩
          have hUl : U.length ≤ 6 := by rw [← hU]; exact upL_len _ _
          have hup := upl_any (2 * (J : Int)) (lv A) wr (by omega) (by have := HjA.out; have := HbA.out; omega) i3
          rw [hU] at hup HLx
          clear hB1 hU ep hp hpl Hlc
          go_wp2_with first
            | (go_at_call 23; refine (refLeaves_any tr).mono ?_; rintro e w' ⟨rfl, hw⟩; obtain rfl := hw.symm)
            | (go_at_call 40; refine hup.mono ?_; rintro e w5 ⟨v5, rfl, m5, b5⟩; have k5 := ownsRow_ints m5 (by omega); obtain ⟨ua, uc, rfl, _, huc⟩ := id k5; clear m5 hup)
          have c0' := (b5.cell (p := ⟨b1, o1 + X * 6, none⟩) hb1).trans c0
          have Huc : Hid (U ≠ [] → ∃ b off, ua = some ⟨b, off, none⟩ ∧ b < w5.heap.size ∧ ∀ (i : Nat) (x : Int), U[i]? = some x → w5.cell? ⟨b, off + i, none⟩ = some (.int .i64 x)) := huc
          have HB5 : Hid (Below w3.heap.size w3 w5) := on hB b5
          have i7 : (U.length : Int) ≤ 6 := by omega
          clear huc k5 b5 hB c0 c1 c2 c3 c4 c5 tr hUl
          go_loop [15, 71] (fun b k => ∃ p : Nat, p ≤ U.length ∧ k = .int .i64 p ∧ b = .bool (decide ((X : Int) ∈ U.take p))) (fun _ k => U.length - (intOf k).toNat)
          case atStart => exact ⟨0, Nat.zero_le _, rfl, by simp⟩
          case round =>
            obtain ⟨p, hp, rfl, rfl⟩ := hrel
            by_cases hpl : p < U.length
            · obtain ⟨y, hy⟩ : ∃ y, U[p]? = some y := ⟨U[p], by simp [hpl]⟩
              obtain ⟨lb, lo, rfl, hlb, hcell⟩ := Huc.out (by rintro rfl; simp at hy)
              have n0 := hcell p y hy
              have He : Hid (decide ((X : Int) ∈ U.take (p + 1)) = (decide ((X : Int) ∈ U.take p) || (y == (X : Int)))) := mem_take_succ hy _
              have i8 : (p : Int) < (U.length : Int) := by omega
              have HP : Hid (p + 1 ≤ U.length) := hpl
              obtain ⟨B, hBB⟩ : ∃ B, decide ((X : Int) ∈ U.take p) = B := ⟨_, rfl⟩
              rw [hBB] at He
              rw [hBB]
              clear hBB hcell hlb hy hp hpl HLx Huc
              cases B with
              | true =>
                go_wp2_with fail
                exact ⟨⟨p + 1, HP.out, by go_num, by rw [He.out]; rfl⟩, by have := HP.out; simp [intOf]; omega⟩
              | false =>
                go_wp2_with fail
                exact ⟨⟨p + 1, HP.out, by go_num, by rw [He.out]; simp⟩, by have := HP.out; simp [intOf]; omega⟩
            · have i8 : ¬ ((p : Int) < (U.length : Int)) := by omega
              have ep : U.take p = U := List.take_of_length_le (by omega)
              rw [ep]
              obtain ⟨B2, hB2⟩ : ∃ B, decide ((X : Int) ∈ U) = B := ⟨_, rfl⟩
              rw [hB2] at HLx
              rw [hB2]
              have hl := HLx.out
              have HQ : Hid (2 * (q + 1) + 1 ≤ A.length) := by have := HXq.out; have := HbA.out; show _ ≤ _; omega
              have HX2 : Hid (X = 2 * q + 1) := HXq.out.symm
              clear hB2 ep hp hpl Huc HLx
              cases B2 with
              | false =>
                simp only [Bool.false_and] at hl
                subst hl
                go_wp2_with fail
                go_roundw
                case rel => exact ⟨q + 1, HQ.out, by rw [HX2.out]; go_num, HB5.out⟩
                case measure => have := HX2.out; simp [intOf]; omega
              | true =>
                simp only [Bool.true_and] at hl
                subst hl
                cases B1 with
                | true =>
                  go_wp2_with fail
                  go_roundw
                  case rel => exact ⟨q + 1, HQ.out, by rw [HX2.out]; go_num, HB5.out⟩
                  case measure => have := HX2.out; simp [intOf]; omega
                | false =>
                  go_wp2_with fail
                  go_roundw
                  case rel => exact ⟨q + 1, HQ.out, by rw [HX2.out]; go_num, HB5.out⟩
                  case measure => have := HX2.out; simp [intOf]; omega
    · have i4 : ¬ ((2 * (q : Int) + 1) < (A.length : Int)) := by omega
      have hfb := refFull_any tr HGA.out.sh i
      clear hq hlt
      cases hi : fullB A i with
      | false =>
        rw [hi] at hfb
        go_wp2_with first
          | rw [q27]
          | (go_at_call 31; refine hfb.mono ?_; rintro e w' ⟨rfl, hw⟩; obtain rfl := hw.symm)
        go_ret
        exact ⟨rfl, on b03 hB⟩
      | true =>
        rw [hi] at hfb
        have hfi := Filtered_any HGA.out.fit i tr (hT3.below hB hT3.size)
        have hfl := filt_len A i
        have hri := fullB_range hi
        have Hi : Hid (fullB A i = true) := hi
        clear hi
        go_upto_region 27 with first
          | rw [q27]
          | (go_at_call 31; refine hfb.mono ?_; rintro e w' ⟨rfl, hw⟩; obtain rfl := hw.symm)
          | (go_at_call 24; refine hfi.mono ?_; rintro e w5 ⟨p5, c5v, rfl, mp, mc, b5⟩)
        have kp := ownsRow_ints mp (by simp; omega)
        obtain ⟨pa, pc, rfl, _⟩ := id kp
        have hPl : ((filt A i).map (·.1)).length = (filt A i).length := by simp
        rw [hPl]
        obtain ⟨n, hn⟩ : ∃ n, (filt A i).length = n := ⟨_, rfl⟩
        rw [hn] at hfl
        rw [hn]
        have hmk : ∀ w, (Instr.makeSlice 22 (.int .i64 (n : Int)) (.int .i64 (n : Int))).run Tryd.prog w = .ok (.slice (some ⟨w.heap.size, 0, none⟩) n n) (w.alloc (.cells (zeros n) 3)) := fun w => make_nums w n (by omega)
        have hB5 := on hB b5
        have t5 := tr.below b5
        have hT5 := hT3.below hB5 hT3.size
        have b05 := on Hb13.out hB5
        have bz : ∀ X, Below w5.heap.size w5 (w5.alloc X) := fun X => (Below.refl _ _).alloc (Nat.le_refl _) X
        have bzz : ∀ X Y, Below w5.heap.size w5 ((w5.alloc X).alloc Y) := fun X Y => ((Below.refl _ _).alloc (Nat.le_refl _) X).alloc (by simp) Y
        have HS : Hid ((Calls Tryd.prog 37 #[.slice va A.length vcap, .int .i64 i, .agg #[.bool u.full, .int .i64 u.key, .int .i64 u.client, .int .i64 u.sig, .int .i64 u.hash, h], .slice (some ⟨w5.heap.size, 0, none⟩) n n, .slice (some ⟨w5.heap.size + 1, 0, none⟩) n n] ((w5.alloc (.cells (zeros n) 3)).alloc (.cells (zeros n) 3)).drew fun e w' => ∃ v', e = .returned (.tuple #[v', .int .i64 0]) ∧ TreeAt w' v' (mergeF A i u (List.replicate n 0) (List.replicate n 0)) ∧ Below w5.heap.size w5 w') ∧
            (Calls Tryd.prog 37 #[.slice va A.length vcap, .int .i64 i, .agg #[.bool u.full, .int .i64 u.key, .int .i64 u.client, .int .i64 u.sig, .int .i64 u.hash, h], .slice (some ⟨w5.heap.size + 1, 0, none⟩) n n, .slice (some ⟨w5.heap.size, 0, none⟩) n n] ((w5.alloc (.cells (zeros n) 3)).alloc (.cells (zeros n) 3)).drew fun e w' => ∃ v', e = .returned (.tuple #[v', .int .i64 0]) ∧ TreeAt w' v' (mergeF A i u (List.replicate n 0) (List.replicate n 0)) ∧ Below w5.heap.size w5 w')) := by
          have bd : Below w5.heap.size w5 ((w5.alloc (.cells (zeros n) 3)).alloc (.cells (zeros n) 3)).drew := (bzz _ _).drew
          have g1 : ((w5.alloc (.cells (zeros n) 3)).alloc (.cells (zeros n) 3)).drew.heap[w5.heap.size]? = some (.cells (zeros n) 3) := (((Below.refl (w5.alloc (.cells (zeros n) 3)).heap.size (w5.alloc (.cells (zeros n) 3))).alloc (Nat.le_refl _) (.cells (zeros n) 3)).block w5.heap.size (by simp)).trans (heap_alloc_new w5 (.cells (zeros n) 3))
          have g2 : ((w5.alloc (.cells (zeros n) 3)).alloc (.cells (zeros n) 3)).drew.heap[w5.heap.size + 1]? = some (.cells (zeros n) 3) := by
            have := heap_alloc_new (w5.alloc (.cells (zeros n) 3)) (.cells (zeros n) 3)
            rw [show (w5.alloc (.cells (zeros n) 3)).heap.size = w5.heap.size + 1 by simp] at this
            exact this
          have k1 := ints_zeros (by omega) g1
          have k2 := ints_zeros (by omega) g2
          have hl : (List.replicate n (0 : Int)).length = (filt A i).length := by simp [hn]
          have hTd := hT5.below bd hT5.size
          refine ⟨(hmg A HGA.out _ _ _ _ _ _ (t5.below bd) hTd Hi.out k1 k2 hl hl).mono ?_, (hmg A HGA.out _ _ _ _ _ _ (t5.below bd) hTd Hi.out k2 k1 hl hl).mono ?_⟩
          all_goals
            rintro e w' ⟨v', rfl, t', b'⟩
            exact ⟨v', rfl, t', on bd b'⟩
        have Hml : Hid (∀ y ∈ upL (2 * i) (lv (mergeF A i u (List.replicate n 0) (List.replicate n 0))), ∃ m : Nat, y = m ∧ m < (mergeF A i u (List.replicate n 0) (List.replicate n 0)).length ∧ (vx (mergeF A i u (List.replicate n 0) (List.replicate n 0)) m).late = []) := fun y hy => merge_late HGA.out Hi.out u _ _ hy
        obtain ⟨kk, hkk, _, _⟩ := fullB_nat Hi.out
        have hgm : Good (mergeF A i u (List.replicate n 0) (List.replicate n 0)) := by
          rw [hkk]
          exact (HGA.out.merge (k := kk) (by rw [isF_fullB, ← hkk]; exact Hi.out) u _ _).1
        have hml : lv (mergeF A i u (List.replicate n 0) (List.replicate n 0)) = lv A := by unfold mergeF; simp [lv, laid_len, putF_len]
        obtain ⟨V, hV⟩ : ∃ V, mergeF A i u (List.replicate n 0) (List.replicate n 0) = V := ⟨_, rfl⟩
        rw [hV] at HS Hml hgm hml
        obtain ⟨c0, c1, c2, c3, c4, c5⟩ := leaf_cells b05 Hz0.out Hbc.out
        obtain ⟨d0, d1, d2, d3, d4, d5⟩ := leaf_cells (on b05 (bz (.cells (zeros n) 3))) Hz0.out Hbc.out
        obtain ⟨f0, f1, f2, f3, f4, f5⟩ := leaf_cells (on b05 (bzz (.cells (zeros n) 3) (.cells (zeros n) 3))) Hz0.out Hbc.out
        have Hri : Hid (0 ≤ i ∧ i < lv A) := hri
        have HgV : Hid (Good V) := hgm
        have i5 : (n : Int) ≤ 7 := by omega
        have Hend : Hid (∀ W, Below w5.heap.size w5 W → Below w.heap.size w W) := fun W hW => on b03 (on hB5 hW)
        clear hV hPl hn hfl mp mc kp bz bzz hmg hfi hfb hgm hri hkk b5 t5 tr hT5 hT3 b05 hB5 hB t3 b03
        go_cut [20, 21] (fun a b wx => b = .int .i64 0 ∧ TreeAt wx a V ∧ Below w5.heap.size w5 wx)
        case first =>
          go_region_with (go_at_call 37; first | (with_reducible refine Calls.mono HS.out.1 ?_; rintro e w6 ⟨v6, rfl, t6, b6⟩) | (with_reducible refine Calls.mono HS.out.2 ?_; rintro e w6 ⟨v6, rfl, t6, b6⟩))
          all_goals
            go_wp2_with fail
            go_meet
            exact ⟨rfl, t6, b6⟩
        case rest =>
        obtain ⟨rfl, t6, b6⟩ := hcut
        obtain ⟨U, hU⟩ : ∃ U, upL (2 * i) (lv V) = U := ⟨_, rfl⟩
        have hUl : U.length ≤ 6 := by rw [← hU]; exact upL_len _ _
        have hup := upl_any (2 * i) (lv V) wc (by have := Hri.out; omega) (by have := Hri.out; have := HbA.out; omega) (by rw [hml]; omega)
        rw [hU] at hup Hml
        have iri : 0 ≤ i := Hri.out.1
        have iri2 : i ≤ 32 := by have := Hri.out; omega
        have hbV := HgV.out.sh.bounds
        have i8 : (V.length : Int) ≤ 63 := by omega
        clear hU hml hbV HS c0 c1 c2 c3 c4 c5 d0 d1 d2 d3 d4 d5 f0 f1 f2 f3 f4 f5 hmk
        obtain ⟨xa, xc, rfl, _, _⟩ := id t6
        go_wp2_with first
          | (go_at_call 23; refine (refLeaves_any t6).mono ?_; rintro e w' ⟨rfl, hw⟩; obtain rfl := hw.symm)
          | (go_at_call 40; refine hup.mono ?_; rintro e w7 ⟨v7, rfl, m7, b7⟩; have k7 := ownsRow_ints m7 (by omega); obtain ⟨ua, uc, rfl, _, huc⟩ := id k7; clear m7 hup)
        have t7 := t6.below b7
        have Huc : Hid (U ≠ [] → ∃ b off, ua = some ⟨b, off, none⟩ ∧ b < w7.heap.size ∧ ∀ (i : Nat) (x : Int), U[i]? = some x → w7.cell? ⟨b, off + i, none⟩ = some (.int .i64 x)) := huc
        have HB7 : Hid (Below w.heap.size w w7) := Hend.out _ (on b6 b7)
        have i7 : (U.length : Int) ≤ 6 := by omega
        clear huc k7 b7 b6 t6 hUl
        go_loop [123] (fun k => ∃ p : Nat, p ≤ U.length ∧ k = .int .i64 p) (fun k => U.length - (intOf k).toNat)
        case atStart => exact ⟨0, Nat.zero_le _, rfl⟩
        case round =>
          obtain ⟨p, hp, rfl⟩ := hrel
          by_cases hpl : p < U.length
          · obtain ⟨y, hy⟩ : ∃ y, U[p]? = some y := ⟨U[p], by simp [hpl]⟩
            obtain ⟨lb, lo, rfl, hlb, hcell⟩ := Huc.out (by rintro rfl; simp at hy)
            have n0 := hcell p y hy
            obtain ⟨m, rfl, hm, hml2⟩ := Hml.out y (List.mem_of_getElem? hy)
            obtain ⟨x1, y1, _, h1, e5, hx1, c0, c1, c2, c3, c4, c5, c6⟩ := t7.get (vx_some hm)
            simp only [Value.slice.injEq] at e5
            obtain ⟨rfl, -, -⟩ := e5
            rw [hml2] at c6
            obtain ⟨la, lc, rfl, _, _⟩ := id c6
            have i9 : (p : Int) < (U.length : Int) := by omega
            have i10 : (m : Int) < (V.length : Int) := by omega
            have HP : Hid (p + 1 ≤ U.length) := hpl
            clear hcell hlb hy hp hpl Huc hml2 hm c6
            go_wp2_with fail
            exact ⟨⟨p + 1, HP.out, by go_num⟩, by have := HP.out; simp [intOf]; omega⟩
          · have i9 : ¬ ((p : Int) < (U.length : Int)) := by omega
            clear hp hpl
            go_wp2_with fail
            go_ret
            exact ⟨rfl, HB7.out⟩

theorem late_law {w : World} {v : Value} {a : PV × Value} (hv : VertexAt w v a) {vs : Value} {l : List (POp × Value)} (hs : ScriptAt w vs l) (i : Int) (hi : (Lit.int .i64 i).wf = true) (hT : Tab w) :
    Calls Tryd.prog 11 #[v, vs, .int .i64 i] w fun e w' => e = .returned (.bool true) ∧ Below w.heap.size w w' := by
  obtain ⟨rfl, _⟩ := hv
  exact late_walk _ _ _ hs hT

end Go.Proofs.YtdnopkpoepdihaaDoor
