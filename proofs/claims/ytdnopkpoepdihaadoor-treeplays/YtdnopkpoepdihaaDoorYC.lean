/-
  The law TreePlays.
-/
import Derived.Test.YtdnopkpoepdihaaDoorYB
import Derived.Test.YtdnopkpoepdihaaDoorSG
import Derived.Deep.QuietTactic
import Derived.BigQuiet
namespace Go.Proofs.YtdnopkpoepdihaaDoor
open Go.RowKit
set_option linter.unusedSimpArgs false
set_option linter.unusedVariables false

theorem made_ints {B : Nat} {w : World} {v : Value} {l : List Int} (h : Made B w v l) (hl : (l.length : Int) ≤ 9223372036854775807) : IntsAt w v l := h.ints hl

set_option maxHeartbeats 8000000 in
set_option maxRecDepth 100000 in
theorem plays_walk (u : PV) (h : Value) {w : World} {vs : Value} {l : List (POp × Value)} (hs : ScriptAt w vs l) (hT : Tab w) :
    Calls Tryd.prog 3 #[u.val h, vs] w fun e w' => e = .returned (.bool true) ∧ Below w.heap.size w w' := by
  have hT1 := hT.size
  have hN := fun W => New_any u h W
  have hfl := fun W => refLeaf_any u h W
  unfold PV.val at *
  obtain ⟨w0, hw0⟩ : ∃ w0, w.alloc (.cells (leafCells u h) 24) = w0 := ⟨_, rfl⟩
  have b0 : Below w.heap.size w w0 := by rw [← hw0]; exact (Below.refl _ _).alloc (Nat.le_refl _) _
  have hz0 : w.heap.size < w0.heap.size := by rw [← hw0]; simp
  have bc : ∀ r, w0.cell? ⟨w.heap.size, r, none⟩ = (leafCells u h)[r]? := fun r => by rw [← hw0]; simp
  have hT0 := hT.below b0 hT1
  have hs0 := hs.below b0
  unfold leafCells at hw0
  go_enter Tryd.func3, Tryd.ntmps3
  go_wp2_with (rw [hw0])
  refine (anchor_any hT0).mono ?_
  rintro e w1 ⟨rfl, b1⟩
  obtain ⟨c0, c1, c2, c3, c4, c5⟩ := leaf_cells b1 hz0 bc
  have hs1 := hs0.below b1
  obtain ⟨sa, scap, rfl, hsl, _⟩ := id hs1
  clear hw0 hs hs0
  by_cases h3 : (300 : Int) < (l.length : Int)
  · go_wp2_with fail
    go_ret
    exact ⟨rfl, on b0 b1⟩
  have hl3 : (l.length : Int) ≤ 300 := by omega
  go_wp2_with fail
  refine (hN w1).mono ?_
  rintro e w2 ⟨v2, rfl, t2, b2⟩
  have b12 := on b1 b2
  clear c0 c1 c2 c3 c4 c5
  obtain ⟨c0, c1, c2, c3, c4, c5⟩ := leaf_cells b12 hz0 bc
  go_wp2_with fail
  refine (hfl w2).mono ?_
  rintro e w3 ⟨rfl, b3⟩
  clear c0 c1 c2 c3 c4 c5
  have h1t := treeAt_one w3 (leafV u) rfl
  obtain ⟨w4, hw4⟩ : ∃ w4, w3.alloc (.cells #[.bool (leafV u).full, .int .i64 (leafV u).key, .int .i64 (leafV u).client, .int .i64 (leafV u).sig, .int .i64 (leafV u).hash, .slice none 0 0] 24) = w4 := ⟨_, rfl⟩
  rw [hw4] at h1t
  have b4 : Below w3.heap.size w3 w4 := by rw [← hw4]; exact (Below.refl _ _).alloc (Nat.le_refl _) _
  have b14 := on b2 (on b3 b4)
  have b04 := on b0 (on b1 b14)
  have hs4 := hs1.below b14
  have t4 := t2.below (on b3 b4)
  have hT4 := hT.below b04 hT1
  have hg0 := Good.one u
  go_wp2_with (rw [hw4])
  clear hw4 hN hfl bc hz0 b1 b2 b12 b3 b4 b14 hs1 hT hT0 hT1 t2 b0
  have HT4 : Hid (Tab w4) := hT4
  have Hs4 : Hid (ScriptAt w4 (.slice sa l.length scap) l) := hs4
  clear hT4 hs4
  go_loopw [5, 6, 29] (fun a b k wr => ∃ (j : Nat) (P : Tree), j ≤ l.length ∧ k = .int .i64 j ∧ Good P ∧ TreeAt wr a P ∧ TreeAt wr b P ∧ Below w4.heap.size w4 wr) (fun _ _ k _ => l.length - (intOf k).toNat)
  case atStart => exact ⟨0, [leafV u], Nat.zero_le _, rfl, hg0, t4, h1t, Below.refl _ _⟩
  case round =>
    obtain ⟨j, P, hj, rfl, hG, hta, htb, hB⟩ := hrel
    clear hg0 t4 h1t
    by_cases hlt : j < l.length
    · obtain ⟨o, oh, ho⟩ : ∃ o oh, l[j]? = some (o, oh) := ⟨l[j].1, l[j].2, by simp [hlt]⟩
      obtain ⟨sb, soff, _, hsv, hsbl, hoh, hoc⟩ := (Hs4.out.below hB).get ho
      obtain ⟨la, lcap, rfl, _⟩ := id hoh
      simp only [Value.slice.injEq] at hsv
      obtain ⟨rfl, -, -⟩ := hsv
      obtain ⟨c0, c1, c2, c3, c4, c5, c6, c7, c8⟩ := op_cells hoc
      have i1 : (j : Int) < (l.length : Int) := by omega
      have HJ : Hid (j + 1 ≤ l.length) := hlt
      obtain ⟨w5, hw5⟩ : ∃ w5, wr.alloc (.cells (opCells o (.slice la o.leaf.late.length lcap)) 31) = w5 := ⟨_, rfl⟩
      have b5 : Below wr.heap.size wr w5 := by rw [← hw5]; exact (Below.refl _ _).alloc (Nat.le_refl _) _
      have hz5 : wr.heap.size < w5.heap.size := by rw [← hw5]; simp
      have bd : ∀ r, w5.cell? ⟨wr.heap.size, r, none⟩ = (opCells o (.slice la o.leaf.late.length lcap))[r]? := fun r => by rw [← hw5]; simp
      have Hbd : Hid (∀ r, w5.cell? ⟨wr.heap.size, r, none⟩ = (opCells o (.slice la o.leaf.late.length lcap))[r]?) := bd
      have Hz5 : Hid (wr.heap.size < w5.heap.size) := hz5
      have ta5 := hta.below b5
      have tb5 := htb.below b5
      have hB5 := on hB b5
      have hT5 := HT4.out.below hB5 HT4.out.size
      have hck := fun {W : World} {v : Value} (ht : TreeAt W v P) (hT : Tab W) => Check_any ht hT
      rw [good_iff.2 hG] at hck
      have HS : Hid (∀ W a b, TreeAt W a P → TreeAt W b P → Tab W → Calls Tryd.prog 18 #[a, b, o.val (.slice la o.leaf.late.length lcap)] W fun e w' => StepPost W e w') := fun W a b h1 h2 h3 => step_any hG h1 h2 h3 o _
      have Hck : Hid (∀ W v, TreeAt W v P → Tab W → Calls Tryd.prog 17 #[v] W fun e w' => e = .returned (.bool true) ∧ Below W.heap.size W w') := fun W v h1 h2 => hck h1 h2
      unfold POp.val at HS
      unfold opCells at hw5
      have Hw5 : Hid (_ = w5) := hw5
      have HG : Hid (Good P) := hG
      clear hw5 hoc hoh ho hsbl hlt hj bd hz5 hck hta htb b5 hG
      go_upto_region 12 with first
        | (go_at_call 16; rw [Hw5.out]; refine (same_eq ta5 tb5).mono ?_; rintro e w6 ⟨rfl, b6⟩; have tb6 := tb5.below b6; have ta6 := ta5.below b6; have hT6 := hT5.below b6 hT5.size; have hB6 := on hB5 b6)
        | (go_at_call 17; refine (Hck.out _ _ ta6 hT6).mono ?_; rintro e w7 ⟨rfl, b7⟩)
      have b57 := on b6 b7
      have ta7 := ta6.below b7
      have tb7 := tb6.below b7
      have hT7 := hT6.below b7 hT6.size
      have hB7 := on hB6 b7
      have Hb57 : Hid (Below w5.heap.size w5 w7) := b57
      clear c0 c1 c2 c3 c4 c5 c6 c7 c8 Hw5 ta5 tb5 ta6 tb6 b6 b7 hB6 hT6 hT5 hB5 b57 Hck
      obtain ⟨d0, d1, d2, d3, d4, d5, d6, d7, d8⟩ := step_cells Hb57.out Hz5.out Hbd.out
      go_wp2_with fail
      refine (HS.out w7 _ _ ta7 tb7 hT7).mono ?_
      rintro e w8 ⟨a8, b8v, Q, rfl, hQ, qa, qb, b8⟩
      obtain ⟨qaa, qac, rfl, hql, _⟩ := id qa
      obtain ⟨qba, qbc, rfl, _, _⟩ := id qb
      have ta8 := ta7.below b8
      have tb8 := tb7.below b8
      have hB8 := on hB7 b8
      have Hb58 : Hid (Below w5.heap.size w5 w8) := on Hb57.out b8
      clear d0 d1 d2 d3 d4 d5 d6 d7 d8 ta7 tb7 hT7 hB7 Hb57 b8 HS
      have q27 : ∀ (w : World) (a : Option Addr) (n c : Nat), (Builtin.len_ #[27] 3 #[.slice a n c]).run Tryd.prog w = .ok (goInt n) w := fun w a n c => run_len_slice w _ _ _ _ _ Tryd.underlying27
      go_upto_if 66 with first
        | rw [q27]
        | (go_at_call 16; with_reducible refine Calls.mono (same_eq qa qb) ?_; rintro e w9 ⟨rfl, b9⟩; have ta9 := ta8.below b9; have tb9 := tb8.below b9)
        | (go_at_call 16; with_reducible refine Calls.mono (same_eq ta9 tb9) ?_; rintro e w10 ⟨rfl, b10⟩)
      have b810 := on b9 b10
      have qa10 := qa.below b810
      have qb10 := qb.below b810
      have ta10 := ta8.below b810
      have tb10 := tb8.below b810
      have hB10 := on hB8 b810
      have Hb510 : Hid (Below w5.heap.size w5 w10) := on Hb58.out b810
      clear qa qb ta8 tb8 ta9 tb9 b9 b10 b810 hB8 Hb58
      go_cut [5, 6] (fun a b wx => (∃ R, Good R ∧ TreeAt w10 a R ∧ TreeAt w10 b R) ∧ wx = w10)
      case first =>
        rcases hQ with rfl | hQ
        · clear qa10 qb10
          go_wp2_with fail
          go_meet
          exact ⟨⟨P, HG.out, ta10, tb10⟩, rfl⟩
        · have hpos : (0 : Int) < (Q.length : Int) := by have := hQ.sh.bounds; omega
          have HQ : Hid (Good Q) := hQ
          clear ta10 tb10 hQ
          go_wp2_with fail
          go_meet
          exact ⟨⟨Q, HQ.out, qa10, qb10⟩, rfl⟩
      case rest =>
      obtain ⟨⟨R, hGR, ra, rb⟩, hwc⟩ := hcut
      obtain rfl := hwc.symm
      clear qa10 qb10 ta10 tb10 hQ hql
      have hbR := hGR.sh.bounds
      have hml : (members R).length ≤ 32 := by
        have := membersN_len R (lv R)
        show (membersN R (lv R)).length ≤ 32
        omega
      have HML : Hid (((members R).length : Int) ≤ 9223372036854775807) := by show _ ≤ _; omega
      have HGR : Hid (Good R) := hGR
      have hT10 := HT4.out.below hB10 HT4.out.size
      have ilv : (lv R : Int) ≤ 32 := by omega
      clear hGR hbR hml
      go_upto_region 19 with first
        | (go_at_call 20; refine (Members_any ra HGR.out.sh).mono ?_; rintro e w11 ⟨v11, rfl, m11, b11⟩; have m11' := made_ints m11 HML.out; clear m11)
        | (go_at_call 21; refine (refMembers_any (rb.below b11) HGR.out.sh).mono ?_; rintro e w12 ⟨v12, rfl, m12, b12⟩; have m12' := ownsRow_ints m12 HML.out; have m11'' := m11'.below b12; clear m12 m11')
        | (go_at_call 19; refine (ints_any m11'' m12').mono ?_; rintro e w13 ⟨rfl, b13⟩; rw [decide_eq_true (rfl : members R = members R)]; have ra13 := ra.below (on b11 (on b12 b13)); have rb13 := rb.below (on b11 (on b12 b13)); clear m11'' m12')
        | (go_at_call 22; refine (Leaves_sh ra13 HGR.out.sh).mono ?_; rintro e w' ⟨rfl, hw⟩; obtain rfl := hw.symm)
        | (go_at_call 23; refine (refLeaves_any rb13).mono ?_; rintro e w' ⟨rfl, hw⟩; obtain rfl := hw.symm)
      have b1013 := on b11 (on b12 b13)
      have hB13 := on hB10 b1013
      have hT13 := hT10.below b1013 hT10.size
      have Hb513 : Hid (Below w5.heap.size w5 w13) := on Hb510.out b1013
      clear b11 b12 b13 b1013 hB10 hT10 Hb510 ra rb
      obtain ⟨d0, d1, d2, d3, d4, d5, d6, d7, d8⟩ := step_cells Hb513.out Hz5.out Hbd.out
      go_upto_region 20 with fail
      go_cut [105] (fun a wx => (∃ b : Bool, a = .bool b) ∧ wx = w13)
      case first =>
        by_cases x1 : o.i < 0
        · go_wp2_with fail
          go_meet
          exact ⟨⟨_, rfl⟩, rfl⟩
        by_cases x2 : 100 < o.i
        · go_wp2_with fail
          go_meet
          exact ⟨⟨_, rfl⟩, rfl⟩
        by_cases x3 : o.more < -100
        · go_wp2_with fail
          go_meet
          exact ⟨⟨_, rfl⟩, rfl⟩
        by_cases x4 : 100 < o.more
        · go_wp2_with fail
          go_meet
          exact ⟨⟨_, rfl⟩, rfl⟩
        · go_wp2_with fail
          go_meet
          exact ⟨⟨_, rfl⟩, rfl⟩
      case rest =>
      obtain ⟨⟨tb, rfl⟩, hwc⟩ := hcut
      obtain rfl := hwc.symm
      go_upto_if 105 with fail
      go_cut [12] (fun a wx => (∃ x : Int, a = .int .i64 x) ∧ wx = w13)
      case first =>
        cases tb with
        | true =>
          go_wp2_with fail
          go_meet
          exact ⟨⟨_, rfl⟩, rfl⟩
        | false =>
          go_wp2_with fail
          go_meet
          exact ⟨⟨_, rfl⟩, rfl⟩
      case rest =>
      obtain ⟨⟨X, rfl⟩, hwc⟩ := hcut
      obtain rfl := hwc.symm
      have HFL : Hid ((((filt R o.i).map (·.1)).length : Int) ≤ 9223372036854775807 ∧ (((filt R o.i).map (·.2)).length : Int) ≤ 9223372036854775807) := by
        have := filt_len R o.i
        constructor <;> (simp; omega)
      have HRL : Hid (((resI R X).length : Int) ≤ 9223372036854775807) := by
        have := resI_len HGR.out.fit X
        show _ ≤ _
        omega
      go_wp2_with fail
      refine (Filtered_any HGR.out.fit o.i ra13 hT13).mono ?_
      rintro e w14 ⟨p14, c14, rfl, mp, mc, b14⟩
      have mp14 := ownsRow_ints mp HFL.out.1
      have mc14 := ownsRow_ints mc HFL.out.2
      have rb14 := rb13.below b14
      have Hb514 : Hid (Below w5.heap.size w5 w14) := on Hb513.out b14
      clear d0 d1 d2 d3 d4 d5 d6 d7 d8 mp mc Hb513
      obtain ⟨d0, d1, d2, d3, d4, d5, d6, d7, d8⟩ := step_cells Hb514.out Hz5.out Hbd.out
      go_wp2_with fail
      refine (refFiltered_any HGR.out.fit o.i rb14).mono ?_
      rintro e w15 ⟨q15, e15, rfl, mq, me, b15⟩
      have mq15 := ownsRow_ints mq HFL.out.1
      have me15 := ownsRow_ints me HFL.out.2
      have mp15 := mp14.below b15
      have mc15 := mc14.below b15
      have b1315 := on b14 b15
      have ra15 := ra13.below b1315
      have rb15 := rb13.below b1315
      have hT15 := hT13.below b1315 hT13.size
      have hB15 := on hB13 b1315
      clear d0 d1 d2 d3 d4 d5 d6 d7 d8 mq me mp14 mc14 b14 b15 b1315 ra13 rb13 rb14 hT13 hB13 Hb514
      go_wp2_with first
        | (go_at_call 19; with_reducible refine Calls.mono (ints_any mp15 mq15) ?_; rintro e w16 ⟨rfl, b16⟩; rw [decide_eq_true (rfl : (filt R o.i).map (·.1) = _)]; have mc16 := mc15.below b16; have me16 := me15.below b16)
        | (go_at_call 19; with_reducible refine Calls.mono (ints_any mc16 me16) ?_; rintro e w17 ⟨rfl, b17⟩; rw [decide_eq_true (rfl : (filt R o.i).map (·.2) = _)]; have ra17 := ra15.below (on b16 b17); have rb17 := rb15.below (on b16 b17); have hT17 := hT15.below (on b16 b17) hT15.size)
        | (go_at_call 26; refine (Resolution_any HGR.out.fit X ra17 hT17).mono ?_; rintro e w18 ⟨v18, rfl, m18, b18⟩; have n18 := ownsRow_ints m18 HRL.out; have rb18 := rb17.below b18; clear m18)
        | (go_at_call 27; refine (refRes_any HGR.out.fit X rb18).mono ?_; rintro e w19 ⟨v19, rfl, m19, b19⟩; have n19 := ownsRow_ints m19 HRL.out; have n18' := n18.below b19; clear m19)
        | (go_at_call 19; with_reducible refine Calls.mono (ints_any n18' n19) ?_; rintro e w20 ⟨rfl, b20⟩; rw [decide_eq_true (rfl : resI R X = _)])
      have b1520 := on b16 (on b17 (on b18 (on b19 b20)))
      have HF : Hid (TreeAt w20 u5 R ∧ TreeAt w20 u6 R ∧ Below w4.heap.size w4 w20) := ⟨ra15.below b1520, rb15.below b1520, on hB15 b1520⟩
      go_roundw
      case rel => exact ⟨j + 1, R, HJ.out, by go_num, HGR.out, HF.out⟩
      case measure => have := HJ.out; simp [intOf]; omega
    · have i1 : ¬ ((j : Int) < (l.length : Int)) := by omega
      clear hj hlt
      go_wp2_with (go_at_call 16; refine (same_eq hta htb).mono ?_; rintro e w6 ⟨rfl, b6⟩)
      go_ret
      exact ⟨rfl, on b04 (on hB b6)⟩

theorem plays_law {w : World} {v : Value} {a : PV × Value} (hv : VertexAt w v a) {vs : Value} {l : List (POp × Value)} (hs : ScriptAt w vs l) (hT : Tab w) :
    Calls Tryd.prog 3 #[v, vs] w fun e w' => e = .returned (.bool true) ∧ Below w.heap.size w w' := by
  obtain ⟨rfl, _⟩ := hv
  exact plays_walk _ _ hs hT

end Go.Proofs.YtdnopkpoepdihaaDoor
