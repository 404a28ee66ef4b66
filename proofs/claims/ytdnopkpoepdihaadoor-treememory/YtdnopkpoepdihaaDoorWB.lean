/-
  The law TreeMemory.
-/
import Derived.Test.YtdnopkpoepdihaaDoorWA
import Derived.Test.YtdnopkpoepdihaaDoorXD
import Derived.Deep.QuietTactic
import Derived.BigQuiet
namespace Go.Proofs.YtdnopkpoepdihaaDoor
open Go.RowKit
set_option linter.unusedSimpArgs false
set_option linter.unusedVariables false

theorem ownT_nil (B : Nat) (w : World) : OwnT B w (.slice none 0 0) [] [] ([] : Tree).length :=
  ⟨rfl, World.ownsRow_nil _ _ _ _, fun x u h hx => absurd hx (by simp), fun x h k hx => absurd hx (by simp)⟩
theorem treeP_nil (q : Nat → Prop) (w : World) : TreeP q w (.slice none 0 0) [] := ⟨none, 0, rfl, by simp, fun h => absurd rfl h⟩

theorem add_made {P : Tree} (hG : Good P) (u : PV) (h : Value) : ∃ (Q : Tree) (i f : Int), Nxt Q ∧
    (∀ W v, TreeAt W v P → Tab W → Calls Tryd.prog 33 #[v, u.val h] W fun e w' => ∃ v' hs, e = .returned (.tuple #[v', .int .i64 i, .int .i64 f]) ∧ OwnT W.heap.size w' v' Q hs Q.length ∧ Below W.heap.size W w') ∧
    (∀ W v, TreeAt W v P → Calls Tryd.prog 39 #[v, u.val h] W fun e w' => ∃ v', e = .returned (.tuple #[v', .int .i64 i, .int .i64 f]) ∧ TreeP (fun b => W.heap.size ≤ b) w' v' Q ∧ Below W.heap.size W w') := by
  by_cases hr : least P = lv P ∧ lv P = 32
  · refine ⟨[], 0, 41, .inl rfl, fun W v ht _ => (add_no hG.fit ht u h hr.1 hr.2).mono ?_, fun W v ht => (refAdd_no hG.fit ht u h hr.1 hr.2).mono ?_⟩
    · rintro e w' ⟨rfl, hb⟩
      exact ⟨_, [], rfl, ownT_nil _ _, hb⟩
    · rintro e w' ⟨rfl, hb⟩
      exact ⟨_, rfl, treeP_nil _ _, hb⟩
  · have hg := hG.add hr u
    exact ⟨addF P u, least P, 0, .inr hg, fun W v ht hT => add_yes hG.fit ht hT u h hr, fun W v ht => refAdd_new hG.fit ht u h hr hg.fit⟩

theorem own_p {B : Nat} {w : World} {v : Value} {Q : Tree} {hs : List Value} (h : OwnT B w v Q hs Q.length) (hQ : Nxt Q) : TreeP (fun b => B ≤ b) w v Q := by
  rcases hQ with rfl | hQ
  · rcases h.row.2 with ⟨rfl, _⟩ | ⟨g, cap, cur, rfl, _⟩
    · exact treeP_nil _ _
    · exact ⟨_, cap, rfl, by simp, fun h => absurd rfl h⟩
  · exact h.p hQ.fit

theorem two_int (x : Int) : ∀ u ∈ [Value.int .i64 x, Value.int .i64 x], u.oneCell' = true := by
  intro u hu
  simp at hu
  rcases hu with rfl | rfl <;> rfl

theorem row_form {B e size n : Nat} {w : World} {v : Value} {xs : List Value} (h : w.ownsRow B e size v n xs) : ∃ a c, v = .slice a n c ∧ (0 < n → ∃ g, a = some ⟨g, 0, none⟩) := by
  rcases h.2 with ⟨rfl, rfl⟩ | ⟨g, cap, cur, rfl, _⟩
  · exact ⟨none, 0, rfl, fun h => absurd h (by omega)⟩
  · exact ⟨_, cap, rfl, fun _ => ⟨g, rfl⟩⟩

set_option maxHeartbeats 8000000 in
set_option maxRecDepth 100000 in
theorem memory_walk (u : PV) (h : Value) (o : POp) (oh : Value) {w : World} {vs : Value} {l : List (POp × Value)} (hs : ScriptAt w vs l) (hT : Tab w) :
    Calls Tryd.prog 8 #[u.val h, vs, o.val oh] w fun e w' => e = .returned (.bool true) ∧ Below w.heap.size w w' := by
  have hT1 := hT.size
  have hG := Good.grown u (l.map (·.1))
  have hgr : ∀ W, ScriptAt W vs l → Calls Tryd.prog 30 #[u.val h, vs] W fun e w' => ∃ v', e = .returned v' ∧ TreeAt w' v' (grownF u (l.map (·.1))) ∧ Below W.heap.size W w' := fun W hW => grown_any u h hW
  obtain ⟨T, hTT⟩ : ∃ T, grownF u (l.map (·.1)) = T := ⟨_, rfl⟩
  rw [hTT] at hG hgr
  clear hTT
  obtain ⟨w0, hw0⟩ : ∃ w0, (w.alloc (.cells (leafCells u h) 24)).alloc (.cells (opCells o oh) 31) = w0 := ⟨_, rfl⟩
  have b0 : Below w.heap.size w w0 := by rw [← hw0]; exact ((Below.refl _ _).alloc (Nat.le_refl _) _).alloc (by simp) _
  have hz0 : w0.heap.size = w.heap.size + 2 := by rw [← hw0]; simp
  have bc : ∀ r, w0.cell? ⟨w.heap.size, r, none⟩ = (leafCells u h)[r]? := fun r => by rw [← hw0]; simp
  have bd : ∀ r, w0.cell? ⟨w.heap.size + 1, r, none⟩ = (opCells o oh)[r]? := fun r => by rw [← hw0]; simp
  have hT0 := hT.below b0 hT1
  have hs0 := hs.below b0
  obtain ⟨Q, qi, qf, hQ, c33, c39⟩ := add_made hG o.leaf oh
  unfold PV.val at hgr c33 c39
  unfold PV.val POp.val
  unfold leafCells opCells at hw0
  go_enter Tryd.func8, Tryd.ntmps8
  go_wp2_with (rw [hw0])
  refine (anchor_any hT0).mono ?_
  rintro e w1 ⟨rfl, b1⟩
  have hs1 := hs0.below b1
  obtain ⟨c0, c1, c2, c3, c4, c5⟩ := leaf_cells b1 (by omega) bc
  clear hw0
  go_wp2_with fail
  refine (hgr w1 hs1).mono ?_
  rintro e w2 ⟨v2, rfl, t2, b2⟩
  clear c0 c1 c2 c3 c4 c5
  have b12 := on b1 b2
  have hbT := hG.sh.bounds
  go_wp2_with fail
  refine (refCopy_any t2 (by omega) (fun x a hx => by have := (hG.fit.small x a hx).1; omega)).mono ?_
  rintro e w3 ⟨v3, hs3, rfl, o3, b3⟩
  have r3 := o3.treeF hG.fit
  have t3 := t2.below b3
  have b13 := on b12 b3
  have hT3 := hT0.below b13 (by omega)
  have Hlt : Hid (w.heap.size + 1 < w0.heap.size) := by show _ < _; omega
  have Hbd : Hid (∀ r, w0.cell? ⟨w.heap.size + 1, r, none⟩ = (opCells o oh)[r]?) := bd
  have Hb13 : Hid (Below w0.heap.size w0 w3) := b13
  have Hb0 : Hid (Below w.heap.size w w0) := b0
  obtain ⟨d0, d1, d2, d3, d4, d5, d6, d7, d8⟩ := step_cells Hb13.out Hlt.out Hbd.out
  clear o3 t2 b1 b2 b3 b12 b13 hs hs0 hs1 hgr bc bd hT hT0 hz0 b0 hbT hG
  go_wp2_with fail
  refine (c33 w3 v2 t3 hT3).mono ?_
  rintro e w4 ⟨va, hs4, rfl, o4, b4⟩
  have t4 := t3.below b4
  have hT4 := hT3.below b4 hT3.size
  clear d0 d1 d2 d3 d4 d5 d6 d7 d8
  obtain ⟨d0, d1, d2, d3, d4, d5, d6, d7, d8⟩ := step_cells (on Hb13.out b4) Hlt.out Hbd.out
  go_wp2_with fail
  refine (c33 w4 v2 t4 hT4).mono ?_
  rintro e w5 ⟨vb, hs5, rfl, o5, b5⟩
  have b35 := on b4 b5
  have r5 := r3.below b35
  clear d0 d1 d2 d3 d4 d5 d6 d7 d8
  obtain ⟨d0, d1, d2, d3, d4, d5, d6, d7, d8⟩ := step_cells (on Hb13.out b35) Hlt.out Hbd.out
  go_wp2_with fail
  refine (c39 w5 v3 r5).mono ?_
  rintro e w6 ⟨vc, rfl, p6, b6⟩
  clear d0 d1 d2 d3 d4 d5 d6 d7 d8 c33 c39
  obtain ⟨lie, sp4⟩ := o4.lie
  have pa := own_p o4 hQ
  have pb := own_p o5 hQ
  have pt := t3.p
  have pr := r3.p
  have b46 := on b5 b6
  have ta6 := (pa.below b46).tree
  have tb6 := (pb.below b6).tree
  have tc6 := p6.tree
  have hff : (qf != qf) = false := by simp
  obtain ⟨aa, ac, rfl, hal, _⟩ := id ta6
  have hQl : (Q.length : Int) ≤ 63 := by
    rcases hQ with rfl | hQ
    · simp
    · have := hQ.sh.bounds; omega
  have hQs : ∀ (x : Nat) (m : Nat), (Q.map fun u => u.late.length)[x]? = some m → m ≤ 32 := fun x m hx => by
    rcases hQ with rfl | hQ
    · simp at hx
    · simp at hx
      obtain ⟨a, ha, rfl⟩ := hx
      exact (hQ.fit.small x a ha).1
  obtain ⟨ls, hls⟩ : ∃ ls, (Q.map fun u => u.late.length) = ls := ⟨_, rfl⟩
  rw [hls] at sp4 hQs
  clear hls hal o4 o5 pa r3 r5 t3 t4 hT3 hT4
  obtain ⟨ca, cc, rfl, hcl, _⟩ := id tc6
  have q27 : ∀ (w : World) (a : Option Addr) (n c : Nat), (Builtin.len_ #[27] 3 #[.slice a n c]).run Tryd.prog w = .ok (goInt n) w := fun w a n c => run_len_slice w _ _ _ _ _ Tryd.underlying27
  go_upto_region 11 with first
    | rw [q27]
    | (go_at_call 16; with_reducible refine Calls.mono (same_eq ta6 tc6) ?_; rintro e w7 ⟨rfl, b7⟩; have tb7 := tb6.below b7; have tc7 := tc6.below b7)
    | (go_at_call 16; with_reducible refine Calls.mono (same_eq tb7 tc7) ?_; rintro e w8 ⟨rfl, b8⟩)
  have b68 := on b7 b8
  have b48 := on b46 b68
  have b38 := on b4 b48
  have sp8 := sp4.below b48
  have pt8 := pt.below b38
  have pr8 := pr.below b38
  have pb8 := pb.below (on b6 b68)
  have pc8 := p6.below b68
  have hs34 := b4.size
  have hs45 := b5.size
  have hs48 := b48.size
  have hs03 := Hb13.out.size
  have hs00 := Hb0.out.size
  have b08 : Below w.heap.size w w8 := on Hb0.out (on Hb13.out b38)
  obtain ⟨B, hB⟩ : ∃ B, w3.heap.size = B := ⟨_, rfl⟩
  obtain ⟨E, hE⟩ : ∃ E, w4.heap.size = E := ⟨_, rfl⟩
  rw [hB, hE] at lie
  rw [hB] at sp8
  have Hend : Hid (∀ W, Let B E w8 W → Below w.heap.size w W) := fun W hW => hW.below b08 (by omega) (by omega)
  have Ht : Hid (∀ W, Let B E w8 W → TreeAt W v2 T) := fun W hW => pt8.let hW (fun b _ hb => by omega)
  have Hr : Hid (∀ W, Let B E w8 W → TreeAt W v3 T) := fun W hW => pr8.let hW (fun b _ hb => by omega)
  have Hb : Hid (∀ W, Let B E w8 W → TreeAt W vb Q) := fun W hW => pb8.let hW (fun b _ hb => by omega)
  have Hc : Hid (∀ W, Let B E w8 W → TreeAt W (.slice ca Q.length cc) Q) := fun W hW => pc8.let hW (fun b _ hb => by omega)
  have HBs : Hid (B ≤ w8.heap.size) := by show _ ≤ _; omega
  have HQs : Hid (∀ (x : Nat) (m : Nat), ls[x]? = some m → m ≤ 32) := hQs
  have Hlie : Hid (Lie B E (.slice aa Q.length ac) Q.length hs4) := lie
  obtain ⟨i0, hi0, hz0, hz1, hz2⟩ := info_parts Tryd.infoI
  clear pt8 pr8 pb8 pc8 pt pr pb p6 ta6 tb6 tc6 tb7 tc7 b4 b5 b6 b7 b8 b35 b46 b68 b48 b38 sp4 hB hE hs34 hs45 hs48 hs03 hs00 hff hcl hQ b08 hQs lie
  obtain ⟨n, hn⟩ : ∃ n, Q.length = n := ⟨_, rfl⟩
  rw [hn] at sp8 Hlie Hc hQl
  have Hn : Hid (Q.length = n) := hn
  rw [hn]
  clear hn
  go_loopw [74] (fun k wr => ∃ j : Nat, j ≤ n ∧ k = .int .i64 j ∧ Sp B (.slice aa n ac) n hs4 ls wr j ∧ Let B E w8 wr) (fun k _ => n - (intOf k).toNat)
  case atStart => exact ⟨0, Nat.zero_le _, rfl, sp8, Let.refl _ _ _⟩
  case round =>
    clear sp8
    obtain ⟨j, hj, rfl, hsp, hlet⟩ := hrel
    by_cases hlt : j < n
    · have HJ : Hid (j + 1 ≤ n) := hlt
      obtain ⟨hd, hhd⟩ : ∃ hd, hs4[j]? = some hd := ⟨hs4[j]'(by rw [Hlie.out.len]; exact hlt), by simp⟩
      obtain ⟨L, l1, l2⟩ := hsp.late j hd (Nat.le_refl _) hhd
      obtain ⟨ha, hc, rfl, hfm⟩ := row_form l1
      have hL32 := HQs.out j _ l2
      obtain ⟨cs, r1, r2⟩ := hsp.row
      obtain ⟨_, _, ev, hgf⟩ := row_form r1
      cases ev
      obtain ⟨g, rfl⟩ := hgf (by omega)
      have hcell := (r1.cellAt (j * 6 + 5) (by omega)).trans (r2 j _ (Nat.le_refl _) hhd)
      obtain ⟨m, hm⟩ : ∃ m, L.length = m := ⟨_, rfl⟩
      rw [hm] at hcell hhd hfm hL32 l2
      have Hhd : Hid (hs4[j]? = some (.slice ha m hc)) := hhd
      have Hl2 : Hid (ls[j]? = some m) := l2
      have Hfm : Hid (0 < m → ∃ g, ha = some ⟨g, 0, none⟩) := hfm
      have i3 : (m : Int) ≤ 32 := by omega
      have i4 : (j : Int) < (n : Int) := by omega
      clear hm l1 l2 r1 r2 hL32 hhd hfm hj hlt
      go_wp2_with fail
      go_loopw [83] (fun k wr => ∃ p : Nat, p ≤ m ∧ k = .int .i64 p ∧ Sp B (.slice (some ⟨g, 0, none⟩) n ac) n hs4 ls wr j ∧ Let B E w8 wr) (fun k _ => m - (intOf k).toNat)
      case atStart => exact ⟨0, Nat.zero_le _, rfl, hsp, hlet⟩
      case round =>
        clear hsp hlet hcell
        obtain ⟨p, hp, rfl, hsp, hlet⟩ := hrel
        obtain ⟨cs, r1, r2⟩ := hsp.row
        have hcell := (r1.cellAt (j * 6 + 5) (by have := HJ.out; omega)).trans (r2 j _ (Nat.le_refl _) Hhd.out)
        obtain ⟨L, l1, l2⟩ := hsp.late j _ (Nat.le_refl _) Hhd.out
        have hLm : L.length = m := by rw [Hl2.out] at l2; cases l2; rfl
        by_cases hpl : p < m
        · obtain ⟨k, rfl⟩ := Hfm.out (by omega)
          have HP : Hid (p + 1 ≤ m) := hpl
          have i5 : (p : Int) < (m : Int) := by omega
          obtain ⟨y, hy⟩ : ∃ y, L[p]? = some y := ⟨L[p]'(by omega), by simp⟩
          have l1' : wr.ownsRow B 3 1 (.slice (some ⟨k, 0, none⟩) m hc) m (L.map (Value.int .i64)) := by rw [← hLm]; rw [← hLm] at l1; exact l1
          have hce : wr.cell? ⟨k, p, none⟩ = some (.int .i64 y) := by rw [l1'.cellAt p (by omega)]; simp [hy]
          have hfz := l1'.frozenAt p
          obtain ⟨s1, s2, s3⟩ := hsp.item Hlie.out Hhd.out p (-1)
          have HS : Hid (Sp B (.slice (some ⟨g, 0, none⟩) n ac) n hs4 ls (wr.setCell ⟨k, p, none⟩ (.int .i64 (-1))) j ∧ Let B E w8 (wr.setCell ⟨k, p, none⟩ (.int .i64 (-1)))) := ⟨s1, hlet.grown s2 (fun k' hk' => by cases hk'; exact s3)⟩
          clear s1 s2 s3 l1 l1' l2 r1 r2 hLm hy hp hpl hsp hlet
          go_wp2_with fail
          go_roundw
          case rel => exact ⟨p + 1, HP.out, by go_num, HS.out⟩
          case measure => have := HP.out; simp [intOf]; omega
        · have i5 : ¬ ((p : Int) < (m : Int)) := by omega
          have l1' : wr.ownsRow B 3 1 (.slice ha m hc) m (L.map (Value.int .i64)) := by rw [← hLm]; rw [← hLm] at l1; exact l1
          have Hm1 : Hid (m + 2 ≤ maxLen) := by show _ ≤ maxLen; unfold maxLen; omega
          have Hm2 : Hid ((m + 2) * 8 ≤ 140737488355328) := by show _ ≤ _; omega
          have hp0 : B ≤ (wr.alloc (.cells #[.int .i64 (-2), .int .i64 (-2)] 3)).heap.size := by have := hlet.size; have := HBs.out; simp; omega
          have hnew := heap_alloc_new wr (.cells #[.int .i64 (-2), .int .i64 (-2)] 3)
          obtain ⟨v7, w7, hr7, o7, g7, _, l7⟩ := run_append_own_at (P := Tryd.prog) _ B 22 22 3 i0 (.int .i64 0) 1 8 Tryd.underlying22 hi0 hz0 hz1 hz2 rfl (by decide) (.slice ha m hc) m _ (l1'.alloc (.cells #[.int .i64 (-2), .int .i64 (-2)] 3)) ⟨wr.heap.size, 0, none⟩ 2 2 [.int .i64 (-2), .int .i64 (-2)] rfl (World.news_of_block hnew) (two_int _) Hm1.out Hm2.out hp0
          obtain ⟨va7, vc7, rfl, _⟩ := row_form o7
          obtain ⟨y1, y2⟩ := And.intro (Hlie.out.apart j _ · Hhd.out) (Hlie.out.hs_in j _ · Hhd.out)
          have sp7 : Sp B (.slice (some ⟨g, 0, none⟩) n ac) n hs4 ls w7 (j + 1) := (hsp.alloc (.cells #[.int .i64 (-2), .int .i64 (-2)] 3)).grown (E := E) g7 (j + 1) (by omega) (fun k' hk' => (y1 k' hk').1) (fun y a hy hya k' hk' => (y1 k' hk').2 y a (by omega) hya)
          have let7 : Let B E w8 w7 := (hlet.alloc (.cells #[.int .i64 (-2), .int .i64 (-2)] 3)).grown g7 (fun k' hk' => y2 k' hk')
          obtain ⟨cs7, q1, q2⟩ := sp7.row
          have hcl : ∀ r, r < 6 → ∃ x, w7.cell? ⟨g, j * 6 + r, none⟩ = some x := fun r hr => by
            rw [q1.cellAt (j * 6 + r) (by have := HJ.out; omega)]
            exact ⟨cs7[j * 6 + r]'(by rw [q1.1]; have := HJ.out; omega), by simp⟩
          obtain ⟨x0, d0⟩ := hcl 0 (by omega)
          obtain ⟨x1, d1⟩ := hcl 1 (by omega)
          obtain ⟨x2, d2⟩ := hcl 2 (by omega)
          obtain ⟨x3, d3⟩ := hcl 3 (by omega)
          obtain ⟨x4, d4⟩ := hcl 4 (by omega)
          obtain ⟨x5, d5⟩ := hcl 5 (by omega)
          have fz : ∀ i, w7.frozen? ⟨g, i, none⟩ = false := fun i => q1.frozenAt i
          obtain ⟨z1, z2⟩ := sp7.put Hlie.out [.bool false, .int .i64 ((m : Int) + 2), .int .i64 0, .int .i64 0, .int .i64 0, .slice none 0 0] rfl
          obtain ⟨w9, hw9⟩ : ∃ w9, w7.setCells g (j * 6) [.bool false, .int .i64 ((m : Int) + 2), .int .i64 0, .int .i64 0, .int .i64 0, .slice none 0 0] = w9 := ⟨_, rfl⟩
          rw [hw9] at z1 z2
          have HS : Hid (Sp B (.slice (some ⟨g, 0, none⟩) n ac) n hs4 ls w9 (j + 1) ∧ Let B E w8 w9) := ⟨z1, let7.grown z2 (fun k' hk' => by cases hk'; exact Hlie.out.va_in _ rfl)⟩
          simp only [World.setCells] at hw9
          simp only [Nat.add_zero] at d0
          clear z1 z2 q1 q2 hcl sp7 let7 y1 y2 l1 l1' l2 r1 r2 hLm hp hpl hsp hlet hnew o7 g7 l7
          go_wp2_with first
            | (refine Lib.wpList_append_run _ rfl (.tmp 98) (.tmp 99) 22 22 rfl (.slice ha m hc) (.slice (some ⟨wr.heap.size, 0, none⟩) 2 2) rfl rfl _ w7 hr7 ?_)
            | rw [hw9]
          go_roundw
          case rel => exact ⟨j + 1, HJ.out, by go_num, HS.out⟩
          case measure => have := HJ.out; simp [intOf]; omega
    · have i4 : ¬ ((j : Int) < (n : Int)) := by omega
      obtain ⟨iV, hiV, hv0, hv1, hv2⟩ := info_parts Tryd.infoV
      obtain ⟨cs, r1, _⟩ := hsp.row
      obtain ⟨V3, hV3⟩ : ∃ V3 : PV, V3 = ⟨false, -3, 0, 0, 0, []⟩ := ⟨_, rfl⟩
      have hnew := heap_alloc_new wr (.cells (leafCells V3 (.slice none 0 0)) 24)
      have hp0 : B ≤ (wr.alloc (.cells (leafCells V3 (.slice none 0 0)) 24)).heap.size := by have := hlet.size; have := HBs.out; simp; omega
      obtain ⟨v7, w7, hr7, o7, g7, _, l7⟩ := run_append_own_at (P := Tryd.prog) _ B 27 27 24 iV (.agg #[.bool false, .int .i64 0, .int .i64 0, .int .i64 0, .int .i64 0, .slice none 0 0]) 6 64 Tryd.underlying27 hiV hv0 hv1 hv2 rfl (by decide) (.slice aa n ac) n _ (r1.alloc (.cells (leafCells V3 (.slice none 0 0)) 24)) ⟨wr.heap.size, 0, none⟩ 1 1 (vcells V3 (.slice none 0 0)) (by simp [vcells]) (World.news_of_block hnew) (vcells_one V3 rfl) (by unfold maxLen; omega) (by omega) hp0
      have let7 : Let B E w8 w7 := (hlet.alloc (.cells (leafCells V3 (.slice none 0 0)) 24)).grown g7 (fun k' hk' => Hlie.out.va_in k' hk')
      obtain ⟨va7, vc7, rfl, _⟩ := row_form o7
      have tb7 := Hb.out _ let7
      have tc7 := Hc.out _ let7
      have tt7 := Ht.out _ let7
      have tr7 := Hr.out _ let7
      have b07 := Hend.out _ let7
      rw [hV3] at hr7
      unfold leafCells at hr7
      simp only at hr7
      have e9 : (((n + 1 : Nat) : Int) == (n : Int) + 1) = true := by simp
      clear hnew hp0 o7 g7 l7 let7 r1 hsp hlet Hb Hc Ht Hr Hend hV3 hj hlt
      go_wp2_with first
        | rw [q27]
        | (refine Lib.wpList_append_run _ rfl (.tmp 108) (.tmp 110) 27 27 rfl (.slice aa n ac) (.slice (some ⟨wr.heap.size, 0, none⟩) 1 1) rfl rfl _ w7 hr7 ?_)
        | (go_at_call 16; with_reducible refine Calls.mono (same_eq tb7 tc7) ?_; rintro e w10 ⟨rfl, b10⟩; have tt10 := tt7.below b10; have tr10 := tr7.below b10)
        | (go_at_call 16; with_reducible refine Calls.mono (same_eq tt10 tr10) ?_; rintro e w11 ⟨rfl, b11⟩)
      go_ret
      exact ⟨rfl, on b07 (on b10 b11)⟩

theorem memory_law {w : World} {v : Value} {a : PV × Value} (hv : VertexAt w v a) {vs : Value} {l : List (POp × Value)} (hs : ScriptAt w vs l) {vo : Value} {b : POp × Value} (ho : OpAt w vo b) (hT : Tab w) :
    Calls Tryd.prog 8 #[v, vs, vo] w fun e w' => e = .returned (.bool true) ∧ Below w.heap.size w w' := by
  obtain ⟨rfl, _⟩ := hv
  obtain ⟨rfl, _⟩ := ho
  exact memory_walk _ _ _ _ hs hT

end Go.Proofs.YtdnopkpoepdihaaDoor
