/-
  step: the program's answer to a step and the document's are one.
-/
import Derived.Test.YtdnopkpoepdihaaDoorYA
import Derived.Test.YtdnopkpoepdihaaDoorXD
import Derived.Deep.RegionLaw
namespace Go.Proofs.YtdnopkpoepdihaaDoor
open Go.RowKit
set_option linter.unusedSimpArgs false
set_option linter.unusedVariables false

theorem step_append_ints
    {ops : Array Oper} {o : Oper} {a : Act} {w : World} {K : Act → World → Prop} {Q : Exit → Act → World → Prop} {X : Prop}
    (hg : o.guard = none) (s x : Operand) (hop : o.op = Op.call { callee := Callee.builtin Builtin.append, args := #[s, x], argTypes := #[22, 22] })
    (base : Nat) (v : Value) (n : Nat) (xs : List Value) (hs : a.eval s = v) (hown : w.ownsRow base 3 1 v n xs) (vx : Value) (l : List Int) (hxx : a.eval x = vx) (hx : IntsAt w vx l)
    (h63 : n + l.length ≤ maxLen) (hb : (n + l.length) * 8 ≤ 140737488355328) (hbase : base ≤ w.heap.size)
    (hK : ∀ v' w', w'.ownsRow base 3 1 v' (n + l.length) (xs ++ l.map (Value.int .i64)) → w.grownBy w' v.ownBlock → (v'.ownBlock = v.ownBlock ∨ v'.ownBlock = some w.heap.size) → K (a.put o.dst v') w') :
    if Region.wanted o (yielded ops a.tmps) = true then Oper.wp Tryd.prog o a w K Q else X := by
  have hw : Region.wanted o (yielded ops a.tmps) = true := by simp [Region.wanted, hg]
  rw [if_pos hw]
  obtain ⟨v', w', hrun, r1, r2, r4⟩ := run_append_ints w o.type base v n xs hown vx l hx h63 hb hbase
  unfold Oper.wp
  simp [execOp, hop, resolve, invoke, builtin, hs, hxx, hrun, Result.andThen]
  exact hK v' w' r1 r2 r4

theorem row_empty (w : World) (E : Nat) : (w.alloc (.cells #[] E)).ownsRow w.heap.size E 1 (.slice (some ⟨w.heap.size, 0, none⟩) 0 0) 0 [] :=
  World.ownsRow_made w #[] 0 (Nat.le_refl _) (by unfold maxLen; omega) rfl

theorem app_done {w4 W w5 : World} {l : List Int} {v5 : Value} (hl : (l.length : Int) ≤ 9223372036854775807) (hW : Below w4.heap.size w4 W) (ho : w5.ownsRow w4.heap.size 3 1 v5 (0 + l.length) ([] ++ l.map (Value.int .i64)))
    (hg : W.grownBy w5 (Value.slice (some ⟨w4.heap.size, 0, none⟩) 0 0).ownBlock) : Below w4.heap.size w4 w5 ∧ IntsAt w5 v5 l := by
  refine ⟨hW.grown hg hW.size (fun k hk => by simp [Value.ownBlock] at hk; omega), ownsRow_ints (base := w4.heap.size) ?_ hl⟩
  simpa using ho

theorem step_call {P : Program} {ops : Array Oper} {o : Oper} {a : Act} {w : World} {K : Act → World → Prop} {Q : Exit → Act → World → Prop} {E : Prop}
    (hg : o.guard = none) (N : FuncId) (args : Array Operand) (ts : Array TypeId) (hop : o.op = Op.call { callee := .value (.func N), args := args, argTypes := ts })
    (hent : ∀ vs w, (callFunc N vs).run P w = .ok (.enter N vs) w) (vs : Array Value) (hvs : args.map a.eval = vs)
    (hc : Calls P N vs w fun e w' => ∃ v, e = .returned v ∧ K (a.put o.dst v) w') :
    if Region.wanted o (yielded ops a.tmps) = true then Oper.wp P o a w K Q else E := by
  have hw : Region.wanted o (yielded ops a.tmps) = true := by simp [Region.wanted, hg]
  rw [if_pos hw]
  unfold Oper.wp
  have e : (execOp a.eval o).run P w = .ok (.enter N vs) w := by
    simp [execOp, hop, resolve, invoke, Deferred.ofValue, hvs, Act.eval, hent, Result.andThen]
  rw [e, Oper.upon_enter]
  refine hc.mono ?_
  rintro e w' ⟨v, rfl, hk⟩
  exact hk

theorem step_call5 {P : Program} {ops : Array Oper} {o : Oper} {a : Act} {w : World} {K : Act → World → Prop} {Q : Exit → Act → World → Prop} {E : Prop}
    (hg : o.guard = none) (N : FuncId) (x1 x2 x3 x4 x5 : Operand) (ts : Array TypeId) (hop : o.op = Op.call { callee := .value (.func N), args := #[x1, x2, x3, x4, x5], argTypes := ts })
    (hent : ∀ vs w, (callFunc N vs).run P w = .ok (.enter N vs) w) (v1 v2 v3 v4 v5 : Value) (h1 : a.eval x1 = v1) (h2 : a.eval x2 = v2) (h3 : a.eval x3 = v3) (h4 : a.eval x4 = v4) (h5 : a.eval x5 = v5)
    (hc : Calls P N #[v1, v2, v3, v4, v5] w fun e w' => ∃ v, e = .returned v ∧ K (a.put o.dst v) w') :
    if Region.wanted o (yielded ops a.tmps) = true then Oper.wp P o a w K Q else E :=
  step_call hg N #[x1, x2, x3, x4, x5] ts hop hent #[v1, v2, v3, v4, v5] (by simp [h1, h2, h3, h4, h5]) hc

theorem ent37 (vs : Array Value) (w : World) : (callFunc 37 vs).run Tryd.prog w = .ok (.enter 37 vs) w := by kernel_rfl

def StepPost (w : World) (e : Ending) (w' : World) : Prop :=
  ∃ a b Q, e = .returned (.tuple #[a, b, .bool true]) ∧ Nxt Q ∧ TreeAt w' a Q ∧ TreeAt w' b Q ∧ Below w.heap.size w w'

set_option maxHeartbeats 8000000 in
set_option maxRecDepth 100000 in
theorem step_any {P : Tree} (hG : Good P) {w : World} {va vb : Value} (ha : TreeAt w va P) (hb : TreeAt w vb P) (hT : Tab w) (o : POp) (oh : Value) :
    Calls Tryd.prog 18 #[va, vb, o.val oh] w fun e w' => StepPost w e w' := by
  have hT1 := hT.size
  have hB1 := add_both hG o.leaf oh
  have hB2 := update_both hG o.i o.leaf oh
  have hB3 := remove_both hG o.i
  have hB4 := merge_both hG o.i o.leaf oh (keysF P o)
  obtain ⟨w0, hw0⟩ : ∃ w0, w.alloc (.cells (opCells o oh) 31) = w0 := ⟨_, rfl⟩
  have b0 : Below w.heap.size w w0 := by rw [← hw0]; exact (Below.refl _ _).alloc (Nat.le_refl _) _
  have hz0 : w.heap.size < w0.heap.size := by rw [← hw0]; simp
  have bd : ∀ r, w0.cell? ⟨w.heap.size, r, none⟩ = (opCells o oh)[r]? := fun r => by rw [← hw0]; simp
  have hT0 := hT.below b0 hT1
  have ha0 := ha.below b0
  have hb0 := hb.below b0
  have hk0 := keys_any hG.fit hb0 o oh
  have Hbd : Hid (∀ r, w0.cell? ⟨w.heap.size, r, none⟩ = (opCells o oh)[r]?) := bd
  obtain ⟨d0, d1, d2, d3, d4, d5, d6, d7, d8⟩ := step_cells (Below.refl _ w0) hz0 bd
  obtain ⟨aa, ac, rfl, _⟩ := id ha0
  obtain ⟨ba, bc, rfl, _⟩ := id hb0
  have hl := hG.sh.bounds
  have i1 : (P.length : Int) ≤ 63 := by omega
  clear hl ha hb bd hT
  unfold PV.val at hB1 hB2 hB4
  unfold POp.val at *
  unfold opCells at hw0
  by_cases k1 : o.kind = 1
  · obtain ⟨Q, i, f, hQ, c1, c2⟩ := hB1
    rw [k1] at d0
    clear hB2 hB3 hB4 hk0 k1
    go_enter Tryd.func18, Tryd.ntmps18
    go_wp2_with (rw [hw0])
    refine (c1 w0 _ ha0 hT0).mono ?_
    rintro e w1 ⟨v1, rfl, t1, b1⟩
    clear d0 d1 d2 d3 d4 d5 d6 d7 d8
    obtain ⟨d0, d1, d2, d3, d4, d5, d6, d7, d8⟩ := step_cells b1 hz0 Hbd.out
    clear hw0
    go_wp2_with fail
    refine (c2 w1 _ (hb0.below b1)).mono ?_
    rintro e w2 ⟨v2, rfl, t2, b2⟩
    go_wp2_with fail
    go_ret3
    exact ⟨_, _, Q, rfl, hQ, t1.below b2, t2, on b0 (on b1 b2)⟩
  · by_cases k2 : o.kind = 2
    · obtain ⟨Q, f, hQ, c1, c2⟩ := hB2
      rw [k2] at d0
      clear hB1 hB3 hB4 hk0 k1 k2
      go_enter Tryd.func18, Tryd.ntmps18
      go_wp2_with (rw [hw0])
      refine (c1 w0 _ ha0 hT0).mono ?_
      rintro e w1 ⟨v1, rfl, t1, b1⟩
      clear d0 d1 d2 d3 d4 d5 d6 d7 d8
      obtain ⟨d0, d1, d2, d3, d4, d5, d6, d7, d8⟩ := step_cells b1 hz0 Hbd.out
      clear hw0
      go_wp2_with fail
      refine (c2 w1 _ (hb0.below b1)).mono ?_
      rintro e w2 ⟨v2, rfl, t2, b2⟩
      go_wp2_with fail
      go_ret3
      exact ⟨_, _, Q, rfl, hQ, t1.below b2, t2, on b0 (on b1 b2)⟩
    · by_cases k3 : o.kind = 3
      · obtain ⟨Q, f, hQ, c1, c2⟩ := hB3
        rw [k3] at d0
        clear hB1 hB2 hB4 hk0 k1 k2 k3
        go_enter Tryd.func18, Tryd.ntmps18
        go_wp2_with (rw [hw0])
        refine (c1 w0 _ ha0 hT0).mono ?_
        rintro e w1 ⟨v1, rfl, t1, b1⟩
        clear d0 d1 d2 d3 d4 d5 d6 d7 d8
        obtain ⟨d0, d1, d2, d3, d4, d5, d6, d7, d8⟩ := step_cells b1 hz0 Hbd.out
        clear hw0
        go_wp2_with fail
        refine (c2 w1 _ (hb0.below b1)).mono ?_
        rintro e w2 ⟨v2, rfl, t2, b2⟩
        go_wp2_with fail
        go_ret3
        exact ⟨_, _, Q, rfl, hQ, t1.below b2, t2, on b0 (on b1 b2)⟩
      · by_cases k4 : o.kind = 4
        · obtain ⟨Q, f, hQ, c1, c2⟩ := hB4
          have hkl : (keysF P o).length ≤ 47 := by unfold keysF; have := filt_len P o.i; have := extra_le o; simp; omega
          obtain ⟨K, hK⟩ : ∃ K, keysF P o = K := ⟨_, rfl⟩
          rw [hK] at c1 c2 hk0 hkl
          have e1 : (o.kind == 1) = false := by simp [k1]
          have e2 : (o.kind == 2) = false := by simp [k2]
          have e3 : (o.kind == 3) = false := by simp [k3]
          have e4 : (o.kind == 4) = true := by simp [k4]
          clear hK hB1 hB2 hB3 k1 k2 k3 k4
          go_enter Tryd.func18, Tryd.ntmps18
          go_wp2_with (rw [hw0])
          refine hk0.mono ?_
          rintro e w1 ⟨v1, rfl, o1, b1⟩
          have hks := ownsRow_ints o1 (by omega)
          obtain ⟨ka, kcap, rfl, _⟩ := id hks
          clear d0 d1 d2 d3 d4 d5 d6 d7 d8
          obtain ⟨d0, d1, d2, d3, d4, d5, d6, d7, d8⟩ := step_cells b1 hz0 Hbd.out
          have ha1 := ha0.below b1
          have hb1 := hb0.below b1
          have hT2 := hT0.below b1 (by omega)
          clear hw0 hk0 o1 ha0 hb0 hT0
          have hp0 : ∀ x, w1.heap.size ≤ (w1.alloc x).drew.heap.size := fun x => by simp
          have hm1 : Hid (0 + K.length ≤ maxLen) := by show _ ≤ maxLen; unfold maxLen; omega
          have hm2 : Hid ((0 + K.length) * 8 ≤ 140737488355328) := by show _ ≤ _; omega
          have hm3 : Hid ((K.length : Int) ≤ 9223372036854775807) := by show _ ≤ _; omega
          have hbd : ∀ x, Below w1.heap.size w1 (w1.alloc x).drew := fun x => ((Below.refl _ _).alloc (Nat.le_refl _) _).drew
          have i2 : (K.length : Int) ≤ 47 := by omega
          clear hkl
          obtain ⟨g0, g1, g2, g3, g4, g5, g6, g7, g8⟩ := step_cells (on b1 ((Below.refl _ w1).alloc (Nat.le_refl _) (.cells #[] 3))) hz0 Hbd.out
          go_wp2_with fail
          go_region_law (first
            | (refine step_append_ints rfl (.tmp 116) (.tmp 117) rfl w1.heap.size _ 0 [] rfl (row_empty w1 3) _ K rfl (hks.below (hbd _)) hm1.out hm2.out (hp0 _) ?_; intro v5 w5 ho5 hg5 hl5; obtain ⟨b5, l5⟩ := app_done hm3.out (hbd _) ho5 hg5; obtain ⟨f0, f1, f2, f3, f4, f5, f6, f7, f8⟩ := step_cells (on b1 b5) hz0 Hbd.out; clear ho5 hg5 hl5)
            | (refine step_call5 rfl 37 (.tmp 110) (.tmp 112) (.tmp 114) (.tmp 115) (.tmp 118) #[27, 3, 24, 22, 22] rfl ent37 _ _ _ _ _ rfl rfl rfl rfl rfl ?_; refine (c1 w5 _ _ _ (ha1.below b5) (hT2.below b5 hT2.size) (hks.below b5) l5).mono ?_; rintro e w6 ⟨v6, he6, t6, b6⟩; refine ⟨_, he6, ?_⟩))
          all_goals
            have b16 := on b1 (on b5 b6)
            clear d0 d1 d2 d3 d4 d5 d6 d7 d8 f0 f1 f2 f3 f4 f5 f6 f7 f8 g0 g1 g2 g3 g4 g5 g6 g7 g8
            obtain ⟨d0, d1, d2, d3, d4, d5, d6, d7, d8⟩ := step_cells b16 hz0 Hbd.out
            go_wp2_with fail
            refine (c2 w6 _ _ _ (hb1.below (on b5 b6)) (hks.below (on b5 b6)) (hks.below (on b5 b6))).mono ?_
            rintro e w7 ⟨v7, rfl, t7, b7⟩
            go_wp2_with fail
            go_ret3
            exact ⟨_, _, Q, rfl, hQ, t6.below b7, t7, on b0 (on b16 b7)⟩
        · have e1 : (o.kind == 1) = false := by simp [k1]
          have e2 : (o.kind == 2) = false := by simp [k2]
          have e3 : (o.kind == 3) = false := by simp [k3]
          have e4 : (o.kind == 4) = false := by simp [k4]
          clear hB1 hB2 hB3 hB4 hk0 k1 k2 k3 k4
          go_enter Tryd.func18, Tryd.ntmps18
          go_wp2_with (rw [hw0])
          go_ret3
          exact ⟨_, _, [], rfl, .inl rfl, treeAt_nil _, treeAt_nil _, b0⟩

end Go.Proofs.YtdnopkpoepdihaaDoor
