/-
  conclavelaw01.TermOnce answers true for every input.
-/
import Derived.Test.YtddjihlmlfchdaaDraws
namespace Go.Proofs.Ytddjihlmlfchdaa
open Go.RowKit
set_option linter.unusedSimpArgs false
set_option linter.unusedVariables false

theorem fits_mono {ns ns' : List Nd} (hp : ns <+: ns') {n : Nd} (h : fitsB ns n = true) : fitsB ns' n = true := by
  have hh : ∀ t, hasB ns t = true → hasB ns' t = true := fun t ht => (prefix_keeps hp ht).1
  have hk : (nodeF ns n.a).kind = 6 → (nodeF ns' n.a).kind = 6 := fun e => by
    rw [(prefix_keeps hp (nodeF_kind_has (by rw [e]; decide))).2]; exact e
  unfold fitsB at h ⊢
  repeat' split at h
  all_goals simp only [Bool.and_eq_true, decide_eq_true_eq, beq_iff_eq, Bool.false_eq_true] at h
  all_goals simp_all

theorem makeF_again {ns : List Nd} (hw : Wf ns) {i : Nat} {n : Nd} (hi : ns[i]? = some n) : makeF ns n = (((i + 1 : Nat) : Int), 0, ns) := by
  have hf : fitsB ns n = true := fits_mono (List.take_prefix i ns) (hw i n hi).1
  rcases makeF_cases ns n with ⟨h, _⟩ | ⟨_, j, hj, e⟩ | ⟨_, h, _⟩ | ⟨_, h, _⟩
  · rw [hf] at h; cases h
  · rw [e, hw.inj hj hi]
  · exact absurd (List.mem_of_getElem? hi) h
  · exact absurd (List.mem_of_getElem? hi) h

theorem makeF_err {ns : List Nd} {n : Nd} (h : (makeF ns n).2.1 ≠ 0) : (makeF ns n).1 = 0 ∧ (makeF ns n).2.2 = ns := by
  rcases makeF_cases ns n with ⟨_, e⟩ | ⟨_, j, _, e⟩ | ⟨_, _, _, e⟩ | ⟨_, _, _, e⟩ <;> rw [e] at h ⊢ <;> simp at h ⊢

theorem makeF_fine {ns : List Nd} {n : Nd} (h : (makeF ns n).2.1 = 0) : (∃ j : Nat, ns[j]? = some n ∧ makeF ns n = (((j + 1 : Nat) : Int), 0, ns)) ∨ makeF ns n = (((ns.length + 1 : Nat) : Int), 0, ns ++ [n]) := by
  rcases makeF_cases ns n with ⟨_, e⟩ | ⟨_, j, hj, e⟩ | ⟨_, _, _, e⟩ | ⟨_, _, _, e⟩
  · rw [e] at h; simp at h
  · exact Or.inl ⟨j, hj, e⟩
  · rw [e] at h; simp at h
  · exact Or.inr e

/-- Made of a node: Moved too. -/
theorem make_moves {w0 w : World} {s : Nat} {ns ns' : List Nd} {dr t er : Int} (h : Mine w0 s w ns dr) (n : Nd) (hk : makeF ns n = (t, er, ns')) :
    Calls Try.prog 13 #[.pointer (some ⟨s, 0, none⟩), .agg #[.int .i64 n.kind, .string n.label, .int .i64 n.a, .int .i64 n.b]] w fun e w' => e = .returned (.tuple #[.int .i64 t, .int .i64 er]) ∧ Mine w0 s w' ns' dr ∧ Moved s w w' := by
  refine (make_any h.st n).mono ?_
  rw [hk]
  rintro e w' ⟨rfl, hst, hmv⟩
  exact ⟨rfl, h.moved hst hmv, hmv⟩

/-- The cells of a node of the law's own slice. -/
theorem Side.node {w0 w : World} {s : Nat} {v : Value} {ns : List Nd} (h : Side w0 w s 27 4 v ns.length (flat ns)) {j : Nat} {n : Nd} (hj : ns[j]? = some n) :
    ∃ g cap, v = .slice (some ⟨g, 0, none⟩) ns.length cap ∧ g < w.heap.size ∧ w.cell? ⟨g, j * 4, none⟩ = some (.int .i64 n.kind) ∧ w.cell? ⟨g, j * 4 + 1, none⟩ = some (.string n.label) ∧ w.cell? ⟨g, j * 4 + 2, none⟩ = some (.int .i64 n.a) ∧ w.cell? ⟨g, j * 4 + 3, none⟩ = some (.int .i64 n.b) := by
  have hjl := (List.getElem?_eq_some_iff.1 hj).1
  rcases h.own.2 with ⟨_, h0⟩ | ⟨g, cap, cur, rfl, hb, hgg, rest⟩
  · omega
  · have c : ∀ r, r < 4 → w.cell? ⟨g, j * 4 + r, none⟩ = n.cells[r]? := fun r hr => by
      rw [World.ownsRow.cellAt h.own _ (by omega), flat_get n ns j hj r hr]
    exact ⟨g, cap, rfl, (Array.getElem?_eq_some_iff.1 hgg).1, c 0 (by omega), c 1 (by omega), c 2 (by omega), c 3 (by omega)⟩

theorem StoreAt.drewN {w : World} {s : Nat} {ns : List Nd} {dr : Int} (h : StoreAt w s ns dr) (n : Nat) : StoreAt (w.drewN n) s ns dr := h

theorem Mine.drewN {w0 w : World} {s : Nat} {ns : List Nd} {dr : Int} (h : Mine w0 s w ns dr) (n : Nat) : Mine w0 s (w.drewN n) ns dr := ⟨h.st, below_drewN h.below n, h.own⟩

theorem Side.drewN {w0 w : World} {s e size n : Nat} {v : Value} {xs : List Value} (h : Side w0 w s e size v n xs) (k : Nat) : Side w0 (w.drewN k) s e size v n xs := ⟨h.own, h.free⟩

theorem StoreAt.own_lt {w : World} {s : Nat} {ns : List Nd} {dr : Int} (h : StoreAt w s ns dr) {k : Nat} (ho : Own w s k) : k < w.heap.size := by
  have hs := h.lt
  obtain ⟨sl, c, mb, h0, h1, h2, h3⟩ := h
  rcases ho with e | e | ⟨o, sp, n1, c1, e⟩
  · omega
  · rw [cell_of_heap h0] at e
    simp at e
    have := (Array.getElem?_eq_some_iff.1 h1).1
    omega
  · rw [cell_of_heap h0] at e
    simp at e
    rcases h2.form with ⟨rfl, _⟩ | ⟨nb, rfl, hlt, _⟩
    · simp at e
    · simp at e
      omega

theorem Moved.cell {s : Nat} {w w' : World} (h : Moved s w w') {b : Nat} (hb : b < w.heap.size) (hn : ¬ Own w s b) (o : Nat) : w'.cell? ⟨b, o, none⟩ = w.cell? ⟨b, o, none⟩ := World.cell?_of_block (h.block b hb hn)

set_option maxRecDepth 100000 in
set_option maxHeartbeats 4000000 in
theorem once_walk {v : Value} {l : List Nd} {w : World} (hl : NodesAt w v l) :
    Calls Try.prog 3 #[v] w fun e w' => e = .returned (.bool true) ∧ Below w.heap.size w w' := by
  obtain ⟨a, cap, rfl, hlen, hne⟩ := id hl
  go_enter Try.func3, Try.ntmps3
  go_wp2_with fail
  refine (anchor_any w).mono ?_
  rintro e w1 ⟨rfl, hb⟩
  go_wp2_with fail
  refine (new_mine w w1 hb).mono ?_
  rintro e w2 ⟨s, rfl, m2⟩
  clear hb
  go_wp2_with fail
  go_loopw [4, 23] (fun v i wr => ∃ k : Nat, k ≤ l.length ∧ i = .int .i64 k ∧ ∃ ns : List Nd, Mine w s wr ns 0 ∧ Wf ns ∧ Side w wr s 27 4 v ns.length (flat ns)) (fun _ i _ => l.length - (intOf i).toNat)
  case atStart => exact ⟨0, Nat.zero_le _, rfl, [], m2, Wf.nil, Side.nil _ _ _ _ _⟩
  case round =>
    obtain ⟨k, hk, rfl, ns, mr, hwf, hsd⟩ := hrel
    obtain ⟨a4, cap4, rfl⟩ := hsd.form
    have hnl : (ns.length : Int) ≤ 262144 := by obtain ⟨_, _, _, _, _, _, h3⟩ := mr.st; omega
    by_cases hlt : k < l.length
    · obtain ⟨b, off, rfl, hbl, hc⟩ := hne (by rintro rfl; simp at hlt)
      obtain ⟨n, hn⟩ : ∃ n, l[k]? = some n := ⟨l[k], by simp [hlt]⟩
      obtain ⟨c0, c1, c2, c3⟩ := hc k n hn
      have hbr : b < wr.heap.size := Nat.lt_of_lt_of_le hbl mr.below.size
      have d0 := (mr.below.cell (p := ⟨b, off + k * 4, none⟩) hbl).trans c0
      have d1 := (mr.below.cell (p := ⟨b, off + k * 4 + 1, none⟩) hbl).trans c1
      have d2 := (mr.below.cell (p := ⟨b, off + k * 4 + 2, none⟩) hbl).trans c2
      have d3 := (mr.below.cell (p := ⟨b, off + k * 4 + 3, none⟩) hbl).trans c3
      have Hn : Hid (l[k]? = some n) := hn
      clear c0 c1 c2 c3 hn hc
      by_cases h3 : (3000 : Int) ≤ k
      · go_wp2_with fail
        go_ret
        exact ⟨rfl, (mr.grow ((Below.refl _ _).alloc (Nat.le_refl _) _)).below⟩
      · have h3' : decide ((3000 : Int) ≤ k) = false := dec_false h3
        go_wp2_with fail
        have m3 := mr.grow ((Below.refl _ wr).alloc (Nat.le_refl _) (.cells #[.int .i64 n.kind, .string n.label, .int .i64 n.a, .int .i64 n.b] 27))
        have s3 := hsd.grow mr.st.lt ((Below.refl _ wr).alloc (Nat.le_refl _) (.cells #[.int .i64 n.kind, .string n.label, .int .i64 n.a, .int .i64 n.b] 27))
        refine (len_mine m3).mono ?_
        rintro e w3 ⟨rfl, hw3⟩
        subst hw3
        have hbo : ¬ Own (wr.alloc (.cells #[.int .i64 n.kind, .string n.label, .int .i64 n.a, .int .i64 n.b] 27)) s wr.heap.size := fun ho => by
          have := mr.st.own_lt ((own_below mr.st.lt ((Below.refl _ wr).alloc (Nat.le_refl _) _) _).1 ho)
          omega
        have x0 : (wr.alloc (.cells #[.int .i64 n.kind, .string n.label, .int .i64 n.a, .int .i64 n.b] 27)).cell? ⟨wr.heap.size, 0, none⟩ = some (.int .i64 n.kind) := by simp
        have x1 : (wr.alloc (.cells #[.int .i64 n.kind, .string n.label, .int .i64 n.a, .int .i64 n.b] 27)).cell? ⟨wr.heap.size, 1, none⟩ = some (.string n.label) := by simp
        have x2 : (wr.alloc (.cells #[.int .i64 n.kind, .string n.label, .int .i64 n.a, .int .i64 n.b] 27)).cell? ⟨wr.heap.size, 2, none⟩ = some (.int .i64 n.a) := by simp
        have x3 : (wr.alloc (.cells #[.int .i64 n.kind, .string n.label, .int .i64 n.a, .int .i64 n.b] 27)).cell? ⟨wr.heap.size, 3, none⟩ = some (.int .i64 n.b) := by simp
        have hbx : wr.heap.size < (wr.alloc (.cells #[.int .i64 n.kind, .string n.label, .int .i64 n.a, .int .i64 n.b] 27)).heap.size := by simp
        have Hro : Hid (some wr.heap.size ≠ (Value.slice a4 ns.length cap4).ownBlock) := fun e => by
          have := (hsd.own.lt _ e.symm).2
          omega
        clear mr hsd d0 d1 d2 d3
        go_wp2_with fail
        generalize wr.alloc (.cells #[.int .i64 n.kind, .string n.label, .int .i64 n.a, .int .i64 n.b] 27) = wa at *
        generalize wr.heap.size = bx at *
        by_cases her : (makeF ns n).2.1 = 0
        · rcases makeF_fine her with ⟨j, hj, e⟩ | e
          · rw [show ((j + 1 : Nat) : Int) = (j : Int) + 1 from by omega] at e
            refine (make_moves m3 n e).mono ?_
            rintro e4 w4 ⟨rfl, m4, hmv⟩
            have s4 := s3.moved hmv
            have hjl : j < ns.length := (List.getElem?_eq_some_iff.1 hj).1
            have y0 := (hmv.cell hbx hbo 0).trans x0
            have y1 := (hmv.cell hbx hbo 1).trans x1
            have y2 := (hmv.cell hbx hbo 2).trans x2
            have y3 := (hmv.cell hbx hbo 3).trans x3
            obtain ⟨g, cg, hv, hg, z0, z1, z2, z3⟩ := s4.node hj
            simp at hv
            obtain ⟨rfl, rfl⟩ := hv
            have q1 : decide ((j : Int) + 1 < 1) = false := dec_false (by omega)
            have q2 : decide ((ns.length : Int) + 1 < (j : Int) + 1) = false := dec_false (by omega)
            have q3 : ((j : Int) + 1 == (ns.length : Int) + 1) = false := beq_eq_false_iff_ne.2 (by omega)
            have Hj : Hid (ns[j]? = some n) := hj
            clear m3 s3 e her hj x0 x1 x2 x3 hmv
            go_wp2_with fail
            refine (len_mine m4).mono ?_
            rintro e w5 ⟨rfl, rfl⟩
            go_wp2_with fail
            have hq := fun wx => run_equal27 wx n n 9998
            rw [(Nd.beq_iff _ _).2 rfl] at hq
            simp only [Nd.val] at hq
            have hgd := guard27
            go_quiet ((go_at_call 12; exact Calls.quiet_of_same (len_any (m4.st.drewN _))))
            go_wp2_with fail
            go_roundw
            case rel => exact ⟨k + 1, by omega, by go_num, ns, m4.drewN _, hwf, s4.drewN _⟩
            case measure => simp [intOf]; omega
          · rw [show ((ns.length + 1 : Nat) : Int) = (ns.length : Int) + 1 from by omega] at e
            obtain ⟨N, hN⟩ : ∃ N, N = ns ++ [n] := ⟨_, rfl⟩
            rw [← hN] at e
            have hNl : (N.length : Int) = (ns.length : Int) + 1 := by rw [hN]; simp
            have HN : Hid (N[ns.length]? = some n) := by rw [hN]; simp [Hid]
            have HF : Hid (flat N = flat ns ++ n.cells) := by rw [hN, flat_append]; simp [Hid, flat]
            have HW : Hid (Wf N) := by have := hwf.make n; rw [e] at this; exact this
            refine (make_moves m3 n e).mono ?_
            rintro e4 w4 ⟨rfl, m4, hmv⟩
            have s4 := s3.moved hmv
            have y0 := (hmv.cell hbx hbo 0).trans x0
            have y1 := (hmv.cell hbx hbo 1).trans x1
            have y2 := (hmv.cell hbx hbo 2).trans x2
            have y3 := (hmv.cell hbx hbo 3).trans x3
            have hbx4 : bx < w4.heap.size := Nat.lt_of_lt_of_le hbx hmv.size
            have q1 : decide ((ns.length : Int) + 1 < 1) = false := dec_false (by omega)
            clear m3 s3 e her x0 x1 x2 x3 hmv hN
            go_wp2_with fail
            refine (len_mine m4).mono ?_
            rintro e w5 ⟨rfl, rfl⟩
            have hsz := m4.below.size
            have s5 := s4.grow m4.st.lt ((Below.refl _ w5).alloc (Nat.le_refl _) (.cells #[.int .i64 n.kind, .string n.label, .int .i64 n.a, .int .i64 n.b] 27))
            have m5 := m4.grow ((Below.refl _ w5).alloc (Nat.le_refl _) (.cells #[.int .i64 n.kind, .string n.label, .int .i64 n.a, .int .i64 n.b] 27))
            obtain ⟨i0, hi, hz0, hz1, hz2⟩ := info_parts info27
            clear s4 m4
            go_wp2_with (at_builtin; refine wpList_append_own_at _ rfl (.tmp 68) (.tmp 70) 22 rfl w.heap.size 27 i0 Nd.zero.val 4 40 Try.underlying22 hi hz0 hz1 hz2 rfl (by decide) (.slice a4 ns.length cap4) ns.length (flat ns) rfl s5.own ⟨w5.heap.size, 0, none⟩ 1 1 n.cells rfl rfl (cells_new n _) (cells_one n) (by unfold maxLen; omega) (by omega) (by simp; omega) ?_; intro v' w6 hown' hgrow hnil hloc)
            obtain ⟨m6, s6⟩ := m5.appended s5 hgrow hown' hloc
            have hNn : N.length = ns.length + 1 := by omega
            rw [← HF.out, ← hNn] at s6
            obtain ⟨g, cg, hv, hg, z0, z1, z2, z3⟩ := s6.node HN.out
            rw [hNn] at hv
            subst hv
            have v0 := hgrow.cell (a := ⟨bx, 0, none⟩) (v := .int .i64 n.kind) (by go_simp) Hro.out
            have v1 := hgrow.cell (a := ⟨bx, 1, none⟩) (v := .string n.label) (by go_simp) Hro.out
            have v2 := hgrow.cell (a := ⟨bx, 2, none⟩) (v := .int .i64 n.a) (by go_simp) Hro.out
            have v3 := hgrow.cell (a := ⟨bx, 3, none⟩) (v := .int .i64 n.b) (by go_simp) Hro.out
            clear m5 s5 hown' hgrow hnil hloc y0 y1 y2 y3
            have hq := fun wx => run_equal27 wx n n 9998
            rw [(Nd.beq_iff _ _).2 rfl] at hq
            simp only [Nd.val] at hq
            have hgd := guard27
            have Hlen : Hid (∀ nq, Calls Try.prog 12 #[.pointer (some ⟨s, 0, none⟩)] (w6.drewN nq) fun e w' => e = .returned (.int .i64 ((ns.length : Int) + 1)) ∧ w' = w6.drewN nq) := fun nq => by
              have := len_any (m6.st.drewN nq)
              rw [hNl] at this
              exact this
            go_wp2_with fail
            go_quiet ((go_at_call 12; exact Calls.quiet_of_same (Hlen.out _)))
            go_wp2_with fail
            go_roundw
            case rel => exact ⟨k + 1, by omega, by go_num, N, m6.drewN _, HW.out, by rw [hNn] at s6 ⊢; exact s6.drewN _⟩
            case measure => simp [intOf]; omega
        · obtain ⟨e1, e2⟩ := makeF_err her
          generalize hee : (makeF ns n).2.1 = er at *
          have her' : (er != 0) = true := by simp [her]
          refine (make_moves m3 n (t := 0) (er := er) (ns' := ns) (by rw [← hee, ← e1]; exact Prod.ext rfl (Prod.ext rfl e2))).mono ?_
          rintro e4 w4 ⟨rfl, m4, hmv⟩
          have s4 := s3.moved hmv
          clear m3 s3 e1 e2 her hee x0 x1 x2 x3
          go_wp2_with fail
          refine (len_mine m4).mono ?_
          rintro e w5 ⟨rfl, rfl⟩
          go_wp2_with fail
          go_roundw
          case rel => exact ⟨k + 1, by omega, by go_num, ns, m4, hwf, s4⟩
          case measure => simp [intOf]; omega
    · go_wp2_with fail
      clear hne hl hlt hk
      have HM : Hid (∀ (j : Nat) (n : Nd), ns[j]? = some n → makeF ns n = ((j : Int) + 1, 0, ns) ∧ nodeF ns ((j : Int) + 1) = n ∧ hasB ns ((j : Int) + 1) = true) := fun j n hj => by
        have e : ((j + 1 : Nat) : Int) = (j : Int) + 1 := by omega
        have h1 := makeF_again hwf hj
        have h2 := nodeF_at hj
        rw [e] at h1 h2
        exact ⟨h1, h2⟩
      go_loopw [89] (fun i wx => ∃ j : Nat, j ≤ ns.length ∧ i = .int .i64 j ∧ Mine w s wx ns 0 ∧ Side w wx s 27 4 (.slice a4 ns.length cap4) ns.length (flat ns)) (fun i _ => ns.length - (intOf i).toNat)
      case atStart => exact ⟨0, Nat.zero_le _, rfl, mr, hsd⟩
      case round =>
        clear mr hsd
        obtain ⟨j, hj, rfl, mx, sx⟩ := hrel
        by_cases hjl : j < ns.length
        · obtain ⟨n, hn⟩ : ∃ n, ns[j]? = some n := ⟨ns[j], by simp [hjl]⟩
          obtain ⟨hmk, hnd, hhs⟩ := HM.out j n hn
          have Hmk : Hid (makeF ns n = ((j : Int) + 1, 0, ns)) := hmk
          have Hnd : Hid (nodeF ns ((j : Int) + 1) = n) := hnd
          have Hhs : Hid (hasB ns ((j : Int) + 1) = true) := hhs
          obtain ⟨g, cg, hv, hg, z0, z1, z2, z3⟩ := sx.node hn
          simp at hv
          obtain ⟨rfl, rfl⟩ := hv
          clear hmk hnd hhs hn
          have ma := mx.grow ((Below.refl _ wr).alloc (Nat.le_refl _) (.cells #[.int .i64 n.kind, .string n.label, .int .i64 n.a, .int .i64 n.b] 27))
          go_wp2_with fail
          refine (get_mine ma _ Hnd.out Hhs.out).mono ?_
          rintro e w6 ⟨rfl, hb6⟩
          have hbT : Below wr.heap.size wr (w6.alloc (.cells #[.int .i64 n.kind, .string n.label, .int .i64 n.a, .int .i64 n.b] 27)) := by
            have hz := hb6.size
            simp at hz
            exact (((Below.refl _ wr).alloc (Nat.le_refl _) _).trans (hb6.mono (by simp))).alloc (by omega) _
          have mb := mx.grow hbT
          have sb := sx.grow mx.st.lt hbT
          have hob : ∀ k, wr.heap.size ≤ k → ¬ Own (w6.alloc (.cells #[.int .i64 n.kind, .string n.label, .int .i64 n.a, .int .i64 n.b] 27)) s k := fun k hk ho => by
            have := mx.st.own_lt ((own_below mx.st.lt hbT k).1 ho)
            omega
          have hz := hb6.size
          simp at hz
          have c0 := hb6.cell (p := ⟨wr.heap.size, 0, none⟩) (by simp)
          have c1 := hb6.cell (p := ⟨wr.heap.size, 1, none⟩) (by simp)
          have c2 := hb6.cell (p := ⟨wr.heap.size, 2, none⟩) (by simp)
          have c3 := hb6.cell (p := ⟨wr.heap.size, 3, none⟩) (by simp)
          simp at c0 c1 c2 c3
          have hlt6 : wr.heap.size < w6.heap.size := by omega
          clear ma z0 z1 z2 z3
          go_wp2_with fail
          refine (make_moves mb n Hmk.out).mono ?_
          rintro e w7 ⟨rfl, m7, hmv⟩
          have s7 := sb.moved hmv
          have hzb : w6.heap.size < (w6.alloc (.cells #[.int .i64 n.kind, .string n.label, .int .i64 n.a, .int .i64 n.b] 27)).heap.size := by simp
          have o1 := hob wr.heap.size (Nat.le_refl _)
          have o2 := hob w6.heap.size (by omega)
          have f0 := hmv.cell (by simp; omega) o1 0
          have f1 := hmv.cell (by simp; omega) o1 1
          have f2 := hmv.cell (by simp; omega) o1 2
          have f3 := hmv.cell (by simp; omega) o1 3
          have g0 := hmv.cell hzb o2 0
          have g1 := hmv.cell hzb o2 1
          have g2 := hmv.cell hzb o2 2
          have g3 := hmv.cell hzb o2 3
          rw [World.cell?_alloc_past _ _ _ hlt6] at f0 f1 f2 f3
          rw [c0] at f0
          rw [c1] at f1
          rw [c2] at f2
          rw [c3] at f3
          simp at g0 g1 g2 g3
          have hq := fun wx => run_equal27 wx n n 9998
          rw [(Nd.beq_iff _ _).2 rfl] at hq
          simp only [Nd.val] at hq
          have hgd := guard27
          clear mb sb hmv hob hbT o1 o2 mx sx c0 c1 c2 c3
          go_wp2_with fail
          go_roundw
          case rel => exact ⟨j + 1, by omega, by go_num, m7, s7⟩
          case measure => simp [intOf]; omega
        · go_wp2_with fail
          refine (len_mine mx).mono ?_
          rintro e w5 ⟨rfl, rfl⟩
          go_wp2_with fail
          go_ret
          exact ⟨by simp, mx.below⟩

end Go.Proofs.Ytddjihlmlfchdaa
