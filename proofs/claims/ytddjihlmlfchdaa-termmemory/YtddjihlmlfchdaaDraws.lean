/-
  conclavelaw01.TermDraws answers true for every input.
-/
import Derived.Test.YtddjihlmlfchdaaShut
import Derived.Test.YtddjihlmlfchdaaSide
namespace Go.Proofs.Ytddjihlmlfchdaa
open Go.RowKit
set_option linter.unusedSimpArgs false
set_option linter.unusedVariables false

theorem info3 : (Try.prog.info? 3).map (fun i => (i.zero, i.size, i.bytes)) = some (some (.int .i64 0), 1, 8) := by kernel_rfl

theorem get_mine {w0 w : World} {s : Nat} {N : List Nd} {dr : Int} (h : Mine w0 s w N dr) (t : Int) {k a b : Int} {l : ByteArray} {ok : Bool} (h1 : nodeF N t = ⟨k, l, a, b⟩) (h2 : hasB N t = ok) :
    Calls Try.prog 14 #[.pointer (some ⟨s, 0, none⟩), .int .i64 t] w fun e w' => e = .returned (.tuple #[.agg #[.int .i64 k, .string l, .int .i64 a, .int .i64 b], .bool ok]) ∧ Below w.heap.size w w' := by
  refine (get_any h.st t).mono ?_
  rw [h1, h2]
  rintro e w' ⟨rfl, hb⟩
  exact ⟨rfl, hb⟩

theorem fresh_moves {w0 w : World} {s : Nat} {ns : List Nd} {dr : Int} (h : Mine w0 s w ns dr) (hw : Wf ns) (hl : (ns.length : Int) < 262144) (d0 : 0 ≤ dr) (d1 : dr < 1099511627776) :
    Calls Try.prog 15 #[.pointer (some ⟨s, 0, none⟩)] w fun e w' => ∃ t ns', e = .returned (.int .i64 t) ∧ Mine w0 s w' ns' (dr + 1) ∧ Made ns ns' t (atom (dr + 1)) ∧ Moved s w w' := by
  obtain ⟨t, ns', hk, hm⟩ := makeF_ok hw (fits_atom ns (a := dr + 1) (by omega) (by omega)) hl
  have ht : t ≠ 0 := by have := (hasB_iff _ _).1 hm.has; omega
  refine (fresh_any h.st d0 (by omega)).mono ?_
  unfold freshD
  rw [hk, if_neg ht]
  rintro e w' ⟨rfl, hst, hmv⟩
  exact ⟨t, ns', rfl, h.moved hst hmv, hm, hmv⟩

set_option maxRecDepth 100000 in
set_option maxHeartbeats 4000000 in
theorem draws_walk {v : Value} {l : List Int} {w : World} (hl : IntsAt w v l) (n : Int) (wn : (Lit.int .i64 n).wf = true) :
    Calls Try.prog 6 #[v, .int .i64 n] w fun e w' => e = .returned (.bool true) ∧ Below w.heap.size w w' := by
  clear wn
  obtain ⟨a, cap, rfl, hlen, hne⟩ := id hl
  by_cases hn0 : n < 0
  · go_enter Try.func6, Try.ntmps6
    go_wp2_with fail
    refine (anchor_any w).mono ?_
    rintro e w1 ⟨rfl, hb⟩
    go_wp2_with fail
    go_ret
    exact ⟨rfl, hb⟩
  have hn0' : decide (n < 0) = false := dec_false hn0
  by_cases hn3 : 300 < n
  · go_enter Try.func6, Try.ntmps6
    go_wp2_with fail
    refine (anchor_any w).mono ?_
    rintro e w1 ⟨rfl, hb⟩
    go_wp2_with fail
    go_ret
    exact ⟨rfl, hb⟩
  have hn3' : decide (300 < n) = false := dec_false hn3
  go_enter Try.func6, Try.ntmps6
  go_wp2_with fail
  refine (anchor_any w).mono ?_
  rintro e w1 ⟨rfl, hb⟩
  go_wp2_with fail
  refine (new_mine w w1 hb).mono ?_
  rintro e w2 ⟨s, rfl, m2⟩
  clear hb
  go_wp2_with fail
  go_loopw [28] (fun i wr => ∃ k : Nat, k ≤ l.length ∧ i = .int .i64 k ∧ ∃ ns, Mine w s wr ns 0 ∧ Wf ns ∧ ns.length ≤ k ∧ (ns.length : Int) ≤ 300) (fun i _ => l.length - (intOf i).toNat)
  case atStart => exact ⟨0, Nat.zero_le _, rfl, [], m2, Wf.nil, by simp, by simp⟩
  case round =>
    obtain ⟨k, hk, rfl, ns, mr, hwf, hnk, hn2⟩ := hrel
    by_cases hlt : k < l.length
    · obtain ⟨b, off, rfl, hbl, hc⟩ := hne (by rintro rfl; simp at hlt)
      obtain ⟨x, hx⟩ : ∃ x, l[k]? = some x := ⟨l[k], by simp [hlt]⟩
      have c0 := hc k x hx
      have d0 := (mr.below.cell (p := ⟨b, off + k, none⟩) hbl).trans c0
      have Hx : Hid (l[k]? = some x) := hx
      clear c0 hx hc
      by_cases h3 : (k : Int) < 300
      · go_wp2_with fail
        refine (make_any mr.st (atom x)).mono ?_
        rintro e w4 ⟨rfl, hst, hmv⟩
        have m4 := mr.moved hst hmv
        have hle : (makeF ns (atom x)).2.2.length ≤ ns.length + 1 := by
          rcases makeF_cases ns (atom x) with ⟨_, e⟩ | ⟨_, j, _, e⟩ | ⟨_, _, _, e⟩ | ⟨_, _, _, e⟩ <;> rw [e] <;> simp
        go_wp2_with fail
        go_roundw
        case rel => exact ⟨k + 1, by omega, by go_num, _, m4, hwf.make _, by omega, by omega⟩
        case measure => simp [intOf]; omega
      · go_wp2_with fail
        go_roundw
        case rel => exact ⟨k + 1, by omega, by go_num, ns, mr, hwf, by omega, hn2⟩
        case measure => simp [intOf]; omega
    · go_wp2_with fail
      clear hne hl hlt hk hnk
      go_loopw [8, 9] (fun v i wx => ∃ k : Nat, (k : Int) ≤ n ∧ i = .int .i64 k ∧ ∃ (N : List Nd) (ds : List Int), Mine w s wx N k ∧ Wf N ∧ (N.length : Int) ≤ 300 + k ∧ Side w wx s 3 1 v k (ds.map (Value.int .i64)) ∧ ∀ (i : Nat) (d : Int), ds[i]? = some d → nodeF N d = atom ((i : Int) + 1) ∧ hasB N d = true) (fun _ i _ => n.toNat - (intOf i).toNat)
      case atStart => exact ⟨0, by omega, rfl, ns, [], mr, hwf, by omega, Side.nil _ _ _ _ _, fun i d h => by simp at h⟩
      case round =>
        obtain ⟨j, hj, rfl, N, ds, mx, hwN, hNl, hsd, hds⟩ := hrel
        obtain ⟨a8, cap8, rfl⟩ := hsd.form
        by_cases hjn : (j : Int) < n
        · go_wp2_with fail
          refine (fresh_moves mx hwN (by omega) (by omega) (by omega)).mono ?_
          rintro e w5 ⟨t, N5, rfl, m5, k5, hmv⟩
          have s5 := hsd.moved hmv
          have hd5 : ∀ (i : Nat) (d : Int), ds[i]? = some d → nodeF N5 d = atom ((i : Int) + 1) ∧ hasB N5 d = true := fun i d hi => by
            obtain ⟨q1, q2⟩ := hds i d hi
            obtain ⟨r1, r2⟩ := k5.keeps q2
            exact ⟨r2.trans q1, r1⟩
          clear mx hsd hds hmv
          go_wp2_with fail
          refine (get_mine m5 t k5.node k5.has).mono ?_
          rintro e w6 ⟨rfl, hb6⟩
          have hq := fun wx => run_equal27 wx (atom ((j : Int) + 1)) (atom ((j : Int) + 1)) 9998
          rw [(Nd.beq_iff _ _).2 rfl] at hq
          simp only [Nd.val, atom] at hq
          have hgd := guard27
          have m6 := m5.grow (hb6.alloc hb6.size (.cells #[.int .i64 1, .string ⟨#[]⟩, .int .i64 ((j : Int) + 1), .int .i64 0] 27))
          have s6 := s5.grow m5.st.lt (hb6.alloc hb6.size (.cells #[.int .i64 1, .string ⟨#[]⟩, .int .i64 ((j : Int) + 1), .int .i64 0] 27))
          have hdl : ds.length = j := by have := s6.own.1; simpa using this
          have Hdl : Hid (ds.length = j) := hdl
          clear s5 hdl
          go_wp2_with fail
          clear hq hgd
          generalize (w6.alloc (.cells #[.int .i64 1, .string ⟨#[]⟩, .int .i64 ((j : Int) + 1), .int .i64 0] 27)) = w7 at *
          go_loop [64] (fun x => ∃ q : Nat, q ≤ j ∧ x = .int .i64 q) (fun x => j - (intOf x).toNat)
          case atStart => exact ⟨0, Nat.zero_le _, rfl⟩
          case round =>
            obtain ⟨q, hq, rfl⟩ := hrel
            by_cases hqj : q < j
            · obtain ⟨g, cp, hv, hg, hcell⟩ := s6.ints hqj
              simp at hv
              obtain ⟨rfl, rfl⟩ := hv
              have hdd : ds[q]? = some (ds.getD q 0) := by have := Hdl.out; simp [List.getD, show q < ds.length by omega]
              generalize ds.getD q 0 = d at *
              have hne : (d == t) = false := by
                rw [beq_eq_false_iff_ne]
                intro e
                have h1 := (hd5 q d hdd).1
                rw [e, k5.node] at h1
                simp [atom] at h1
                omega
              go_wp2_with fail
              go_round
              case rel => exact ⟨q + 1, by omega, by go_num⟩
              case measure => simp [intOf]; omega
            · have hsz := m6.below.size
              have s7 := s6.grow m6.st.lt ((Below.refl _ w7).alloc (Nat.le_refl _) (.cells #[.int .i64 t] 3))
              have m7 := m6.grow ((Below.refl _ w7).alloc (Nat.le_refl _) (.cells #[.int .i64 t] 3))
              obtain ⟨i0, hi, hz0, hz1, hz2⟩ := info_parts info3
              clear s6 m6
              go_wp2_with (at_builtin; refine wpList_append_own_at _ rfl (.tmp 72) (.tmp 74) 42 rfl w.heap.size 3 i0 (.int .i64 0) 1 8 Try.underlying42 hi hz0 hz1 hz2 rfl (by decide) (.slice a8 j cap8) j (ds.map (Value.int .i64)) rfl s7.own ⟨w7.heap.size, 0, none⟩ 1 1 [.int .i64 t] rfl rfl (cell_one_new _ _ _) (ints_oneCell .i64 [t]) (by unfold maxLen; omega) (by omega) (by simp; omega) ?_; intro v' w8 hown' hgrow hnil hloc)
              obtain ⟨m8, s8⟩ := m7.appended s7 hgrow hown' hloc
              clear m7 s7 hown' hgrow hnil hloc
              go_roundw
              case rel =>
                refine ⟨j + 1, by omega, by go_num, N5, ds ++ [t], by simpa using m8, k5.wf, by have := k5.len; omega, by simpa using s8, fun i d hi => ?_⟩
                have hdl := Hdl.out
                by_cases hil : i < ds.length
                · rw [List.getElem?_append_left hil] at hi
                  exact hd5 i d hi
                · rw [List.getElem?_append_right (by omega)] at hi
                  have hi0 : i - ds.length = 0 := by
                    have := (List.getElem?_eq_some_iff.1 hi).1
                    simp at this; omega
                  rw [hi0] at hi
                  simp at hi
                  subst hi
                  have : i = j := by omega
                  subst this
                  exact ⟨k5.node, k5.has⟩
              case measure => simp [intOf]; omega
        · go_wp2_with fail
          go_ret
          exact ⟨rfl, mx.below⟩

end Go.Proofs.Ytddjihlmlfchdaa
