/-
  conclavelaw01.TermMemory answers true for every input.
-/
import Derived.Test.YtddjihlmlfchdaaLists
namespace Go.Proofs.Ytddjihlmlfchdaa
open Go.RowKit
set_option linter.unusedSimpArgs false
set_option linter.unusedVariables false

/-- The numbers 1 to k. -/
def nums (k : Nat) : List Int := (List.range k).map fun i : Nat => (i : Int) + 1

theorem nums_length (k : Nat) : (nums k).length = k := by simp [nums]
theorem nums_get {k i : Nat} (h : i < k) : (nums k)[i]? = some ((i : Int) + 1) := by simp [nums, h]
theorem nums_succ (k : Nat) : nums (k + 1) = nums k ++ [(k : Int) + 1] := by simp [nums, List.range_succ]
theorem nums_mem {k : Nat} {x : Int} (h : x ∈ nums k) : 1 ≤ x ∧ x ≤ k := by
  simp [nums] at h
  obtain ⟨i, hi, rfl⟩ := h
  omega

theorem Side.row {w0 w : World} {s n : Nat} {v : Value} {xs : List Value} (h : Side w0 w s 3 1 v n xs) (hn : 0 < n) : ∃ g cap, v = .slice (some ⟨g, 0, none⟩) n cap ∧ n ≤ cap ∧ g < w.heap.size ∧ w0.heap.size ≤ g ∧ cap ≤ maxLen := by
  rcases h.own.2 with ⟨_, h0⟩ | ⟨g, cap, cur, rfl, hb, hgg, h1, h2, _⟩
  · omega
  · exact ⟨g, cap, rfl, h1, (Array.getElem?_eq_some_iff.1 hgg).1, hb, h2⟩

theorem Side.cellAt {w0 w : World} {s n g cap : Nat} {xs : List Value} (h : Side w0 w s 3 1 (.slice (some ⟨g, 0, none⟩) n cap) n xs) {j : Nat} (hj : j < n) : w.cell? ⟨g, j, none⟩ = xs[j]? := World.ownsRow.cellAt h.own j (by omega)

theorem Side.frozenAt {w0 w : World} {s n g cap : Nat} {xs : List Value} (h : Side w0 w s 3 1 (.slice (some ⟨g, 0, none⟩) n cap) n xs) (j : Nat) : w.frozen? ⟨g, j, none⟩ = false := World.ownsRow.frozenAt h.own j

/-- Another slice stays what it is while one of the law's own is written. -/
theorem Side.beside {w0 w w' : World} {s e size n : Nat} {v : Value} {xs : List Value} {row : Option Nat} (h : Side w0 w s e size v n xs) (hs : s < w.heap.size) (hg : w.grownBy w' row) (hr : ∀ g, row = some g → ¬ Own w s g) (hne : v.ownBlock = none ∨ v.ownBlock ≠ row) : Side w0 w' s e size v n xs :=
  ⟨h.own.kept hg hne, fun g hb ho => h.free g hb ((own_grownBy hs hg hr g).1 ho)⟩

theorem Side.told {w0 w w' : World} {s n : Nat} {ns : List Nd} {dr : Int} {v : Value} {xs : List Value} (h : Mine w0 s w ns dr) (ho : w'.ownsRow w.heap.size 3 1 v n xs) (hb : Below w.heap.size w w') : Side w0 w' s 3 1 v n xs := by
  have hsz := h.below.size
  refine ⟨⟨ho.1, ?_⟩, fun g hg hown => ?_⟩
  · rcases ho.2 with h1 | ⟨g, cap, cur, hv, hg, r⟩
    · exact Or.inl h1
    · exact Or.inr ⟨g, cap, cur, hv, by omega, r⟩
  · have h1 := (ho.lt g hg).1
    have h2 := h.st.own_lt ((own_below h.st.lt hb g).1 hown)
    omega

/-- One cell of a slice of the law's own is written. -/
theorem Mine.stored {w0 w : World} {s n g cap : Nat} {xs : List Value} {ns : List Nd} {dr : Int} (h : Mine w0 s w ns dr) (hd : Side w0 w s 3 1 (.slice (some ⟨g, 0, none⟩) n cap) n xs) (j : Nat) (u : Value) :
    Mine w0 s (w.setCell ⟨g, j, none⟩ u) ns dr ∧ Side w0 (w.setCell ⟨g, j, none⟩ u) s 3 1 (.slice (some ⟨g, 0, none⟩) n cap) n (xs.set j u) ∧ w.grownBy (w.setCell ⟨g, j, none⟩ u) (some g) := by
  obtain ⟨ho, hg⟩ := World.ownsRow.stored hd.own j u
  obtain ⟨h1, h2⟩ := h.appended hd hg ho (Or.inl rfl)
  exact ⟨h1, h2, hg⟩

theorem Side.has {w0 w : World} {s n g cap : Nat} {xs : List Value} (h : Side w0 w s 3 1 (.slice (some ⟨g, 0, none⟩) n cap) n xs) {j : Nat} (hj : j < n) : ∃ x, w.cell? ⟨g, j, none⟩ = some x := by
  have hl : xs.length = n := by have := h.own.1; omega
  exact ⟨xs[j]'(by omega), by rw [h.cellAt hj]; simp⟩

theorem cells_two (w : World) (x y : Value) (t : TypeId) : ∀ j u, [x, y][j]? = some u → (w.alloc (.cells #[x, y] t)).cell? ((⟨w.heap.size, 0, none⟩ : Addr).add j) = some u := by
  intro j u hj
  match j, hj with
  | 0, hj => simp at hj; subst hj; simp [Addr.add]
  | 1, hj => simp at hj; subst hj; simp [Addr.add]

set_option maxRecDepth 100000 in
set_option maxHeartbeats 4000000 in
theorem memory_walk (n : Int) (wn : (Lit.int .i64 n).wf = true) {w : World} :
    Calls Try.prog 7 #[.int .i64 n] w fun e w' => e = .returned (.bool true) ∧ Below w.heap.size w w' := by
  clear wn
  by_cases hn0 : n < 1
  · go_enter Try.func7, Try.ntmps7
    go_wp2_with fail
    refine (anchor_any w).mono ?_
    rintro e w1 ⟨rfl, hb⟩
    go_wp2_with fail
    go_ret
    exact ⟨rfl, hb⟩
  have hn0' : decide (n < 1) = false := dec_false hn0
  by_cases hn3 : 50 < n
  · go_enter Try.func7, Try.ntmps7
    go_wp2_with fail
    refine (anchor_any w).mono ?_
    rintro e w1 ⟨rfl, hb⟩
    go_wp2_with fail
    go_ret
    exact ⟨rfl, hb⟩
  have hn3' : decide (50 < n) = false := dec_false hn3
  obtain ⟨N, rfl⟩ : ∃ N : Nat, n = N := ⟨n.toNat, by omega⟩
  obtain ⟨i0, hi, hz0, hz1, hz2⟩ := info_parts info3
  go_enter Try.func7, Try.ntmps7
  go_wp2_with fail
  refine (anchor_any w).mono ?_
  rintro e w1 ⟨rfl, hb⟩
  go_wp2_with fail
  refine (new_mine w w1 hb).mono ?_
  rintro e w2 ⟨s, rfl, m2⟩
  clear hb
  have hz2' := m2.below.size
  have hmk : (Instr.makeSlice 42 (.int .i64 0) (.int .i64 ((N : Int) + 2))).run Try.prog w2 = .ok (.slice (some ⟨w2.heap.size, 0, none⟩) 0 (N + 2)) (w2.alloc (.cells (madeCells #[.int .i64 0] (N + 2)) 3)) := by
    have h := run_make (P := Try.prog) w2 42 3 i0 (.int .i64 0) Try.underlying42 hi hz0 .i64 .i64 0 ((N : Int) + 2) (by omega) (by omega) (by rw [hz2]; omega) (by omega)
    have e : ((N : Int) + 2).toNat = N + 2 := by omega
    simpa [hz1, Value.cells, e] using h
  have hMs := size_madeCells #[.int .i64 0] (N + 2)
  generalize madeCells #[.int .i64 0] (N + 2) = M at *
  have m3 := m2.grow ((Below.refl _ w2).alloc (Nat.le_refl _) (.cells M 3))
  have s3 := Side.made m2 (N + 2) M hMs (by unfold maxLen; omega)
  clear m2 hMs
  go_wp2_with fail
  clear hmk
  go_loopw [4, 5] (fun v i wr => ∃ k : Nat, k ≤ N ∧ i = .int .i64 k ∧ Mine w s wr (atoms k) k ∧ Side w wr s 3 1 v k ((nums k).map (Value.int .i64))) (fun _ i _ => N - (intOf i).toNat)
  case atStart => exact ⟨0, by omega, rfl, m3, s3⟩
  case round =>
    obtain ⟨k, hk, rfl, mr, sr⟩ := hrel
    obtain ⟨ar, cr, rfl⟩ := sr.form
    clear m3 s3 hz2'
    by_cases hlt : (k : Int) < N
    · go_wp2_with fail
      refine (fresh_any mr.st (by omega) (by omega)).mono ?_
      unfold freshD
      rw [atoms_make k (by omega), if_neg (show ¬ (k : Int) + 1 = 0 from by omega)]
      rintro e w3 ⟨rfl, hst, hmv⟩
      have m3 := mr.moved hst hmv
      have s3 := sr.moved hmv
      have hz3 := m3.below.size
      have m4 := m3.grow ((Below.refl _ w3).alloc (Nat.le_refl _) (.cells #[.int .i64 ((k : Int) + 1)] 3))
      have s4 := s3.grow m3.st.lt ((Below.refl _ w3).alloc (Nat.le_refl _) (.cells #[.int .i64 ((k : Int) + 1)] 3))
      clear m3 s3 mr sr hst hmv
      go_wp2_with (at_builtin; refine wpList_append_own_at _ rfl (.tmp 35) (.tmp 38) 42 rfl w.heap.size 3 i0 (.int .i64 0) 1 8 Try.underlying42 hi hz0 hz1 hz2 rfl (by decide) (.slice ar k cr) k ((nums k).map (Value.int .i64)) rfl s4.own ⟨w3.heap.size, 0, none⟩ 1 1 [.int .i64 ((k : Int) + 1)] rfl rfl (cell_one_new _ _ _) (ints_oneCell .i64 [(k : Int) + 1]) (by unfold maxLen; omega) (by omega) (by simp; omega) ?_; intro v' w5 hown' hgrow hnil hloc)
      obtain ⟨m5, s5⟩ := m4.appended s4 hgrow hown' hloc
      clear m4 s4 hown' hgrow hnil hloc
      go_roundw
      case rel => exact ⟨k + 1, by omega, by go_num, by simpa using m5, by rw [nums_succ]; simpa using s5⟩
      case measure => simp [intOf]; omega
    · have hkN : k = N := by omega
      subst hkN
      clear hlt hk
      have hzr := mr.below.size
      have m4 := mr.grow ((Below.refl _ wr).alloc (Nat.le_refl _) (.cells #[.int .i64 (-7), .int .i64 (-8)] 3))
      have s4 := sr.grow mr.st.lt ((Below.refl _ wr).alloc (Nat.le_refl _) (.cells #[.int .i64 (-7), .int .i64 (-8)] 3))
      go_wp2_with (at_builtin; refine wpList_append_own_at _ rfl (.tmp 40) (.tmp 41) 42 rfl w.heap.size 3 i0 (.int .i64 0) 1 8 Try.underlying42 hi hz0 hz1 hz2 rfl (by decide) (.slice ar k cr) k ((nums k).map (Value.int .i64)) rfl s4.own ⟨wr.heap.size, 0, none⟩ 2 2 [.int .i64 (-7), .int .i64 (-8)] rfl rfl (cells_two _ _ _ _) (ints_oneCell .i64 [-7, -8]) (by unfold maxLen; omega) (by omega) (by simp; omega) ?_; intro v' w5 hown' hgrow hnil hloc; obtain ⟨m5, s5⟩ := m4.appended s4 hgrow hown' hloc; obtain ⟨g, cg, hv, hcg, hg5, hgb, hcm⟩ := s5.row (by omega); subst hv)
      clear m4 s4 hown' hgrow hnil hloc mr sr
      obtain ⟨t1, N1, hk1, hp1, hw1, hL1, hlen1⟩ := listF_ok (l := nums k) (atoms_wf k (by omega)) (fun x hx => by rw [hasB_iff, atoms_length]; exact nums_mem hx) (by rw [atoms_length, nums_length]; omega)
      have K1 : Hid (listF (atoms k) (nums k) = (t1, N1)) := hk1
      have I1 : Hid (itemsF N1 t1 = some (nums k)) := hL1.items hw1
      clear hk1 hL1 hp1 hlen1
      have xget : ∀ j, j < k → ((nums k).map (Value.int .i64) ++ [.int .i64 (-7), .int .i64 (-8)])[j]? = some (.int .i64 ((j : Int) + 1)) := fun j hj => by
        rw [List.getElem?_append_left (by simp [nums_length]; omega)]
        simp [nums_get hj]
      have hI : IntsAt w5 (.slice (some ⟨g, 0, none⟩) k cg) (nums k) := by
        refine ⟨some ⟨g, 0, none⟩, cg, by rw [nums_length], by rw [nums_length]; omega, fun _ => ⟨g, 0, rfl, hg5, fun j x hj => ?_⟩⟩
        have hjl := (List.getElem?_eq_some_iff.1 hj).1
        rw [nums_length] at hjl
        rw [Nat.zero_add, s5.cellAt (by omega), xget j hjl]
        rw [nums_get hjl] at hj
        simp at hj
        rw [hj]
      refine (list_any m5.st hI (fun b o sp n c e => by
        simp at e
        obtain ⟨⟨rfl, _⟩, _⟩ := e
        exact s5.free g rfl)).mono ?_
      rw [K1.out]
      rintro e w6 ⟨rfl, hst, hmv⟩
      have m6 := m5.moved hst hmv
      have s6 := s5.moved hmv
      clear m5 s5 hI hst hmv
      go_wp2_with fail
      refine (items_mine m6 hw1 t1 I1.out).mono ?_
      rintro e w7 ⟨va, rfl, oa, ba⟩
      rw [nums_length] at oa
      have m7 := m6.grow ba
      have s7 := s6.grow m6.st.lt ba
      have sa := Side.told m6 oa ba
      obtain ⟨ga, ca, rfl, hca, hga, hgab, hcam⟩ := sa.row (by omega)
      have hga6 := (oa.lt ga rfl).1
      have hg6 := (s6.own.lt g rfl).2
      clear oa ba m6 s6
      go_wp2_with fail
      refine (items_mine m7 hw1 t1 I1.out).mono ?_
      rintro e w8 ⟨vb, rfl, ob, bb⟩
      rw [nums_length] at ob
      have m8 := m7.grow bb
      have s8 := s7.grow m7.st.lt bb
      have sa8 := sa.grow m7.st.lt bb
      have sb := Side.told m7 ob bb
      obtain ⟨gb, cb, rfl, hcb, hgb8, hgbb, hcbm⟩ := sb.row (by omega)
      have hgb7 := (ob.lt gb rfl).1
      have ha7 := (sa.own.lt ga rfl).2
      have n1 : g ≠ ga := by omega
      have n2 : g ≠ gb := by omega
      have n3 : ga ≠ gb := by omega
      clear ob bb m7 s7 sa
      have r0 : w8.cell? ⟨g, k, none⟩ = some (.int .i64 (-7)) := by
        rw [s8.cellAt (by omega), List.getElem?_append_right (by simp [nums_length])]
        simp [nums_length]
      have r1 : w8.cell? ⟨g, k + 1, none⟩ = some (.int .i64 (-8)) := by
        rw [s8.cellAt (by omega), List.getElem?_append_right (by simp [nums_length])]
        simp [nums_length]
      go_wp2_with fail
      clear r0 r1 xget
      go_loopw [87] (fun i wx => ∃ q : Nat, q ≤ k ∧ i = .int .i64 q ∧ Mine w s wx N1 k ∧ (∃ xs, Side w wx s 3 1 (.slice (some ⟨g, 0, none⟩) (k + 2) cg) (k + 2) xs) ∧ (∃ ys, Side w wx s 3 1 (.slice (some ⟨ga, 0, none⟩) k ca) k ys) ∧ Side w wx s 3 1 (.slice (some ⟨gb, 0, none⟩) k cb) k ((nums k).map (Value.int .i64))) (fun i _ => k - (intOf i).toNat)
      case atStart => exact ⟨0, by omega, rfl, m8, ⟨_, s8⟩, ⟨_, sa8⟩, sb⟩
      case round =>
        clear m8 s8 sa8 sb
        obtain ⟨q, hq, rfl, mx, ⟨xs, sx⟩, ⟨ys, sy⟩, sz⟩ := hrel
        by_cases hqk : q < k
        · obtain ⟨x, hx⟩ := sx.has (j := q) (by omega)
          obtain ⟨y, hy⟩ := sy.has (j := q) (by omega)
          have fx := sx.frozenAt q
          have fy := sy.frozenAt q
          obtain ⟨m1, s1, g1⟩ := mx.stored sy q (.int .i64 (-1))
          have hrow : ∀ g', some ga = some g' → ¬ Own wr s g' := fun g' e => by simp at e; subst e; exact sy.free ga rfl
          have sx1 := sx.beside mx.st.lt g1 hrow (Or.inr (by simp [Value.ownBlock]; exact n1))
          have sz1 := sz.beside mx.st.lt g1 hrow (Or.inr (by simp [Value.ownBlock]; exact Ne.symm n3))
          obtain ⟨m2, s2, g2⟩ := m1.stored sx1 q (.int .i64 (-2))
          have hrow2 : ∀ g', some g = some g' → ¬ Own (wr.setCell ⟨ga, q, none⟩ (.int .i64 (-1))) s g' := fun g' e => by simp at e; subst e; exact sx1.free g rfl
          have sy2 := s1.beside m1.st.lt g2 hrow2 (Or.inr (by simp [Value.ownBlock]; exact Ne.symm n1))
          have sz2 := sz1.beside m1.st.lt g2 hrow2 (Or.inr (by simp [Value.ownBlock]; exact Ne.symm n2))
          clear m1 s1 g1 hrow sx1 sz1 g2 hrow2 mx sx sy sz
          go_wp2_with fail
          go_roundw
          case rel => exact ⟨q + 1, by omega, by go_num, m2, ⟨_, s2⟩, ⟨_, sy2⟩, sz2⟩
          case measure => simp [intOf]; omega
        · have hzx := mx.below.size
          have bx := (Below.refl _ wr).alloc (Nat.le_refl _) (.cells #[.int .i64 (-3), .int .i64 (-3)] 3)
          have m4 := mx.grow bx
          have s4 := sy.grow mx.st.lt bx
          have z4 := sz.grow mx.st.lt bx
          have hkl : ys.length = k := by have := sy.own.1; omega
          clear mx sx sy sz bx
          go_wp2_with (at_builtin; refine wpList_append_own_at _ rfl (.tmp 97) (.tmp 98) 42 rfl w.heap.size 3 i0 (.int .i64 0) 1 8 Try.underlying42 hi hz0 hz1 hz2 rfl (by decide) (.slice (some ⟨ga, 0, none⟩) k ca) k ys rfl s4.own ⟨wr.heap.size, 0, none⟩ 2 2 [.int .i64 (-3), .int .i64 (-3)] rfl rfl (cells_two _ _ _ _) (ints_oneCell .i64 [-3, -3]) (by unfold maxLen; omega) (by omega) (by simp; omega) ?_; intro v' w5 hown' hgrow hnil hloc; obtain ⟨ac, cc, hvc⟩ := ownsRow_form hown'; subst hvc)
          obtain ⟨m5, s5⟩ := m4.appended s4 hgrow hown' hloc
          have z5 := z4.beside m4.st.lt hgrow (fun g' e => s4.free g' e) (Or.inr (by simp [Value.ownBlock]; exact Ne.symm n3))
          clear m4 s4 z4 hown' hgrow hnil hloc
          refine (items_mine m5 hw1 t1 I1.out).mono ?_
          rintro e w6 ⟨vd, rfl, od, bd⟩
          rw [nums_length] at od
          have m6 := m5.grow bd
          have z6 := z5.grow m5.st.lt bd
          have sd := Side.told m5 od bd
          obtain ⟨gd, cd, rfl, hcd, hgd, hgdb, hcdm⟩ := sd.row (by omega)
          clear od bd m5 z5 s5
          go_wp2_with fail
          go_loop [123] (fun i => ∃ q : Nat, q ≤ k ∧ i = .int .i64 q) (fun i => k - (intOf i).toNat)
          case atStart => exact ⟨0, by omega, rfl⟩
          case round =>
            obtain ⟨q', hq', rfl⟩ := hrel
            by_cases hqk' : q' < k
            · have c1 : w6.cell? ⟨gd, q', none⟩ = some (.int .i64 ((q' : Int) + 1)) := by
                rw [sd.cellAt hqk']; simp [nums_get hqk']
              have c2 : w6.cell? ⟨gb, q', none⟩ = some (.int .i64 ((q' : Int) + 1)) := by
                rw [z6.cellAt hqk']; simp [nums_get hqk']
              go_wp2_with fail
              go_round
              case rel => exact ⟨q' + 1, by omega, by go_num⟩
              case measure => simp [intOf]; omega
            · go_wp2_with fail
              go_ret
              exact ⟨rfl, m6.below⟩

end Go.Proofs.Ytddjihlmlfchdaa
