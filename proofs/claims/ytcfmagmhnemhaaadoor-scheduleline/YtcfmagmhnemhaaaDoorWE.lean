/-
  ScheduleLine: a line of epochs: no secret ever comes again, and whoever joins goes on with the others.
-/
import Derived.Test.YtcfmagmhnemhaaaDoorVI
import Derived.Test.YtcfmagmhnemhaaaDoorAr
import Derived.Deep.QuietTactic
namespace Go.Proofs.YtcfmagmhnemhaaaDoor
open Go.RowKit
set_option linter.unusedSimpArgs false
set_option linter.unusedVariables false

/-- A slice of the law's own beside the store. -/
structure Own2 (B : Nat) (w : World) (s : Nat) (v : Value) (n : Nat) (xs : List Value) : Prop where
  own : w.ownsRow B 3 1 v n xs
  free : ∀ g, v.ownBlock = some g → ¬ Own w s g

theorem Own2.moved {B : Nat} {w w' : World} {s n : Nat} {v : Value} {xs : List Value} (h : Own2 B w s v n xs) (hm : Moved s w w') : Own2 B w' s v n xs := by
  refine ⟨⟨h.own.1, ?_⟩, fun g hg ho => ?_⟩
  · rcases h.own.2 with hn | ⟨g, cap, cur, rfl, hb, hgg, rest⟩
    · exact Or.inl hn
    · refine Or.inr ⟨g, cap, cur, rfl, hb, ?_, rest⟩
      rw [hm.block g (Array.getElem?_eq_some_iff.1 hgg).1 (h.free g rfl)]
      exact hgg
  · have hlt := (h.own.lt g hg).2
    rcases hm.own g ho with h1 | h1
    · exact h.free g hg h1
    · omega

theorem Own2.nil (B : Nat) (w : World) (s : Nat) : Own2 B w s (.slice none 0 0) 0 [] := ⟨World.ownsRow_nil _ _ _ _, fun g h => by simp [Value.ownBlock] at h⟩

theorem Own2.head {B : Nat} {w : World} {s g cap n : Nat} {xs : List Value} (h : Own2 B w s (.slice (some ⟨g, 0, none⟩) n cap) n xs) : B ≤ g ∧ g < w.heap.size ∧ n ≤ cap ∧ (∃ cur, w.heap[g]? = some (.cells cur 3)) := by
  rcases h.own.2 with ⟨h', _⟩ | ⟨g', cap', cur, h', hb, hgg, hnc, _⟩
  · simp at h'
  · cases h'
    exact ⟨hb, (Array.getElem?_eq_some_iff.1 hgg).1, hnc, cur, hgg⟩

theorem Run.appended {s : Nat} {w0 w w' : World} {ns ns' : List Nd} {dr : Int} {c : Nat} (h : Run s w0 w ns ns' dr c) (ht : Big w0) {v v' : Value} {n m : Nat} {xs ys : List Value} (hv : Own2 w0.heap.size w s v n xs) (hg : w.grownBy w' v.ownBlock) (ho : w'.ownsRow w0.heap.size 3 1 v' m ys) (hl : v'.ownBlock = v.ownBlock ∨ v'.ownBlock = some w.heap.size) :
    Run s w0 w' ns ns' dr c ∧ Own2 w0.heap.size w' s v' m ys := by
  obtain ⟨h3, h4⟩ := h.grown hg (fun g' e => ⟨(hv.own.lt g' e).1, hv.free g' e⟩) ht
  refine ⟨h3, ho, fun g' e hw => ?_⟩
  have hw := (h4 g').1 hw
  rcases hl with hl | hl
  · exact hv.free g' (by rw [← hl]; exact e) hw
  · rw [hl] at e
    cases e
    have := h.seat.st.own_lt hw
    omega

/-- All secrets of the first epochs of a line. -/
def seenT (cs : List Tm) : Nat → List Tm
  | 0 => []
  | k + 1 => seenT cs k ++ lineE cs k

theorem seenT_mem {cs : List Tm} : ∀ {k q : Nat} {T : Tm}, (seenT cs k)[q]? = some T → ∃ (j p : Nat), j < k ∧ (lineE cs j)[p]? = some T
  | 0, q, T, h => by simp [seenT] at h
  | k + 1, q, T, h => by
    simp only [seenT] at h
    rcases Nat.lt_or_ge q (seenT cs k).length with hq | hq
    · rw [List.getElem?_append_left hq] at h
      obtain ⟨j, p, h1, h2⟩ := seenT_mem h
      exact ⟨j, p, by omega, h2⟩
    · rw [List.getElem?_append_right hq] at h
      exact ⟨k, _, by omega, h⟩

structure CellsAt (w : World) (b : Nat) (l : List Int) : Prop where
  lt : b < w.heap.size
  at_ : ∀ (i : Nat) (x : Int), l[i]? = some x → w.cell? ⟨b, i, none⟩ = some (.int .i64 x)

theorem Tryd.infoI : (Tryd.prog.info? 3).map (fun i => (i.zero, i.size, i.bytes)) = some (some (.int .i64 0), 1, 8) := by kernel_rfl

theorem i64_small (k : Nat) (h : k ≤ 1000) : I64 (k : Int) := ⟨by omega, by omega⟩

set_option maxRecDepth 100000 in
set_option maxHeartbeats 4000000 in
theorem line_law {v : Value} {l : List Int} {w : World} (ha : IntsAt w v l) (hL : Laid0 w) :
    Calls Tryd.prog 5 #[v] w fun e w' => e = .returned (.bool true) ∧ Below w.heap.size w w' := by
  obtain ⟨la, lcap, rfl, hl1, hne⟩ := id ha
  have HA : Hid (∀ w', Below w.heap.size w w' → Calls Tryd.prog 7 #[.slice la l.length lcap, .int .i64 9] w' fun e w2 => e = .returned (.bool (rightB l 9)) ∧ w2 = w') := fun w' hw => right_m (ha.below hw) 9
  have Ha : Hid (∀ w', Below w.heap.size w w' → l ≠ [] → ∃ b off, la = some ⟨b, off, none⟩ ∧ ∀ i x, l[i]? = some x → w'.cell? ⟨b, off + i, none⟩ = some (.int .i64 x)) := fun w' hb hn => by
    obtain ⟨b, off, e, h1, h2⟩ := hne hn
    exact ⟨b, off, e, fun i x hx => (hb.cell (p := ⟨b, _, none⟩) h1).trans (h2 i x hx)⟩
  clear ha hl1 hne
  cases ra : rightB l 9
  · rw [ra] at HA
    clear ra Ha
    go_enter Tryd.func5, Tryd.ntmps5
    go_wp2_with fail
    refine (anchor_m hL).mono ?_
    rintro e w1 ⟨rfl, b1⟩
    go_wp2_with fail
    refine Calls.mono (HA.out _ b1) ?_; rintro e w2 ⟨rfl, rfl⟩
    go_wp2_with fail
    go_ret
    exact ⟨rfl, b1⟩
  have HR : Hid (∀ x ∈ l, 1 ≤ x ∧ x ≤ 9) := rightB_mem ra
  rw [ra] at HA
  clear ra
  by_cases lb : (30 : Int) < (l.length : Int)
  · go_enter Tryd.func5, Tryd.ntmps5
    go_wp2_with fail
    refine (anchor_m hL).mono ?_
    rintro e w1 ⟨rfl, b1⟩
    go_wp2_with fail
    refine Calls.mono (HA.out _ b1) ?_; rintro e w2 ⟨rfl, rfl⟩
    go_wp2_with fail
    go_ret
    exact ⟨rfl, b1⟩
  have pb : ((30 : Int) < (l.length : Int)) = False := eq_false lb
  have Lb : Hid (l.length ≤ 30) := by unfold Hid; omega
  clear lb
  go_enter Tryd.func5, Tryd.ntmps5
  go_wp2_with fail
  refine (anchor_m hL).mono ?_
  rintro e w1 ⟨rfl, b1⟩
  go_wp2_with fail
  refine Calls.mono (HA.out _ b1) ?_; rintro e w2 ⟨rfl, hw2⟩; obtain rfl := hw2.symm
  go_wp2_with fail
  refine (stores_m (hL.low hL.big (fun k hk => b1.block k hk)) 9 (by decide)).mono ?_
  rintro e w3 ⟨s, r, rfl, hT⟩
  have HB1 : Hid (Below w.heap.size w w1) := b1
  have HT3 : Hid (Two w1 s r w3 (atoms 9) 9 (atoms 9) 9) := hT
  have HG : Hid (Big w3) := hT.seat.laid.big
  obtain ⟨cs, hcs⟩ : ∃ cs, l.map Tm.atom = cs := ⟨_, rfl⟩
  have Hcs : Hid (∀ (i : Nat) (x : Int), l[i]? = some x → cs.getD i noT = .atom x) := fun i x hx => by
    rw [← hcs, List.getD, List.getElem?_map, hx]
    rfl
  clear hT b1 HA hw2 hcs pb
  go_wp2_with fail
  go_loopw [35, 5, 6, 7] (fun i x y sv wr => ∃ (k : Nat) (xi : Int) (ns : List Nd) (sl : List Int), k ≤ l.length ∧ i = .int .i64 k ∧ x = .int .i64 xi ∧ y = .int .i64 xi ∧ Hid (Run s w3 wr (atoms 9) ns 9 (51 * k)) ∧ Hid (Means ns xi (lineI cs k)) ∧ Hid (Own2 w3.heap.size wr s sv sl.length (sl.map (Value.int .i64))) ∧ Hid (Mean2 ns sl (seenT cs k)) ∧ Hid (sl.length = 13 * k)) (fun i _ _ _ _ => l.length - (intOf i).toNat)
  case atStart => exact ⟨0, 1, atoms 9, [], Nat.zero_le _, rfl, rfl, rfl, Run.refl HT3.out.seat, atoms_means (k := 9) (by decide) (by decide), Own2.nil _ _ _, .nil, rfl⟩
  case round =>
    obtain ⟨k, xi, ns, sl, hk, rfl, rfl, rfl, HRu, HX, HS, HM, HN⟩ := hrel
    have HTr : Hid (Two w1 s r wr ns 9 (atoms 9) 9) := HT3.out.run HRu.out
    have HBr : Hid (Below w.heap.size w wr) := HB1.out.trans (HTr.out.low.mono HB1.out.size)
    have Hn : Hid (ns.length ≤ 9 + 51 * k) := by have := HRu.out.st.len; rw [atoms_length] at this; exact this
    by_cases hlt : k < l.length
    · obtain ⟨lb, lo, rfl, hc⟩ := Ha.out wr HBr.out (by rintro rfl; simp at hlt)
      obtain ⟨c, hcx⟩ : ∃ c, l[k]? = some c := ⟨l[k], by simp [hlt]⟩
      have d0 := hc k c hcx
      have i1 : (k : Int) < (l.length : Int) := by omega
      have Hk30 : Hid (k < 30) := by have := Lb.out; unfold Hid; omega
      have HCm : Hid (Means ns c (.atom c)) := (atoms_means (k := 9) (HR.out c (List.mem_of_getElem? hcx)).1 (HR.out c (List.mem_of_getElem? hcx)).2).keeps HRu.out.st.pre
      have HCe : Hid (cs.getD k noT = .atom c) := Hcs.out k c hcx
      have HP0 : Hid (atoms 9 <+: ns) := HRu.out.st.pre
      obtain ⟨sa, sc, rfl⟩ : ∃ sa sc, u7 = .slice sa sl.length sc := by
        rcases HS.out.own.2 with ⟨rfl, e⟩ | ⟨g, cap, cur, rfl, _⟩
        · exact ⟨none, 0, by rw [e]⟩
        · exact ⟨_, cap, rfl⟩
      clear hc hcx
      go_wp2_with fail
      refine (context_m HTr.out.seat 1 k ⟨by decide, by decide⟩ (i64_small k (by have := Hk30.out; omega)) ((atoms_means (k := 9) (t := 2) (by decide) (by decide)).keeps HP0.out) ((atoms_means (k := 9) (t := 3) (by decide) (by decide)).keeps HP0.out) (by have := Hn.out; have := Hk30.out; omega)).mono ?_
      rintro e w4 ⟨t4, ns4, rfl, r4, m4⟩
      have HR4 : Hid (Run s w3 w4 (atoms 9) ns4 9 (51 * k + 7)) := HRu.out.trans r4
      have HS4 : Hid (Own2 w3.heap.size w4 s (.slice sa sl.length sc) sl.length (sl.map (Value.int .i64))) := HS.out.moved r4.mv
      have HM4 : Hid (Means ns4 t4 (contextT 1 k (.atom 2) (.atom 3))) := m4
      have P4 : Hid (Stp ns ns4 7) := r4.st
      clear r4 m4 d0
      go_wp2_with fail
      refine (text_m HR4.out.seat ⟨#[]⟩ (by decide) (by have := Hn.out; have := Hk30.out; have := P4.out.len; omega)).mono ?_
      rintro e w5 ⟨t5, ns5, rfl, r5, m5⟩
      have HR5 : Hid (Run s w3 w5 (atoms 9) ns5 9 (51 * k + 7 + 1)) := HR4.out.trans r5
      have HS5 : Hid (Own2 w3.heap.size w5 s (.slice sa sl.length sc) sl.length (sl.map (Value.int .i64))) := HS4.out.moved r5.mv
      have HM5 : Hid (Means ns5 t5 noT) := m5
      have HC5 : Hid (Means ns5 t4 (contextT 1 k (.atom 2) (.atom 3))) := HM4.out.keeps r5.st.pre
      have P5 : Hid (Stp ns ns5 8) := P4.out.trans r5.st
      clear r5 m5
      go_wp2_with fail
      refine (next_m HR5.out.seat (HX.out.keeps P5.out.pre) (HCm.out.keeps P5.out.pre) HM5.out HC5.out (by have := Hn.out; have := Hk30.out; have := P5.out.len; omega)).mono ?_
      rintro e w6 ⟨v6, ns6, rfl, r6, ⟨a0, a1, a2, a3, a4, a5, a6, a7, a8, a9, a10, a11, a12, rfl, m6⟩⟩
      have HR6 : Hid (Run s w3 w6 (atoms 9) ns6 9 (51 * k + 7 + 1 + 21)) := HR5.out.trans r6
      have HS6 : Hid (Own2 w3.heap.size w6 s (.slice sa sl.length sc) sl.length (sl.map (Value.int .i64))) := HS5.out.moved r6.mv
      have HM6 : Hid (Mean2 ns6 [a0, a1, a2, a3, a4, a5, a6, a7, a8, a9, a10, a11, a12] (lineE cs k)) := by
        unfold lineE
        rw [HCe.out]
        exact m6
      have HC6 : Hid (Means ns6 t4 (contextT 1 k (.atom 2) (.atom 3))) := HC5.out.keeps r6.st.pre
      have P6 : Hid (Stp ns ns6 29) := P5.out.trans r6.st
      have hal : Below w6.heap.size w6 (w6.alloc (.cells #[.int .i64 a0, .int .i64 a1, .int .i64 a2, .int .i64 a3, .int .i64 a4, .int .i64 a5, .int .i64 a6, .int .i64 a7, .int .i64 a8, .int .i64 a9, .int .i64 a10, .int .i64 a11, .int .i64 a12] 34)) := (Below.refl _ _).alloc (Nat.le_refl _) _
      have HE7 : Hid (Cells (w6.alloc (.cells #[.int .i64 a0, .int .i64 a1, .int .i64 a2, .int .i64 a3, .int .i64 a4, .int .i64 a5, .int .i64 a6, .int .i64 a7, .int .i64 a8, .int .i64 a9, .int .i64 a10, .int .i64 a11, .int .i64 a12] 34)) w6.heap.size 34 [Value.int .i64 a0, Value.int .i64 a1, Value.int .i64 a2, Value.int .i64 a3, Value.int .i64 a4, Value.int .i64 a5, Value.int .i64 a6, Value.int .i64 a7, Value.int .i64 a8, Value.int .i64 a9, Value.int .i64 a10, Value.int .i64 a11, Value.int .i64 a12]) := Cells.new w6 34 [Value.int .i64 a0, Value.int .i64 a1, Value.int .i64 a2, Value.int .i64 a3, Value.int .i64 a4, Value.int .i64 a5, Value.int .i64 a6, Value.int .i64 a7, Value.int .i64 a8, Value.int .i64 a9, Value.int .i64 a10, Value.int .i64 a11, Value.int .i64 a12]
      have HO7 : Hid (¬ Own (w6.alloc (.cells #[.int .i64 a0, .int .i64 a1, .int .i64 a2, .int .i64 a3, .int .i64 a4, .int .i64 a5, .int .i64 a6, .int .i64 a7, .int .i64 a8, .int .i64 a9, .int .i64 a10, .int .i64 a11, .int .i64 a12] 34)) s w6.heap.size) := free_new HR6.out.seat.st _
      have HR7 : Hid (Run s w3 (w6.alloc (.cells #[.int .i64 a0, .int .i64 a1, .int .i64 a2, .int .i64 a3, .int .i64 a4, .int .i64 a5, .int .i64 a6, .int .i64 a7, .int .i64 a8, .int .i64 a9, .int .i64 a10, .int .i64 a11, .int .i64 a12] 34)) (atoms 9) ns6 9 (51 * k + 29)) := HR6.out.after hal
      have HS7 : Hid (Own2 w3.heap.size (w6.alloc (.cells #[.int .i64 a0, .int .i64 a1, .int .i64 a2, .int .i64 a3, .int .i64 a4, .int .i64 a5, .int .i64 a6, .int .i64 a7, .int .i64 a8, .int .i64 a9, .int .i64 a10, .int .i64 a11, .int .i64 a12] 34)) s (.slice sa sl.length sc) sl.length (sl.map (Value.int .i64))) := HS6.out.moved (.ofBelow HR6.out.seat.st.lt hal)
      obtain ⟨W7, hW7⟩ : ∃ W7, w6.alloc (.cells #[.int .i64 a0, .int .i64 a1, .int .i64 a2, .int .i64 a3, .int .i64 a4, .int .i64 a5, .int .i64 a6, .int .i64 a7, .int .i64 a8, .int .i64 a9, .int .i64 a10, .int .i64 a11, .int .i64 a12] 34) = W7 := ⟨_, rfl⟩
      rw [hW7] at HE7 HO7 HR7 HS7
      have HW7 : Hid (w6.alloc (.cells #[.int .i64 a0, .int .i64 a1, .int .i64 a2, .int .i64 a3, .int .i64 a4, .int .i64 a5, .int .i64 a6, .int .i64 a7, .int .i64 a8, .int .i64 a9, .int .i64 a10, .int .i64 a11, .int .i64 a12] 34) = W7) := hW7
      clear hW7 r6 m6 hal
      go_wp2_with fail
      rw [HW7.out]
      refine Calls.mono (kdf_m HR7.out.seat kJoiner (by decide) (by have := Hn.out; have := Hk30.out; have := P6.out.len; omega) (HX.out.keeps P6.out.pre) (HCm.out.keeps P6.out.pre)) ?_
      rintro e w8 ⟨t8, ns8, rfl, r8, m8⟩
      have HR8 : Hid (Run s w3 w8 (atoms 9) ns8 9 (51 * k + 29 + 1)) := HR7.out.trans r8
      have HS8 : Hid (Own2 w3.heap.size w8 s (.slice sa sl.length sc) sl.length (sl.map (Value.int .i64))) := HS7.out.moved r8.mv
      have HE8 : Hid (Cells w8 w6.heap.size 34 [Value.int .i64 a0, Value.int .i64 a1, Value.int .i64 a2, Value.int .i64 a3, Value.int .i64 a4, Value.int .i64 a5, Value.int .i64 a6, Value.int .i64 a7, Value.int .i64 a8, Value.int .i64 a9, Value.int .i64 a10, Value.int .i64 a11, Value.int .i64 a12]) := Cells.run HE7.out r8 HO7.out
      have HO8 : Hid (¬ Own w8 s w6.heap.size) := r8.mv.free (Cells.lt HE7.out) HO7.out
      have HM8 : Hid (Means ns8 t8 (joinT (lineI cs k) (.atom c))) := m8
      have HC8 : Hid (Means ns8 t4 (contextT 1 k (.atom 2) (.atom 3))) := HC6.out.keeps r8.st.pre
      have P8 : Hid (Stp ns6 ns8 1) := r8.st
      clear r8 m8
      go_wp2_with fail
      refine (text_m HR8.out.seat ⟨#[]⟩ (by decide) (by have := Hn.out; have := Hk30.out; have := P6.out.len; have := P8.out.len; omega)).mono ?_
      rintro e w9 ⟨t9, ns9, rfl, r9, m9⟩
      have HR9 : Hid (Run s w3 w9 (atoms 9) ns9 9 (51 * k + 29 + 1 + 1)) := HR8.out.trans r9
      have HS9 : Hid (Own2 w3.heap.size w9 s (.slice sa sl.length sc) sl.length (sl.map (Value.int .i64))) := HS8.out.moved r9.mv
      have HE9 : Hid (Cells w9 w6.heap.size 34 [Value.int .i64 a0, Value.int .i64 a1, Value.int .i64 a2, Value.int .i64 a3, Value.int .i64 a4, Value.int .i64 a5, Value.int .i64 a6, Value.int .i64 a7, Value.int .i64 a8, Value.int .i64 a9, Value.int .i64 a10, Value.int .i64 a11, Value.int .i64 a12]) := Cells.run HE8.out r9 HO8.out
      have HO9 : Hid (¬ Own w9 s w6.heap.size) := r9.mv.free (Cells.lt HE8.out) HO8.out
      have HM9 : Hid (Means ns9 t9 noT) := m9
      have P9 : Hid (Stp ns6 ns9 2) := P8.out.trans r9.st
      have HJ9 : Hid (Means ns9 t8 (joinT (lineI cs k) (.atom c))) := HM8.out.keeps r9.st.pre
      have HC9 : Hid (Means ns9 t4 (contextT 1 k (.atom 2) (.atom 3))) := HC8.out.keeps r9.st.pre
      clear r9 m9
      go_wp2_with fail
      refine (join_m HR9.out.seat HJ9.out HM9.out HC9.out (by have := Hn.out; have := Hk30.out; have := P6.out.len; have := P9.out.len; omega)).mono ?_
      rintro e w10 ⟨v10, ns10, rfl, r10, ⟨b0, b1, b2, b3, b4, b5, b6, b7, b8, b9, b10, b11, b12, rfl, m10⟩⟩
      have HR10 : Hid (Run s w3 w10 (atoms 9) ns10 9 (51 * k + 51)) := HR9.out.trans r10
      have HS10 : Hid (Own2 w3.heap.size w10 s (.slice sa sl.length sc) sl.length (sl.map (Value.int .i64))) := HS9.out.moved r10.mv
      have HE10 : Hid (Cells w10 w6.heap.size 34 [Value.int .i64 a0, Value.int .i64 a1, Value.int .i64 a2, Value.int .i64 a3, Value.int .i64 a4, Value.int .i64 a5, Value.int .i64 a6, Value.int .i64 a7, Value.int .i64 a8, Value.int .i64 a9, Value.int .i64 a10, Value.int .i64 a11, Value.int .i64 a12]) := Cells.run HE9.out r10 HO9.out
      have P10 : Hid (ns6 <+: ns10) := P9.out.pre.trans r10.st.pre
      have HM10 : Hid (Mean2 ns10 [a0, a1, a2, a3, a4, a5, a6, a7, a8, a9, a10, a11, a12] (lineE cs k)) := HM6.out.keeps P10.out
      have HQ := Mean2.inj HR10.out.seat.wf HM10.out (show Mean2 ns10 [b0, b1, b2, b3, b4, b5, b6, b7, b8, b9, b10, b11, b12] (lineE cs k) by unfold lineE; rw [HCe.out]; exact m10)
      simp only [List.cons.injEq, and_true] at HQ
      obtain ⟨rfl, rfl, rfl, rfl, rfl, rfl, rfl, rfl, rfl, rfl, rfl, rfl, rfl⟩ := HQ
      have hal : Below w10.heap.size w10 (w10.alloc (.cells #[.int .i64 a0, .int .i64 a1, .int .i64 a2, .int .i64 a3, .int .i64 a4, .int .i64 a5, .int .i64 a6, .int .i64 a7, .int .i64 a8, .int .i64 a9, .int .i64 a10, .int .i64 a11, .int .i64 a12] 34)) := (Below.refl _ _).alloc (Nat.le_refl _) _
      have hF : Cells (w10.alloc (.cells #[.int .i64 a0, .int .i64 a1, .int .i64 a2, .int .i64 a3, .int .i64 a4, .int .i64 a5, .int .i64 a6, .int .i64 a7, .int .i64 a8, .int .i64 a9, .int .i64 a10, .int .i64 a11, .int .i64 a12] 34)) w10.heap.size 34 [Value.int .i64 a0, Value.int .i64 a1, Value.int .i64 a2, Value.int .i64 a3, Value.int .i64 a4, Value.int .i64 a5, Value.int .i64 a6, Value.int .i64 a7, Value.int .i64 a8, Value.int .i64 a9, Value.int .i64 a10, Value.int .i64 a11, Value.int .i64 a12] := Cells.new w10 34 [Value.int .i64 a0, Value.int .i64 a1, Value.int .i64 a2, Value.int .i64 a3, Value.int .i64 a4, Value.int .i64 a5, Value.int .i64 a6, Value.int .i64 a7, Value.int .i64 a8, Value.int .i64 a9, Value.int .i64 a10, Value.int .i64 a11, Value.int .i64 a12]
      have hE : Cells (w10.alloc (.cells #[.int .i64 a0, .int .i64 a1, .int .i64 a2, .int .i64 a3, .int .i64 a4, .int .i64 a5, .int .i64 a6, .int .i64 a7, .int .i64 a8, .int .i64 a9, .int .i64 a10, .int .i64 a11, .int .i64 a12] 34)) w6.heap.size 34 [Value.int .i64 a0, Value.int .i64 a1, Value.int .i64 a2, Value.int .i64 a3, Value.int .i64 a4, Value.int .i64 a5, Value.int .i64 a6, Value.int .i64 a7, Value.int .i64 a8, Value.int .i64 a9, Value.int .i64 a10, Value.int .i64 a11, Value.int .i64 a12] := Cells.below HE10.out hal
      have HR11 : Hid (Run s w3 (w10.alloc (.cells #[.int .i64 a0, .int .i64 a1, .int .i64 a2, .int .i64 a3, .int .i64 a4, .int .i64 a5, .int .i64 a6, .int .i64 a7, .int .i64 a8, .int .i64 a9, .int .i64 a10, .int .i64 a11, .int .i64 a12] 34)) (atoms 9) ns10 9 (51 * k + 51)) := HR10.out.after hal
      have HS11 : Hid (Own2 w3.heap.size (w10.alloc (.cells #[.int .i64 a0, .int .i64 a1, .int .i64 a2, .int .i64 a3, .int .i64 a4, .int .i64 a5, .int .i64 a6, .int .i64 a7, .int .i64 a8, .int .i64 a9, .int .i64 a10, .int .i64 a11, .int .i64 a12] 34)) s (.slice sa sl.length sc) sl.length (sl.map (Value.int .i64))) := HS10.out.moved (.ofBelow HR10.out.seat.st.lt hal)
      obtain ⟨W11, hW11⟩ : ∃ W11, w10.alloc (.cells #[.int .i64 a0, .int .i64 a1, .int .i64 a2, .int .i64 a3, .int .i64 a4, .int .i64 a5, .int .i64 a6, .int .i64 a7, .int .i64 a8, .int .i64 a9, .int .i64 a10, .int .i64 a11, .int .i64 a12] 34) = W11 := ⟨_, rfl⟩
      rw [hW11] at hF hE HR11 HS11
      have HW11 : Hid (w10.alloc (.cells #[.int .i64 a0, .int .i64 a1, .int .i64 a2, .int .i64 a3, .int .i64 a4, .int .i64 a5, .int .i64 a6, .int .i64 a7, .int .i64 a8, .int .i64 a9, .int .i64 a10, .int .i64 a11, .int .i64 a12] 34) = W11) := hW11
      have HF11 : Hid (Cells W11 w10.heap.size 34 [Value.int .i64 a0, Value.int .i64 a1, Value.int .i64 a2, Value.int .i64 a3, Value.int .i64 a4, Value.int .i64 a5, Value.int .i64 a6, Value.int .i64 a7, Value.int .i64 a8, Value.int .i64 a9, Value.int .i64 a10, Value.int .i64 a11, Value.int .i64 a12]) := hF
      have HE11 : Hid (Cells W11 w6.heap.size 34 [Value.int .i64 a0, Value.int .i64 a1, Value.int .i64 a2, Value.int .i64 a3, Value.int .i64 a4, Value.int .i64 a5, Value.int .i64 a6, Value.int .i64 a7, Value.int .i64 a8, Value.int .i64 a9, Value.int .i64 a10, Value.int .i64 a11, Value.int .i64 a12]) := hE
      have f0 : W11.cell? ⟨w10.heap.size, 0, none⟩ = some (.int .i64 a0) := by rw [Cells.cell hF]; rfl
      have g0 : W11.cell? ⟨w6.heap.size, 0, none⟩ = some (.int .i64 a0) := by rw [Cells.cell hE]; rfl
      have f1 : W11.cell? ⟨w10.heap.size, 1, none⟩ = some (.int .i64 a1) := by rw [Cells.cell hF]; rfl
      have g1 : W11.cell? ⟨w6.heap.size, 1, none⟩ = some (.int .i64 a1) := by rw [Cells.cell hE]; rfl
      have f2 : W11.cell? ⟨w10.heap.size, 2, none⟩ = some (.int .i64 a2) := by rw [Cells.cell hF]; rfl
      have g2 : W11.cell? ⟨w6.heap.size, 2, none⟩ = some (.int .i64 a2) := by rw [Cells.cell hE]; rfl
      have f3 : W11.cell? ⟨w10.heap.size, 3, none⟩ = some (.int .i64 a3) := by rw [Cells.cell hF]; rfl
      have g3 : W11.cell? ⟨w6.heap.size, 3, none⟩ = some (.int .i64 a3) := by rw [Cells.cell hE]; rfl
      have f4 : W11.cell? ⟨w10.heap.size, 4, none⟩ = some (.int .i64 a4) := by rw [Cells.cell hF]; rfl
      have g4 : W11.cell? ⟨w6.heap.size, 4, none⟩ = some (.int .i64 a4) := by rw [Cells.cell hE]; rfl
      have f5 : W11.cell? ⟨w10.heap.size, 5, none⟩ = some (.int .i64 a5) := by rw [Cells.cell hF]; rfl
      have g5 : W11.cell? ⟨w6.heap.size, 5, none⟩ = some (.int .i64 a5) := by rw [Cells.cell hE]; rfl
      have f6 : W11.cell? ⟨w10.heap.size, 6, none⟩ = some (.int .i64 a6) := by rw [Cells.cell hF]; rfl
      have g6 : W11.cell? ⟨w6.heap.size, 6, none⟩ = some (.int .i64 a6) := by rw [Cells.cell hE]; rfl
      have f7 : W11.cell? ⟨w10.heap.size, 7, none⟩ = some (.int .i64 a7) := by rw [Cells.cell hF]; rfl
      have g7 : W11.cell? ⟨w6.heap.size, 7, none⟩ = some (.int .i64 a7) := by rw [Cells.cell hE]; rfl
      have f8 : W11.cell? ⟨w10.heap.size, 8, none⟩ = some (.int .i64 a8) := by rw [Cells.cell hF]; rfl
      have g8 : W11.cell? ⟨w6.heap.size, 8, none⟩ = some (.int .i64 a8) := by rw [Cells.cell hE]; rfl
      have f9 : W11.cell? ⟨w10.heap.size, 9, none⟩ = some (.int .i64 a9) := by rw [Cells.cell hF]; rfl
      have g9 : W11.cell? ⟨w6.heap.size, 9, none⟩ = some (.int .i64 a9) := by rw [Cells.cell hE]; rfl
      have f10 : W11.cell? ⟨w10.heap.size, 10, none⟩ = some (.int .i64 a10) := by rw [Cells.cell hF]; rfl
      have g10 : W11.cell? ⟨w6.heap.size, 10, none⟩ = some (.int .i64 a10) := by rw [Cells.cell hE]; rfl
      have f11 : W11.cell? ⟨w10.heap.size, 11, none⟩ = some (.int .i64 a11) := by rw [Cells.cell hF]; rfl
      have g11 : W11.cell? ⟨w6.heap.size, 11, none⟩ = some (.int .i64 a11) := by rw [Cells.cell hE]; rfl
      have f12 : W11.cell? ⟨w10.heap.size, 12, none⟩ = some (.int .i64 a12) := by rw [Cells.cell hF]; rfl
      have g12 : W11.cell? ⟨w6.heap.size, 12, none⟩ = some (.int .i64 a12) := by rw [Cells.cell hE]; rfl
      clear hW11 r10 m10 hal hF hE
      go_wp2_with (rw [HW11.out])
      refine (all_m a0 a1 a2 a3 a4 a5 a6 a7 a8 a9 a10 a11 a12).mono ?_
      rintro e w13 ⟨bb, rfl, b13, lo13, hi13, hc13⟩
      have HR13 : Hid (Run s w3 w13 (atoms 9) ns10 9 (51 * k + 51)) := HR11.out.after b13
      have HS13 : Hid (Own2 w3.heap.size w13 s (.slice sa sl.length sc) sl.length (sl.map (Value.int .i64))) := HS11.out.moved (.ofBelow HR11.out.seat.st.lt b13)
      have HE13 : Hid (Cells w13 w6.heap.size 34 [Value.int .i64 a0, Value.int .i64 a1, Value.int .i64 a2, Value.int .i64 a3, Value.int .i64 a4, Value.int .i64 a5, Value.int .i64 a6, Value.int .i64 a7, Value.int .i64 a8, Value.int .i64 a9, Value.int .i64 a10, Value.int .i64 a11, Value.int .i64 a12]) := Cells.below HE11.out b13
      have HF13 : Hid (Cells w13 w10.heap.size 34 [Value.int .i64 a0, Value.int .i64 a1, Value.int .i64 a2, Value.int .i64 a3, Value.int .i64 a4, Value.int .i64 a5, Value.int .i64 a6, Value.int .i64 a7, Value.int .i64 a8, Value.int .i64 a9, Value.int .i64 a10, Value.int .i64 a11, Value.int .i64 a12]) := Cells.below HF11.out b13
      have HC13 : Hid (∀ (i : Nat) (x : Int), [a0, a1, a2, a3, a4, a5, a6, a7, a8, a9, a10, a11, a12][i]? = some x → w13.cell? ⟨bb, i, none⟩ = some (.int .i64 x)) := hc13
      have HMs : Hid (Mean2 ns10 sl (seenT cs k)) := HM.out.keeps (P6.out.pre.trans P10.out)
      have HD : Hid (∀ (p q : Nat) (xa xs : Int), [a0, a1, a2, a3, a4, a5, a6, a7, a8, a9, a10, a11, a12][p]? = some xa → sl[q]? = some xs → (xa == xs) = false ∧ (xa == 0) = false) := fun p q xa xs h1 h2 => by
        obtain ⟨X, hX, mX⟩ := HM10.out.get p xa h1
        obtain ⟨Y, hY, mY⟩ := HMs.out.get q xs h2
        refine ⟨?_, by have := (hasB_iff _ _).1 mX.has; simp; omega⟩
        rw [beq_eq_false_iff_ne]
        rintro rfl
        have e := mX.one mY
        subst e
        obtain ⟨j, p', h3, h4⟩ := seenT_mem hY
        have := (lineE_apart hX h4).1
        omega
      have HSC : Hid (∀ (q : Nat) (xs : Int), sl[q]? = some xs → ∃ g, sa = some ⟨g, 0, none⟩ ∧ w13.cell? ⟨g, q, none⟩ = some (.int .i64 xs)) := fun q xs h => by
        have hq := (List.getElem?_eq_some_iff.1 h).1
        have hcell := HS13.out.own
        rcases HS13.out.own.2 with ⟨e, e2⟩ | ⟨g, cap, cur, e, _⟩
        · have : sl.length = 0 := e2
          omega
        · simp only [Value.slice.injEq] at e
          obtain ⟨rfl, -, -⟩ := e
          refine ⟨g, rfl, ?_⟩
          rw [hcell.cellAt q (by omega)]
          simp [h]
      have HFr : Hid (∀ g, (Value.slice sa sl.length sc).ownBlock = some g → g < w6.heap.size ∧ g < w10.heap.size) := fun g h => ⟨(HS6.out.own.lt g h).2, (HS10.out.own.lt g h).2⟩
      clear f0 g0 f1 g1 f2 g2 f3 g3 f4 g4 f5 g5 f6 g6 f7 g7 f8 g8 f9 g9 f10 g10 f11 g11 f12 g12 HS HS4 HS5 HS6 HS7 HS8 HS9 HS10 HS11 HR4 HR5 HR6 HR7 HR8 HR9 HR10 HR11 HE7 HE8 HE9 HE10 HE11 HF11 HM4 HC5 HM5 HC6 HM8 HC8 HM9 HJ9 HC9 HO7 HO8 HO9 P4 P5 P8 P9 HCm HCe HW7 HW11 b13 lo13 hi13 hc13 HP0
      go_wp2_with fail
      go_loop [65] (fun i => ∃ p : Nat, p ≤ 13 ∧ i = .int .i64 p) (fun i => 13 - (intOf i).toNat)
      case atStart => exact ⟨0, Nat.zero_le _, rfl⟩
      case round =>
        obtain ⟨p, hp, rfl⟩ := hrel
        by_cases hlt2 : p < 13
        · obtain ⟨xa, hxa⟩ : ∃ x, [a0, a1, a2, a3, a4, a5, a6, a7, a8, a9, a10, a11, a12][p]? = some x := ⟨[a0, a1, a2, a3, a4, a5, a6, a7, a8, a9, a10, a11, a12][p]'(by simpa using hlt2), List.getElem?_eq_getElem _⟩
          have da := HC13.out p xa hxa
          have Hxa : Hid ([a0, a1, a2, a3, a4, a5, a6, a7, a8, a9, a10, a11, a12][p]? = some xa) := hxa
          have j1 : (p : Int) < 13 := by omega
          clear hxa
          go_wp2_with fail
          go_loop [71] (fun j => ∃ q : Nat, q ≤ sl.length ∧ j = .int .i64 q) (fun j => sl.length - (intOf j).toNat)
          case atStart => exact ⟨0, Nat.zero_le _, rfl⟩
          case round =>
            obtain ⟨q, hq, rfl⟩ := hrel
            by_cases hlt3 : q < sl.length
            · obtain ⟨xs, hxs⟩ : ∃ x, sl[q]? = some x := ⟨sl[q], by simp [hlt3]⟩
              obtain ⟨g, hsa, ds⟩ := HSC.out q xs hxs
              obtain ⟨hne1, hne2⟩ := HD.out p q xa xs Hxa.out hxs
              have j2 : (q : Int) < (sl.length : Int) := by omega
              have h400 : q < 400 := by have := HN.out; have := Hk30.out; omega
              subst hsa
              clear hxs
              go_wp2_with fail
              go_round
              case rel => exact ⟨q + 1, by omega, by go_num⟩
              case measure => simp [intOf]; omega
            · have j2 : ¬ (q : Int) < (sl.length : Int) := by omega
              go_wp2_with fail
              go_round
              case rel => exact ⟨p + 1, by omega, by go_num⟩
              case measure => simp [intOf]; omega
        · have j1 : ¬ (p : Int) < 13 := by omega
          have h0 : w13.cell? ⟨w6.heap.size, 0, none⟩ = some (.int .i64 a0) := by rw [Cells.cell HE13.out]; rfl
          have h1 : w13.cell? ⟨w6.heap.size, 1, none⟩ = some (.int .i64 a1) := by rw [Cells.cell HE13.out]; rfl
          have h2 : w13.cell? ⟨w6.heap.size, 2, none⟩ = some (.int .i64 a2) := by rw [Cells.cell HE13.out]; rfl
          have h3 : w13.cell? ⟨w6.heap.size, 3, none⟩ = some (.int .i64 a3) := by rw [Cells.cell HE13.out]; rfl
          have h4 : w13.cell? ⟨w6.heap.size, 4, none⟩ = some (.int .i64 a4) := by rw [Cells.cell HE13.out]; rfl
          have h5 : w13.cell? ⟨w6.heap.size, 5, none⟩ = some (.int .i64 a5) := by rw [Cells.cell HE13.out]; rfl
          have h6 : w13.cell? ⟨w6.heap.size, 6, none⟩ = some (.int .i64 a6) := by rw [Cells.cell HE13.out]; rfl
          have h7 : w13.cell? ⟨w6.heap.size, 7, none⟩ = some (.int .i64 a7) := by rw [Cells.cell HE13.out]; rfl
          have h8 : w13.cell? ⟨w6.heap.size, 8, none⟩ = some (.int .i64 a8) := by rw [Cells.cell HE13.out]; rfl
          have h9 : w13.cell? ⟨w6.heap.size, 9, none⟩ = some (.int .i64 a9) := by rw [Cells.cell HE13.out]; rfl
          have h10 : w13.cell? ⟨w6.heap.size, 10, none⟩ = some (.int .i64 a10) := by rw [Cells.cell HE13.out]; rfl
          have h11 : w13.cell? ⟨w6.heap.size, 11, none⟩ = some (.int .i64 a11) := by rw [Cells.cell HE13.out]; rfl
          have h12 : w13.cell? ⟨w6.heap.size, 12, none⟩ = some (.int .i64 a12) := by rw [Cells.cell HE13.out]; rfl
          go_wp2_with fail
          refine (all_m a0 a1 a2 a3 a4 a5 a6 a7 a8 a9 a10 a11 a12).mono ?_
          rintro e w14 ⟨bb2, rfl, b14, lo14, hi14, hc14⟩
          have HR14 : Hid (Run s w3 w14 (atoms 9) ns10 9 (51 * k + 51)) := HR13.out.after b14
          have HS14 : Hid (Own2 w3.heap.size w14 s (.slice sa sl.length sc) sl.length (sl.map (Value.int .i64))) := HS13.out.moved (.ofBelow HR13.out.seat.st.lt b14)
          have HE14 : Hid (Cells w14 w6.heap.size 34 [Value.int .i64 a0, Value.int .i64 a1, Value.int .i64 a2, Value.int .i64 a3, Value.int .i64 a4, Value.int .i64 a5, Value.int .i64 a6, Value.int .i64 a7, Value.int .i64 a8, Value.int .i64 a9, Value.int .i64 a10, Value.int .i64 a11, Value.int .i64 a12]) := Cells.below HE13.out b14
          have HF14 : Hid (Cells w14 w10.heap.size 34 [Value.int .i64 a0, Value.int .i64 a1, Value.int .i64 a2, Value.int .i64 a3, Value.int .i64 a4, Value.int .i64 a5, Value.int .i64 a6, Value.int .i64 a7, Value.int .i64 a8, Value.int .i64 a9, Value.int .i64 a10, Value.int .i64 a11, Value.int .i64 a12]) := Cells.below HF13.out b14
          have hnews : ∀ j u, [Value.int .i64 a0, Value.int .i64 a1, Value.int .i64 a2, Value.int .i64 a3, Value.int .i64 a4, Value.int .i64 a5, Value.int .i64 a6, Value.int .i64 a7, Value.int .i64 a8, Value.int .i64 a9, Value.int .i64 a10, Value.int .i64 a11, Value.int .i64 a12][j]? = some u → w14.cell? ((⟨bb2, 0, none⟩ : Addr).add j) = some u := fun j u hu => by
            have e : [Value.int .i64 a0, Value.int .i64 a1, Value.int .i64 a2, Value.int .i64 a3, Value.int .i64 a4, Value.int .i64 a5, Value.int .i64 a6, Value.int .i64 a7, Value.int .i64 a8, Value.int .i64 a9, Value.int .i64 a10, Value.int .i64 a11, Value.int .i64 a12] = [a0, a1, a2, a3, a4, a5, a6, a7, a8, a9, a10, a11, a12].map (Value.int .i64) := rfl
            rw [e, List.getElem?_map] at hu
            obtain ⟨x, hx, rfl⟩ := Option.map_eq_some_iff.1 hu
            rw [Addr.add_mid, Nat.zero_add]
            exact hc14 j x hx
          have hone : ∀ u ∈ [Value.int .i64 a0, Value.int .i64 a1, Value.int .i64 a2, Value.int .i64 a3, Value.int .i64 a4, Value.int .i64 a5, Value.int .i64 a6, Value.int .i64 a7, Value.int .i64 a8, Value.int .i64 a9, Value.int .i64 a10, Value.int .i64 a11, Value.int .i64 a12], u.oneCell' = true := by simp [Value.oneCell']
          have Hm1 : Hid (sl.length + 13 ≤ maxLen) := by have := HN.out; have := Hk30.out; unfold Hid maxLen; omega
          have Hm2 : Hid ((sl.length + 13) * 8 ≤ 140737488355328) := by have := HN.out; have := Hk30.out; unfold Hid; omega
          have hbase : w3.heap.size ≤ w14.heap.size := HR14.out.mv.size
          obtain ⟨j0, hi0, hz0, hz1, hz2⟩ := info_parts Tryd.infoI
          clear h0 h1 h2 h3 h4 h5 h6 h7 h8 h9 h10 h11 h12 b14 lo14 hi14 hc14
          go_wp2_with (refine wpList_append_own_at _ rfl (.tmp 84) (.tmp 86) 22 rfl w3.heap.size 3 j0 (.int .i64 0) 1 8 Tryd.underlying22 hi0 hz0 hz1 hz2 rfl Nat.one_pos _ sl.length _ rfl HS14.out.own ⟨bb2, 0, none⟩ 13 13 [Value.int .i64 a0, Value.int .i64 a1, Value.int .i64 a2, Value.int .i64 a3, Value.int .i64 a4, Value.int .i64 a5, Value.int .i64 a6, Value.int .i64 a7, Value.int .i64 a8, Value.int .i64 a9, Value.int .i64 a10, Value.int .i64 a11, Value.int .i64 a12] rfl rfl hnews hone Hm1.out Hm2.out hbase ?_; intro v15 w15 ho hg hnil hl)
          obtain ⟨HRa, HSa⟩ := HR14.out.appended HG.out HS14.out hg ho hl
          have HE15 : Cells w15 w6.heap.size 34 [Value.int .i64 a0, Value.int .i64 a1, Value.int .i64 a2, Value.int .i64 a3, Value.int .i64 a4, Value.int .i64 a5, Value.int .i64 a6, Value.int .i64 a7, Value.int .i64 a8, Value.int .i64 a9, Value.int .i64 a10, Value.int .i64 a11, Value.int .i64 a12] := (hg.block _ (Cells.lt HE14.out) (fun e => by have := (HFr.out _ e.symm).1; omega)).trans HE14.out
          have HF15 : Cells w15 w10.heap.size 34 [Value.int .i64 a0, Value.int .i64 a1, Value.int .i64 a2, Value.int .i64 a3, Value.int .i64 a4, Value.int .i64 a5, Value.int .i64 a6, Value.int .i64 a7, Value.int .i64 a8, Value.int .i64 a9, Value.int .i64 a10, Value.int .i64 a11, Value.int .i64 a12] := (hg.block _ (Cells.lt HF14.out) (fun e => by have := (HFr.out _ e.symm).2; omega)).trans HF14.out
          have y4 : w15.cell? ⟨w6.heap.size, 4, none⟩ = some (.int .i64 a4) := by rw [Cells.cell HE15]; rfl
          have z4 : w15.cell? ⟨w10.heap.size, 4, none⟩ = some (.int .i64 a4) := by rw [Cells.cell HF15]; rfl
          have HRb : Hid (∀ n, Run s w3 (w15.drewN n) (atoms 9) ns10 9 (51 * k + 51)) := fun n => HRa.after (below_drewN (Below.refl _ _) n)
          have HSb : Hid (∀ n, Own2 w3.heap.size (w15.drewN n) s v15 (sl.length + 13) (sl.map (Value.int .i64) ++ [Value.int .i64 a0, Value.int .i64 a1, Value.int .i64 a2, Value.int .i64 a3, Value.int .i64 a4, Value.int .i64 a5, Value.int .i64 a6, Value.int .i64 a7, Value.int .i64 a8, Value.int .i64 a9, Value.int .i64 a10, Value.int .i64 a11, Value.int .i64 a12])) := fun n => HSa.moved (.ofBelow HRa.seat.st.lt (below_drewN (Below.refl _ _) n))
          have h30 : k < 30 := Hk30.out
          have HXn : Hid (Means ns10 a4 (lineI cs (k + 1))) := by
            obtain ⟨X, hX, mX⟩ := HM10.out.get 4 a4 rfl
            rw [lineE_init] at hX
            cases hX
            exact mX
          have HMn : Hid (Mean2 ns10 (sl ++ [a0, a1, a2, a3, a4, a5, a6, a7, a8, a9, a10, a11, a12]) (seenT cs (k + 1))) := HMs.out.append HM10.out
          clear ho hg hnil hl HRa HSa HE15 HF15 hnews hone hbase HSC HFr HD HC13 HR13 HS13 HE13 HF13 HR14 HS14 HE14 HF14
          go_wp2_with fail
          go_quiet (fail)
          go_wp2_with fail
          go_roundw
          case rel => exact ⟨k + 1, a4, ns10, sl ++ [a0, a1, a2, a3, a4, a5, a6, a7, a8, a9, a10, a11, a12], by omega, by go_num, rfl, rfl, (HRb.out _).mono (by omega), HXn.out, by unfold Hid; rw [List.length_append, List.map_append]; exact HSb.out _, HMn.out, by have := HN.out; unfold Hid; rw [List.length_append, this]; simp; omega⟩
          case measure => simp [intOf]; omega
    · have i1 : ¬ (k : Int) < (l.length : Int) := by omega
      go_wp2_with fail
      go_ret
      exact ⟨rfl, HBr.out⟩

end Go.Proofs.YtcfmagmhnemhaaaDoor
