/-
  ScheduleApart: another input, and every secret of the epoch from there on is another one.
-/
import Derived.Test.YtcfmagmhnemhaaaWA
import Derived.Deep.QuietTactic
namespace Go.Proofs.Ytcfmagmhnemhaaa
open Go.RowKit
set_option linter.unusedSimpArgs false
set_option linter.unusedVariables false
attribute [local go_sem ↓] Go.wp_at_zero Go.wp_at_succ

/-- A list of the law's own that lies beside the store. -/
structure AllAt (w : World) (s b : Nat) (l : List Int) : Prop where
  lt : b < w.heap.size
  nown : ¬ Own w s b
  cells : ∀ i x, l[i]? = some x → w.cell? ⟨b, i, none⟩ = some (.int .i64 x)

theorem AllAt.run {w w' : World} {s b : Nat} {l : List Int} {ns ns' : List Nd} {dr : Int} {c : Nat} (h : AllAt w s b l) (k : Run s w w' ns ns' dr c) : AllAt w' s b l :=
  ⟨Nat.lt_of_lt_of_le h.lt k.mv.size, k.mv.free h.lt h.nown, fun i x hx => (k.cell h.lt h.nown i).trans (h.cells i x hx)⟩
theorem AllAt.below {w w' : World} {s b : Nat} {l : List Int} {ns : List Nd} {dr : Int} (h : AllAt w s b l) (hs : Seat w s ns dr) (k : Below w.heap.size w w') : AllAt w' s b l := h.run (.ofBelow hs k)
theorem AllAt.make {w w' : World} {s b : Nat} {l : List Int} {ns : List Nd} {dr : Int} (h : Seat w s ns dr) (hb : Below w.heap.size w w') (lo : w.heap.size ≤ b) (hi : b < w'.heap.size) (hc : ∀ i x, l[i]? = some x → w'.cell? ⟨b, i, none⟩ = some (.int .i64 x)) : AllAt w' s b l :=
  ⟨hi, fun ho => by have := h.st.own_lt ((own_below1 h.st.lt hb b).1 ho); omega, hc⟩

/-- Shared over a slice of one that was built just now, behind a draw. -/
theorem shared_oned {w : World} {s : Nat} {ns : List Nd} {dr : Int} {x : Int} {X : Tm} (h : Seat w s ns dr) (hx : Means ns x X) (hr : (ns.length : Int) + 3 < 262144) :
    Calls Try.prog 11 #[.pointer (some ⟨s, 0, none⟩), .slice (some ⟨w.heap.size, 0, none⟩) 1 1] (w.alloc (.cells #[.int .i64 x] 3)).drew fun e w' => ∃ t ns', e = .returned (.int .i64 t) ∧ Run s w w' ns ns' dr 2 ∧ Means ns' t (sharedT [X]) := by
  have hb : Below w.heap.size w (w.alloc (.cells #[.int .i64 x] 3)).drew := ((Below.refl _ _).alloc (Nat.le_refl _) _).drew
  refine (shared_m (l := [x]) (h.below hb) ((intsAt_new w [x] (by simp)).below ((Below.refl _ _).drew)) (fun _ b o sp n c e => ?_) (.cons hx .nil) (by simp; omega)).mono ?_
  · cases e
    exact fun ho => free_new h.st _ ((own_below1 (h.al _).st.lt ((Below.refl _ _).drew) _).1 ho)
  · rintro e w' ⟨t, ns', rfl, hrun, hm⟩
    exact ⟨t, ns', rfl, .ahead h hb hrun, hm⟩

theorem ne_four {l : List Int} (h : l.length = 4) : ∃ a b c d, l = [a, b, c, d] := by
  match l, h with
  | [a, b, c, d], _ => exact ⟨a, b, c, d, rfl⟩

/-- Four numbers that came in, in whatever comes behind. -/
theorem four_cells {w : World} {a : Option Addr} {m cap : Nat} {x0 x1 x2 x3 : Int} (h : IntsAt w (.slice a m cap) [x0, x1, x2, x3]) : ∃ b o, a = some ⟨b, o, none⟩ ∧ ∀ w', Below w.heap.size w w' → w'.cell? ⟨b, o, none⟩ = some (.int .i64 x0) ∧ w'.cell? ⟨b, o + 1, none⟩ = some (.int .i64 x1) ∧ w'.cell? ⟨b, o + 2, none⟩ = some (.int .i64 x2) ∧ w'.cell? ⟨b, o + 3, none⟩ = some (.int .i64 x3) := by
  obtain ⟨a', cap', e, _, hc⟩ := h
  cases e
  obtain ⟨b, o, rfl, hlt, hcell⟩ := hc (by simp)
  exact ⟨b, o, rfl, fun w' hb => ⟨(hb.cell (p := ⟨b, _, none⟩) hlt).trans (hcell 0 _ rfl), (hb.cell (p := ⟨b, _, none⟩) hlt).trans (hcell 1 _ rfl), (hb.cell (p := ⟨b, _, none⟩) hlt).trans (hcell 2 _ rfl), (hb.cell (p := ⟨b, _, none⟩) hlt).trans (hcell 3 _ rfl)⟩⟩

set_option maxRecDepth 100000 in
set_option maxHeartbeats 4000000 in
theorem apart_law {vl vm : Value} {l m : List Int} {w : World} (hl : IntsAt w vl l) (hm : IntsAt w vm m) :
    Calls Try.prog 3 #[vl, vm] w fun e w' => e = .returned (.bool true) ∧ Below w.heap.size w w' := by
  have hL : Laid0 w := trivial
  obtain ⟨la, lcap, rfl, hl1, _⟩ := id hl
  obtain ⟨ma, mcap, rfl, hl2, _⟩ := id hm
  have HA : Hid (∀ w', Below w.heap.size w w' → Calls Try.prog 7 #[.slice la l.length lcap, .int .i64 9] w' fun e w2 => e = .returned (.bool (rightB l 9)) ∧ w2 = w') := fun w' hw => right_m (hl.below hw) 9
  have HB : Hid (∀ w', Below w.heap.size w w' → Calls Try.prog 7 #[.slice ma m.length mcap, .int .i64 9] w' fun e w2 => e = .returned (.bool (rightB m 9)) ∧ w2 = w') := fun w' hw => right_m (hm.below hw) 9
  have Hl : Hid (IntsAt w (.slice la l.length lcap) l) := hl
  have Hm : Hid (IntsAt w (.slice ma m.length mcap) m) := hm
  clear hl hm hl1 hl2
  by_cases h4 : l.length = 4
  case neg =>
    have q1 : ((l.length : Int) != 4) = true := by simp; omega
    clear h4
    go_enter Try.func3, Try.ntmps3
    go_wp2_with fail
    refine (anchor_m hL).mono ?_
    rintro e w1 ⟨rfl, b1⟩
    go_wp2_with fail
    go_ret
    exact ⟨rfl, b1⟩
  have q1 : ((l.length : Int) != 4) = false := by simp; omega
  by_cases h5 : m.length = 4
  case neg =>
    have q2 : ((m.length : Int) != 4) = true := by simp; omega
    clear h4 h5
    go_enter Try.func3, Try.ntmps3
    go_wp2_with fail
    refine (anchor_m hL).mono ?_
    rintro e w1 ⟨rfl, b1⟩
    go_wp2_with fail
    go_ret
    exact ⟨rfl, b1⟩
  have q2 : ((m.length : Int) != 4) = false := by simp; omega
  have H4 : Hid (l.length = 4) := h4
  have H5 : Hid (m.length = 4) := h5
  clear h4 h5
  cases ra : rightB l 9
  · rw [ra] at HA
    clear ra HB
    go_enter Try.func3, Try.ntmps3
    go_wp2_with fail
    refine (anchor_m hL).mono ?_
    rintro e w1 ⟨rfl, b1⟩
    go_wp2_with fail
    refine Calls.mono (HA.out _ b1) ?_; rintro e w2 ⟨rfl, rfl⟩
    go_wp2_with fail
    go_ret
    exact ⟨rfl, b1⟩
  cases rb : rightB m 9
  · rw [ra] at HA
    rw [rb] at HB
    clear ra rb
    go_enter Try.func3, Try.ntmps3
    go_wp2_with fail
    refine (anchor_m hL).mono ?_
    rintro e w1 ⟨rfl, b1⟩
    go_wp2_with fail
    refine Calls.mono (HA.out _ b1) ?_; rintro e w2 ⟨rfl, rfl⟩
    go_wp2_with fail
    refine Calls.mono (HB.out _ b1) ?_; rintro e w2 ⟨rfl, rfl⟩
    go_wp2_with fail
    go_ret
    exact ⟨rfl, b1⟩
  have HRl : Hid (∀ x ∈ l, 1 ≤ x ∧ x ≤ 9) := rightB_mem ra
  have HRm : Hid (∀ x ∈ m, 1 ≤ x ∧ x ≤ 9) := rightB_mem rb
  rw [ra] at HA
  rw [rb] at HB
  clear ra rb
  go_enter Try.func3, Try.ntmps3
  go_wp2_with fail
  refine (anchor_m hL).mono ?_
  rintro e w1 ⟨rfl, b1⟩
  go_wp2_with fail
  refine Calls.mono (HA.out _ b1) ?_; rintro e w2 ⟨rfl, hw2⟩; obtain rfl := hw2.symm
  go_wp2_with fail
  refine Calls.mono (HB.out _ b1) ?_; rintro e w3 ⟨rfl, hw3⟩; obtain rfl := hw3.symm
  go_wp2_with fail
  refine (stores_m (hL.low hL.big (fun k hk => b1.block k hk)) 9 (by decide)).mono ?_
  rintro e w3 ⟨s, r, rfl, hT⟩
  have l0 := atoms_length 9
  have HB1 : Hid (Below w.heap.size w w1) := b1
  obtain ⟨x0, x1, x2, x3, rfl⟩ := ne_four H4.out
  obtain ⟨y0, y1, y2, y3, rfl⟩ := ne_four H5.out
  have HAl : Hid (∀ i x, [x0, x1, x2, x3][i]? = some x → Means (atoms 9) x (.atom x)) := fun i x hx => atoms_means (k := 9) (HRl.out x (List.mem_of_getElem? hx)).1 (HRl.out x (List.mem_of_getElem? hx)).2
  have HAm : Hid (∀ i x, [y0, y1, y2, y3][i]? = some x → Means (atoms 9) x (.atom x)) := fun i x hx => atoms_means (k := 9) (HRm.out x (List.mem_of_getElem? hx)).1 (HRm.out x (List.mem_of_getElem? hx)).2
  obtain ⟨lb, lo, rfl, hSl⟩ := four_cells Hl.out
  obtain ⟨mb, mo, rfl, hSm⟩ := four_cells Hm.out
  have Sl : Hid (∀ w', Below w.heap.size w w' → w'.cell? ⟨lb, lo, none⟩ = some (.int .i64 x0) ∧ w'.cell? ⟨lb, lo + 1, none⟩ = some (.int .i64 x1) ∧ w'.cell? ⟨lb, lo + 2, none⟩ = some (.int .i64 x2) ∧ w'.cell? ⟨lb, lo + 3, none⟩ = some (.int .i64 x3)) := hSl
  have Sm : Hid (∀ w', Below w.heap.size w w' → w'.cell? ⟨mb, mo, none⟩ = some (.int .i64 y0) ∧ w'.cell? ⟨mb, mo + 1, none⟩ = some (.int .i64 y1) ∧ w'.cell? ⟨mb, mo + 2, none⟩ = some (.int .i64 y2) ∧ w'.cell? ⟨mb, mo + 3, none⟩ = some (.int .i64 y3)) := hSm
  have hlow := b1.trans (hT.low.mono b1.size)
  have HB80 : Hid (Below w.heap.size w w3.drew) := hlow.drew
  have HB81 : Hid (Below w.heap.size w (w3.alloc (.cells #[.int .i64 x2] 3)).drew) := (hlow.alloc hlow.size _).drew
  have HT3 : Hid (Two w1 s r w3 (atoms 9) 9 (atoms 9) 9) := hT
  have HS8 : Hid (Calls Try.prog 11 #[.pointer (some ⟨s, 0, none⟩), .slice (some ⟨w3.heap.size, 0, none⟩) 1 1] (w3.alloc (.cells #[.int .i64 x2] 3)).drew fun e w' => ∃ t ns', e = .returned (.int .i64 t) ∧ Run s w3 w' (atoms 9) ns' 9 2 ∧ Means ns' t (sharedT [.atom x2])) := shared_oned hT.seat (HAl.out 2 x2 rfl) (by rw [l0]; decide)
  have Hn8 : Hid ((atoms 9).length ≤ 9) := by rw [l0]; exact Nat.le_refl 9
  clear hT hlow l0 b1 hSl hSm Hl Hm HA HB HRl HRm H4 H5 q1 q2
  go_wp2_with fail
  go_region_held3 (fun w' => w'.cell? ⟨lb, lo, none⟩ = some (.int .i64 x0) ∧ w'.cell? ⟨lb, lo + 1, none⟩ = some (.int .i64 x1) ∧ w'.cell? ⟨lb, lo + 2, none⟩ = some (.int .i64 x2) ∧ w'.cell? ⟨lb, lo + 3, none⟩ = some (.int .i64 x3))
    (first | with_reducible exact Sl.out _ HB80.out | with_reducible exact Sl.out _ HB81.out | with_reducible exact Sl.out _ HB82.out | with_reducible exact Sl.out _ HB83.out | with_reducible exact Sl.out _ HB84.out)
    (first
      | (go_at_call 11
         have hq := HS8.out
         with_reducible refine Calls.mono hq ?_
         clear hq
         rintro e u82 ⟨t82, n82, rfl, r2, m2⟩
         have HT82 : Hid (Two w1 s r u82 n82 9 (atoms 9) 9) := HT3.out.run r2
         have HB82 : Hid (Below w.heap.size w u82) := HB1.out.trans (HT82.out.low.mono HB1.out.size)
         have M82 : Hid (Means n82 t82 (sharedT [.atom x2])) := m2
         have P82 : Hid (Stp (atoms 9) n82 2) := r2.st
         clear r2 m2)
      | (go_at_call 10
         have hq := next_m HT82.out.seat ((HAl.out 0 x0 rfl).keeps (P82.out.pre)) ((HAl.out 1 x1 rfl).keeps (P82.out.pre)) M82.out ((HAl.out 3 x3 rfl).keeps (P82.out.pre)) (by have := Hn8.out; have := P82.out.len; omega)
         with_reducible refine Calls.mono hq ?_
         clear hq
         rintro e u83 ⟨v, n83, rfl, r3, ⟨a0, a1, a2, a3, a4, a5, a6, a7, a8, a9, a10, a11, a12, rfl, m3⟩⟩
         have HT83 : Hid (Two w1 s r u83 n83 9 (atoms 9) 9) := HT82.out.run r3
         have HB83 : Hid (Below w.heap.size w u83) := HB1.out.trans (HT83.out.low.mono HB1.out.size)
         have M83 : Hid (Mean2 n83 [a0, a1, a2, a3, a4, a5, a6, a7, a8, a9, a10, a11, a12] (epochT (joinT (.atom x0) (.atom x1)) (sharedT [.atom x2]) (.atom x3))) := m3
         have P83 : Hid (Stp (atoms 9) n83 23) := P82.out.trans r3.st
         clear r3 m3)
      | (go_at_call 9
         have hq := all_m (w := u83) a0 a1 a2 a3 a4 a5 a6 a7 a8 a9 a10 a11 a12
         with_reducible refine Calls.mono hq ?_
         clear hq
         rintro e u84 ⟨bb8, rfl, hbb4, lo4, hi4, hc4⟩
         have HT84 : Hid (Two w1 s r u84 n83 9 (atoms 9) 9) := HT83.out.below hbb4
         have HB84 : Hid (Below w.heap.size w u84) := HB1.out.trans (HT84.out.low.mono HB1.out.size)
         have HA8 : Hid (AllAt u84 s bb8 [a0, a1, a2, a3, a4, a5, a6, a7, a8, a9, a10, a11, a12]) := AllAt.make HT83.out.seat hbb4 lo4 hi4 hc4
         clear hbb4 lo4 hi4 hc4)
      | fail)
  have hlow := HB84.out
  have HB90 : Hid (Below w.heap.size w u84.drew) := hlow.drew
  have HB91 : Hid (Below w.heap.size w (u84.alloc (.cells #[.int .i64 y2] 3)).drew) := (hlow.alloc hlow.size _).drew
  have HS9 : Hid (Calls Try.prog 11 #[.pointer (some ⟨s, 0, none⟩), .slice (some ⟨u84.heap.size, 0, none⟩) 1 1] (u84.alloc (.cells #[.int .i64 y2] 3)).drew fun e w' => ∃ t ns', e = .returned (.int .i64 t) ∧ Run s u84 w' n83 ns' 9 2 ∧ Means ns' t (sharedT [.atom y2])) := shared_oned HT84.out.seat ((HAm.out 2 y2 rfl).keeps P83.out.pre) (by have := P83.out.len; have := Hn8.out; omega)
  have Hn9 : Hid (n83.length ≤ 32) := by have := P83.out.len; have := Hn8.out; unfold Hid; omega
  clear hlow HB80 HB81 HB82 HB83 HT82 HT83 M82 P82 HS8
  go_wp2_with fail
  go_region_held3 (fun w' => w'.cell? ⟨mb, mo, none⟩ = some (.int .i64 y0) ∧ w'.cell? ⟨mb, mo + 1, none⟩ = some (.int .i64 y1) ∧ w'.cell? ⟨mb, mo + 2, none⟩ = some (.int .i64 y2) ∧ w'.cell? ⟨mb, mo + 3, none⟩ = some (.int .i64 y3))
    (first | with_reducible exact Sm.out _ HB90.out | with_reducible exact Sm.out _ HB91.out | with_reducible exact Sm.out _ HB92.out | with_reducible exact Sm.out _ HB93.out | with_reducible exact Sm.out _ HB94.out)
    (first
      | (go_at_call 11
         have hq := HS9.out
         with_reducible refine Calls.mono hq ?_
         clear hq
         rintro e u92 ⟨t92, n92, rfl, r2, m2⟩
         have HT92 : Hid (Two w1 s r u92 n92 9 (atoms 9) 9) := HT84.out.run r2
         have HB92 : Hid (Below w.heap.size w u92) := HB1.out.trans (HT92.out.low.mono HB1.out.size)
         have M92 : Hid (Means n92 t92 (sharedT [.atom y2])) := m2
         have P92 : Hid (Stp n83 n92 2) := r2.st
         have K92 : Hid (AllAt u92 s bb8 [a0, a1, a2, a3, a4, a5, a6, a7, a8, a9, a10, a11, a12]) := HA8.out.run r2
         clear r2 m2)
      | (go_at_call 10
         have hq := next_m HT92.out.seat ((HAm.out 0 y0 rfl).keeps (P83.out.pre.trans P92.out.pre)) ((HAm.out 1 y1 rfl).keeps (P83.out.pre.trans P92.out.pre)) M92.out ((HAm.out 3 y3 rfl).keeps (P83.out.pre.trans P92.out.pre)) (by have := Hn9.out; have := P92.out.len; omega)
         with_reducible refine Calls.mono hq ?_
         clear hq
         rintro e u93 ⟨v, n93, rfl, r3, ⟨b0, b1, b2, b3, b4, b5, b6, b7, b8, b9, b10, b11, b12, rfl, m3⟩⟩
         have HT93 : Hid (Two w1 s r u93 n93 9 (atoms 9) 9) := HT92.out.run r3
         have HB93 : Hid (Below w.heap.size w u93) := HB1.out.trans (HT93.out.low.mono HB1.out.size)
         have M93 : Hid (Mean2 n93 [b0, b1, b2, b3, b4, b5, b6, b7, b8, b9, b10, b11, b12] (epochT (joinT (.atom y0) (.atom y1)) (sharedT [.atom y2]) (.atom y3))) := m3
         have P93 : Hid (Stp n83 n93 23) := P92.out.trans r3.st
         have K93 : Hid (AllAt u93 s bb8 [a0, a1, a2, a3, a4, a5, a6, a7, a8, a9, a10, a11, a12]) := K92.out.run r3
         clear r3 m3)
      | (go_at_call 9
         have hq := all_m (w := u93) b0 b1 b2 b3 b4 b5 b6 b7 b8 b9 b10 b11 b12
         with_reducible refine Calls.mono hq ?_
         clear hq
         rintro e u94 ⟨bb9, rfl, hbb4, lo4, hi4, hc4⟩
         have HT94 : Hid (Two w1 s r u94 n93 9 (atoms 9) 9) := HT93.out.below hbb4
         have HB94 : Hid (Below w.heap.size w u94) := HB1.out.trans (HT94.out.low.mono HB1.out.size)
         have HA9 : Hid (AllAt u94 s bb9 [b0, b1, b2, b3, b4, b5, b6, b7, b8, b9, b10, b11, b12]) := AllAt.make HT93.out.seat hbb4 lo4 hi4 hc4
         have K94 : Hid (AllAt u94 s bb8 [a0, a1, a2, a3, a4, a5, a6, a7, a8, a9, a10, a11, a12]) := K93.out.below HT93.out.seat hbb4
         clear hbb4 lo4 hi4 hc4)
      | fail)
  obtain ⟨cl0, cl1, cl2, cl3⟩ := Sl.out u94 HB94.out
  obtain ⟨cm0, cm1, cm2, cm3⟩ := Sm.out u94 HB94.out
  have MA : Hid (Mean2 n93 [a0, a1, a2, a3, a4, a5, a6, a7, a8, a9, a10, a11, a12] (epochT (joinT (.atom x0) (.atom x1)) (sharedT [.atom x2]) (.atom x3))) := M83.out.keeps P93.out.pre
  have HJ : Hid (∀ (k : Nat) (xa xb : Int), [a0, a1, a2, a3, a4, a5, a6, a7, a8, a9, a10, a11, a12][k]? = some xa → [b0, b1, b2, b3, b4, b5, b6, b7, b8, b9, b10, b11, b12][k]? = some xb → (xa == 0) = false ∧ (k = 0 → (xa == xb) = (x0 == y0 && x1 == y1)) ∧ (k = 1 ∨ k = 2 → (xa == xb) = ((x0 == y0 && x1 == y1) && x2 == y2)) ∧ (3 ≤ k → (xa == xb) = (((x0 == y0 && x1 == y1) && x2 == y2) && x3 == y3))) := fun k xa xb ha hb => by
    obtain ⟨X, hX, mX⟩ := Mean2.get MA.out k xa ha
    obtain ⟨Y, hY, mY⟩ := Mean2.get M93.out k xb hb
    have hiff := Means.eq_iff HT94.out.seat.wf mX mY
    have hk : k < 13 := (List.getElem?_eq_some_iff.1 ha).1
    have hXY : X = Y ↔ (epochT (joinT (.atom x0) (.atom x1)) (sharedT [.atom x2]) (.atom x3))[k]? = (epochT (joinT (.atom y0) (.atom y1)) (sharedT [.atom y2]) (.atom y3))[k]? := by rw [hX, hY]; simp
    have hS : sharedT [.atom x2] = sharedT [.atom y2] ↔ x2 = y2 := ⟨fun h => by have := sharedT_inj h; simpa using this, fun h => by rw [h]⟩
    refine ⟨by have := (hasB_iff _ _).1 mX.has; simp; omega, fun e => ?_, fun e => ?_, fun e => ?_⟩
    · subst e
      rw [Bool.eq_iff_iff]
      simp only [beq_iff_eq, Bool.and_eq_true]
      rw [hiff, hXY, epochT_0]
      simp
    · rw [Bool.eq_iff_iff]
      simp only [beq_iff_eq, Bool.and_eq_true]
      rw [hiff, hXY, epochT_12 e, hS]
      simp
    · rw [Bool.eq_iff_iff]
      simp only [beq_iff_eq, Bool.and_eq_true]
      rw [hiff, hXY, epochT_3 e hk, hS]
      simp
  have HD : Hid (∀ (i k : Nat) (xa xb : Int), k < i → [a0, a1, a2, a3, a4, a5, a6, a7, a8, a9, a10, a11, a12][i]? = some xa → [a0, a1, a2, a3, a4, a5, a6, a7, a8, a9, a10, a11, a12][k]? = some xb → (xa == xb) = false) := fun i k xa xb hki ha hb => by
    obtain ⟨X, hX, mX⟩ := Mean2.get MA.out i xa ha
    obtain ⟨Y, hY, mY⟩ := Mean2.get MA.out k xb hb
    rw [beq_eq_false_iff_ne]
    rintro rfl
    have e := mX.one mY
    subst e
    have := epochT_place hX hY
    omega
  have HC8 : Hid (∀ (i : Nat) (x : Int), [a0, a1, a2, a3, a4, a5, a6, a7, a8, a9, a10, a11, a12][i]? = some x → u94.cell? ⟨bb8, i, none⟩ = some (.int .i64 x)) := K94.out.cells
  have HC9 : Hid (∀ (i : Nat) (x : Int), [b0, b1, b2, b3, b4, b5, b6, b7, b8, b9, b10, b11, b12][i]? = some x → u94.cell? ⟨bb9, i, none⟩ = some (.int .i64 x)) := HA9.out.cells
  have HLo : Hid (∀ n, Below w.heap.size w (u94.drewN n)) := fun n => below_drewN HB94.out n
  clear HT3 Hn8 M83 P83 HT84 HB84 HA8 HB90 HB91 HS9 Hn9 HT92 HB92 M92 P92 K92 HT93 HB93 M93 P93 K93 HT94 HA9 K94 HB94 MA HAl HAm Sl Sm HB1 hw2 hw3
  obtain ⟨u, hu⟩ : ∃ u, u94 = u := ⟨_, rfl⟩
  rw [hu] at cl0 cl1 cl2 cl3 cm0 cm1 cm2 cm3 HC8 HC9 HLo
  rw [hu]
  clear hu
  cases p0 : x0 == y0
  · rw [p0] at HJ
    simp only [Bool.false_and] at HJ
    go_wp2_with fail
    go_quiet (fail)
    go_wp2_with fail
    go_quiet (fail)
    go_wp2_with fail
    go_quiet (fail)
    go_wp2_with fail
    go_loopw [116] (fun i wr => ∃ (k n : Nat), k ≤ 13 ∧ i = .int .i64 k ∧ wr = u.drewN n) (fun i _ => 13 - (intOf i).toNat)
    case atStart => exact ⟨0, _, Nat.zero_le _, rfl, rfl⟩
    case round =>
      obtain ⟨k, n, hk, rfl, rfl⟩ := hrel
      by_cases hlt : k < 13
      · obtain ⟨xa, ha⟩ : ∃ x, [a0, a1, a2, a3, a4, a5, a6, a7, a8, a9, a10, a11, a12][k]? = some x := ⟨[a0, a1, a2, a3, a4, a5, a6, a7, a8, a9, a10, a11, a12][k]'(by simpa using hlt), List.getElem?_eq_getElem _⟩
        obtain ⟨xb, hb⟩ : ∃ x, [b0, b1, b2, b3, b4, b5, b6, b7, b8, b9, b10, b11, b12][k]? = some x := ⟨[b0, b1, b2, b3, b4, b5, b6, b7, b8, b9, b10, b11, b12][k]'(by simpa using hlt), List.getElem?_eq_getElem _⟩
        have da := HC8.out k xa ha
        have db := HC9.out k xb hb
        obtain ⟨e0, eJ, eM, eS⟩ := HJ.out k xa xb ha hb
        have i1 : (k : Int) < 13 := by omega
        clear ha hb hk
        have h4 : k = 0 ∨ k = 1 ∨ k = 2 ∨ 3 ≤ k := by omega
        rcases h4 with rfl | rfl | rfl | h3
        · have q := eJ rfl
          clear eJ eM eS
          go_wp2_with fail
          go_quiet (fail)
          go_wp2_with fail
          go_roundw
          case rel => exact ⟨0 + 1, _, by omega, by go_num, rfl⟩
          case measure => simp [intOf]
        · have q := eM (Or.inl rfl)
          clear eJ eM eS
          go_wp2_with fail
          go_quiet (fail)
          go_wp2_with fail
          go_roundw
          case rel => exact ⟨1 + 1, _, by omega, by go_num, rfl⟩
          case measure => simp [intOf]
        · have q := eM (Or.inr rfl)
          clear eJ eM eS
          go_wp2_with fail
          go_quiet (fail)
          go_wp2_with fail
          go_roundw
          case rel => exact ⟨2 + 1, _, by omega, by go_num, rfl⟩
          case measure => simp [intOf]
        · have q := eS h3
          have z0 : ((k : Int) == 0) = false := by simp; omega
          have z1 : ((k : Int) == 1) = false := by simp; omega
          have z2 : ((k : Int) == 2) = false := by simp; omega
          have hk13 : k < 13 := hlt
          clear eJ eM eS h3
          go_wp2_with fail
          go_quiet (fail)
          go_wp2_with fail
          go_roundw
          case rel => exact ⟨k + 1, _, by omega, by go_num, rfl⟩
          case measure => simp [intOf]; omega
      · have i1 : ¬ (k : Int) < 13 := by omega
        go_wp2_with fail
        go_loopw [151] (fun i wr => ∃ (k n : Nat), k ≤ 13 ∧ i = .int .i64 k ∧ wr = u.drewN n) (fun i _ => 13 - (intOf i).toNat)
        case atStart => exact ⟨0, _, Nat.zero_le _, rfl, rfl⟩
        case round =>
          obtain ⟨i, n2, hi, rfl, rfl⟩ := hrel
          by_cases hlt2 : i < 13
          · obtain ⟨xa, ha⟩ : ∃ x, [a0, a1, a2, a3, a4, a5, a6, a7, a8, a9, a10, a11, a12][i]? = some x := ⟨[a0, a1, a2, a3, a4, a5, a6, a7, a8, a9, a10, a11, a12][i]'(by simpa using hlt2), List.getElem?_eq_getElem _⟩
            have da := HC8.out i xa ha
            have Ha : Hid ([a0, a1, a2, a3, a4, a5, a6, a7, a8, a9, a10, a11, a12][i]? = some xa) := ha
            have j1 : (i : Int) < 13 := by omega
            clear ha
            go_wp2_with fail
            go_loopw [155] (fun j wq => ∃ (q n3 : Nat), q ≤ i ∧ j = .int .i64 q ∧ wq = u.drewN n3) (fun j _ => i - (intOf j).toNat)
            case atStart => exact ⟨0, _, Nat.zero_le _, rfl, rfl⟩
            case round =>
              obtain ⟨q, n3, hq, rfl, rfl⟩ := hrel
              by_cases hlt3 : q < i
              · have hq13 : q < 13 := by omega
                obtain ⟨xb, hb⟩ : ∃ x, [a0, a1, a2, a3, a4, a5, a6, a7, a8, a9, a10, a11, a12][q]? = some x := ⟨[a0, a1, a2, a3, a4, a5, a6, a7, a8, a9, a10, a11, a12][q]'(by simpa using hq13), List.getElem?_eq_getElem _⟩
                have db := HC8.out q xb hb
                have hne := HD.out i q xa xb hlt3 Ha.out hb
                have j2 : (q : Int) < (i : Int) := by omega
                have j3 : (q : Int) < 13 := by omega
                clear hb
                go_wp2_with fail
                go_quiet (fail)
                go_wp2_with fail
                go_roundw
                case rel => exact ⟨q + 1, _, by omega, by go_num, rfl⟩
                case measure => simp [intOf]; omega
              · have j2 : ¬ (q : Int) < (i : Int) := by omega
                go_wp2_with fail
                go_roundw
                case rel => exact ⟨i + 1, _, by omega, by go_num, rfl⟩
                case measure => simp [intOf]; omega
          · have j1 : ¬ (i : Int) < 13 := by omega
            go_wp2_with fail
            go_ret
            exact ⟨rfl, HLo.out _⟩
  rw [p0] at HJ
  simp only [Bool.true_and] at HJ
  cases p1 : x1 == y1
  · rw [p1] at HJ
    simp only [Bool.false_and] at HJ
    go_wp2_with fail
    go_quiet (fail)
    go_wp2_with fail
    go_quiet (fail)
    go_wp2_with fail
    go_quiet (fail)
    go_wp2_with fail
    go_loopw [116] (fun i wr => ∃ (k n : Nat), k ≤ 13 ∧ i = .int .i64 k ∧ wr = u.drewN n) (fun i _ => 13 - (intOf i).toNat)
    case atStart => exact ⟨0, _, Nat.zero_le _, rfl, rfl⟩
    case round =>
      obtain ⟨k, n, hk, rfl, rfl⟩ := hrel
      by_cases hlt : k < 13
      · obtain ⟨xa, ha⟩ : ∃ x, [a0, a1, a2, a3, a4, a5, a6, a7, a8, a9, a10, a11, a12][k]? = some x := ⟨[a0, a1, a2, a3, a4, a5, a6, a7, a8, a9, a10, a11, a12][k]'(by simpa using hlt), List.getElem?_eq_getElem _⟩
        obtain ⟨xb, hb⟩ : ∃ x, [b0, b1, b2, b3, b4, b5, b6, b7, b8, b9, b10, b11, b12][k]? = some x := ⟨[b0, b1, b2, b3, b4, b5, b6, b7, b8, b9, b10, b11, b12][k]'(by simpa using hlt), List.getElem?_eq_getElem _⟩
        have da := HC8.out k xa ha
        have db := HC9.out k xb hb
        obtain ⟨e0, eJ, eM, eS⟩ := HJ.out k xa xb ha hb
        have i1 : (k : Int) < 13 := by omega
        clear ha hb hk
        have h4 : k = 0 ∨ k = 1 ∨ k = 2 ∨ 3 ≤ k := by omega
        rcases h4 with rfl | rfl | rfl | h3
        · have q := eJ rfl
          clear eJ eM eS
          go_wp2_with fail
          go_quiet (fail)
          go_wp2_with fail
          go_roundw
          case rel => exact ⟨0 + 1, _, by omega, by go_num, rfl⟩
          case measure => simp [intOf]
        · have q := eM (Or.inl rfl)
          clear eJ eM eS
          go_wp2_with fail
          go_quiet (fail)
          go_wp2_with fail
          go_roundw
          case rel => exact ⟨1 + 1, _, by omega, by go_num, rfl⟩
          case measure => simp [intOf]
        · have q := eM (Or.inr rfl)
          clear eJ eM eS
          go_wp2_with fail
          go_quiet (fail)
          go_wp2_with fail
          go_roundw
          case rel => exact ⟨2 + 1, _, by omega, by go_num, rfl⟩
          case measure => simp [intOf]
        · have q := eS h3
          have z0 : ((k : Int) == 0) = false := by simp; omega
          have z1 : ((k : Int) == 1) = false := by simp; omega
          have z2 : ((k : Int) == 2) = false := by simp; omega
          have hk13 : k < 13 := hlt
          clear eJ eM eS h3
          go_wp2_with fail
          go_quiet (fail)
          go_wp2_with fail
          go_roundw
          case rel => exact ⟨k + 1, _, by omega, by go_num, rfl⟩
          case measure => simp [intOf]; omega
      · have i1 : ¬ (k : Int) < 13 := by omega
        go_wp2_with fail
        go_loopw [151] (fun i wr => ∃ (k n : Nat), k ≤ 13 ∧ i = .int .i64 k ∧ wr = u.drewN n) (fun i _ => 13 - (intOf i).toNat)
        case atStart => exact ⟨0, _, Nat.zero_le _, rfl, rfl⟩
        case round =>
          obtain ⟨i, n2, hi, rfl, rfl⟩ := hrel
          by_cases hlt2 : i < 13
          · obtain ⟨xa, ha⟩ : ∃ x, [a0, a1, a2, a3, a4, a5, a6, a7, a8, a9, a10, a11, a12][i]? = some x := ⟨[a0, a1, a2, a3, a4, a5, a6, a7, a8, a9, a10, a11, a12][i]'(by simpa using hlt2), List.getElem?_eq_getElem _⟩
            have da := HC8.out i xa ha
            have Ha : Hid ([a0, a1, a2, a3, a4, a5, a6, a7, a8, a9, a10, a11, a12][i]? = some xa) := ha
            have j1 : (i : Int) < 13 := by omega
            clear ha
            go_wp2_with fail
            go_loopw [155] (fun j wq => ∃ (q n3 : Nat), q ≤ i ∧ j = .int .i64 q ∧ wq = u.drewN n3) (fun j _ => i - (intOf j).toNat)
            case atStart => exact ⟨0, _, Nat.zero_le _, rfl, rfl⟩
            case round =>
              obtain ⟨q, n3, hq, rfl, rfl⟩ := hrel
              by_cases hlt3 : q < i
              · have hq13 : q < 13 := by omega
                obtain ⟨xb, hb⟩ : ∃ x, [a0, a1, a2, a3, a4, a5, a6, a7, a8, a9, a10, a11, a12][q]? = some x := ⟨[a0, a1, a2, a3, a4, a5, a6, a7, a8, a9, a10, a11, a12][q]'(by simpa using hq13), List.getElem?_eq_getElem _⟩
                have db := HC8.out q xb hb
                have hne := HD.out i q xa xb hlt3 Ha.out hb
                have j2 : (q : Int) < (i : Int) := by omega
                have j3 : (q : Int) < 13 := by omega
                clear hb
                go_wp2_with fail
                go_quiet (fail)
                go_wp2_with fail
                go_roundw
                case rel => exact ⟨q + 1, _, by omega, by go_num, rfl⟩
                case measure => simp [intOf]; omega
              · have j2 : ¬ (q : Int) < (i : Int) := by omega
                go_wp2_with fail
                go_roundw
                case rel => exact ⟨i + 1, _, by omega, by go_num, rfl⟩
                case measure => simp [intOf]; omega
          · have j1 : ¬ (i : Int) < 13 := by omega
            go_wp2_with fail
            go_ret
            exact ⟨rfl, HLo.out _⟩
  rw [p1] at HJ
  simp only [Bool.true_and] at HJ
  cases p2 : x2 == y2
  · rw [p2] at HJ
    simp only [Bool.false_and] at HJ
    go_wp2_with fail
    go_quiet (fail)
    go_wp2_with fail
    go_quiet (fail)
    go_wp2_with fail
    go_quiet (fail)
    go_wp2_with fail
    go_loopw [116] (fun i wr => ∃ (k n : Nat), k ≤ 13 ∧ i = .int .i64 k ∧ wr = u.drewN n) (fun i _ => 13 - (intOf i).toNat)
    case atStart => exact ⟨0, _, Nat.zero_le _, rfl, rfl⟩
    case round =>
      obtain ⟨k, n, hk, rfl, rfl⟩ := hrel
      by_cases hlt : k < 13
      · obtain ⟨xa, ha⟩ : ∃ x, [a0, a1, a2, a3, a4, a5, a6, a7, a8, a9, a10, a11, a12][k]? = some x := ⟨[a0, a1, a2, a3, a4, a5, a6, a7, a8, a9, a10, a11, a12][k]'(by simpa using hlt), List.getElem?_eq_getElem _⟩
        obtain ⟨xb, hb⟩ : ∃ x, [b0, b1, b2, b3, b4, b5, b6, b7, b8, b9, b10, b11, b12][k]? = some x := ⟨[b0, b1, b2, b3, b4, b5, b6, b7, b8, b9, b10, b11, b12][k]'(by simpa using hlt), List.getElem?_eq_getElem _⟩
        have da := HC8.out k xa ha
        have db := HC9.out k xb hb
        obtain ⟨e0, eJ, eM, eS⟩ := HJ.out k xa xb ha hb
        have i1 : (k : Int) < 13 := by omega
        clear ha hb hk
        have h4 : k = 0 ∨ k = 1 ∨ k = 2 ∨ 3 ≤ k := by omega
        rcases h4 with rfl | rfl | rfl | h3
        · have q := eJ rfl
          clear eJ eM eS
          go_wp2_with fail
          go_quiet (fail)
          go_wp2_with fail
          go_roundw
          case rel => exact ⟨0 + 1, _, by omega, by go_num, rfl⟩
          case measure => simp [intOf]
        · have q := eM (Or.inl rfl)
          clear eJ eM eS
          go_wp2_with fail
          go_quiet (fail)
          go_wp2_with fail
          go_roundw
          case rel => exact ⟨1 + 1, _, by omega, by go_num, rfl⟩
          case measure => simp [intOf]
        · have q := eM (Or.inr rfl)
          clear eJ eM eS
          go_wp2_with fail
          go_quiet (fail)
          go_wp2_with fail
          go_roundw
          case rel => exact ⟨2 + 1, _, by omega, by go_num, rfl⟩
          case measure => simp [intOf]
        · have q := eS h3
          have z0 : ((k : Int) == 0) = false := by simp; omega
          have z1 : ((k : Int) == 1) = false := by simp; omega
          have z2 : ((k : Int) == 2) = false := by simp; omega
          have hk13 : k < 13 := hlt
          clear eJ eM eS h3
          go_wp2_with fail
          go_quiet (fail)
          go_wp2_with fail
          go_roundw
          case rel => exact ⟨k + 1, _, by omega, by go_num, rfl⟩
          case measure => simp [intOf]; omega
      · have i1 : ¬ (k : Int) < 13 := by omega
        go_wp2_with fail
        go_loopw [151] (fun i wr => ∃ (k n : Nat), k ≤ 13 ∧ i = .int .i64 k ∧ wr = u.drewN n) (fun i _ => 13 - (intOf i).toNat)
        case atStart => exact ⟨0, _, Nat.zero_le _, rfl, rfl⟩
        case round =>
          obtain ⟨i, n2, hi, rfl, rfl⟩ := hrel
          by_cases hlt2 : i < 13
          · obtain ⟨xa, ha⟩ : ∃ x, [a0, a1, a2, a3, a4, a5, a6, a7, a8, a9, a10, a11, a12][i]? = some x := ⟨[a0, a1, a2, a3, a4, a5, a6, a7, a8, a9, a10, a11, a12][i]'(by simpa using hlt2), List.getElem?_eq_getElem _⟩
            have da := HC8.out i xa ha
            have Ha : Hid ([a0, a1, a2, a3, a4, a5, a6, a7, a8, a9, a10, a11, a12][i]? = some xa) := ha
            have j1 : (i : Int) < 13 := by omega
            clear ha
            go_wp2_with fail
            go_loopw [155] (fun j wq => ∃ (q n3 : Nat), q ≤ i ∧ j = .int .i64 q ∧ wq = u.drewN n3) (fun j _ => i - (intOf j).toNat)
            case atStart => exact ⟨0, _, Nat.zero_le _, rfl, rfl⟩
            case round =>
              obtain ⟨q, n3, hq, rfl, rfl⟩ := hrel
              by_cases hlt3 : q < i
              · have hq13 : q < 13 := by omega
                obtain ⟨xb, hb⟩ : ∃ x, [a0, a1, a2, a3, a4, a5, a6, a7, a8, a9, a10, a11, a12][q]? = some x := ⟨[a0, a1, a2, a3, a4, a5, a6, a7, a8, a9, a10, a11, a12][q]'(by simpa using hq13), List.getElem?_eq_getElem _⟩
                have db := HC8.out q xb hb
                have hne := HD.out i q xa xb hlt3 Ha.out hb
                have j2 : (q : Int) < (i : Int) := by omega
                have j3 : (q : Int) < 13 := by omega
                clear hb
                go_wp2_with fail
                go_quiet (fail)
                go_wp2_with fail
                go_roundw
                case rel => exact ⟨q + 1, _, by omega, by go_num, rfl⟩
                case measure => simp [intOf]; omega
              · have j2 : ¬ (q : Int) < (i : Int) := by omega
                go_wp2_with fail
                go_roundw
                case rel => exact ⟨i + 1, _, by omega, by go_num, rfl⟩
                case measure => simp [intOf]; omega
          · have j1 : ¬ (i : Int) < 13 := by omega
            go_wp2_with fail
            go_ret
            exact ⟨rfl, HLo.out _⟩
  rw [p2] at HJ
  simp only [Bool.true_and] at HJ
  cases p3 : x3 == y3
  · rw [p3] at HJ
    go_wp2_with fail
    go_quiet (fail)
    go_wp2_with fail
    go_quiet (fail)
    go_wp2_with fail
    go_quiet (fail)
    go_wp2_with fail
    go_loopw [116] (fun i wr => ∃ (k n : Nat), k ≤ 13 ∧ i = .int .i64 k ∧ wr = u.drewN n) (fun i _ => 13 - (intOf i).toNat)
    case atStart => exact ⟨0, _, Nat.zero_le _, rfl, rfl⟩
    case round =>
      obtain ⟨k, n, hk, rfl, rfl⟩ := hrel
      by_cases hlt : k < 13
      · obtain ⟨xa, ha⟩ : ∃ x, [a0, a1, a2, a3, a4, a5, a6, a7, a8, a9, a10, a11, a12][k]? = some x := ⟨[a0, a1, a2, a3, a4, a5, a6, a7, a8, a9, a10, a11, a12][k]'(by simpa using hlt), List.getElem?_eq_getElem _⟩
        obtain ⟨xb, hb⟩ : ∃ x, [b0, b1, b2, b3, b4, b5, b6, b7, b8, b9, b10, b11, b12][k]? = some x := ⟨[b0, b1, b2, b3, b4, b5, b6, b7, b8, b9, b10, b11, b12][k]'(by simpa using hlt), List.getElem?_eq_getElem _⟩
        have da := HC8.out k xa ha
        have db := HC9.out k xb hb
        obtain ⟨e0, eJ, eM, eS⟩ := HJ.out k xa xb ha hb
        have i1 : (k : Int) < 13 := by omega
        clear ha hb hk
        have h4 : k = 0 ∨ k = 1 ∨ k = 2 ∨ 3 ≤ k := by omega
        rcases h4 with rfl | rfl | rfl | h3
        · have q := eJ rfl
          clear eJ eM eS
          go_wp2_with fail
          go_quiet (fail)
          go_wp2_with fail
          go_roundw
          case rel => exact ⟨0 + 1, _, by omega, by go_num, rfl⟩
          case measure => simp [intOf]
        · have q := eM (Or.inl rfl)
          clear eJ eM eS
          go_wp2_with fail
          go_quiet (fail)
          go_wp2_with fail
          go_roundw
          case rel => exact ⟨1 + 1, _, by omega, by go_num, rfl⟩
          case measure => simp [intOf]
        · have q := eM (Or.inr rfl)
          clear eJ eM eS
          go_wp2_with fail
          go_quiet (fail)
          go_wp2_with fail
          go_roundw
          case rel => exact ⟨2 + 1, _, by omega, by go_num, rfl⟩
          case measure => simp [intOf]
        · have q := eS h3
          have z0 : ((k : Int) == 0) = false := by simp; omega
          have z1 : ((k : Int) == 1) = false := by simp; omega
          have z2 : ((k : Int) == 2) = false := by simp; omega
          have hk13 : k < 13 := hlt
          clear eJ eM eS h3
          go_wp2_with fail
          go_quiet (fail)
          go_wp2_with fail
          go_roundw
          case rel => exact ⟨k + 1, _, by omega, by go_num, rfl⟩
          case measure => simp [intOf]; omega
      · have i1 : ¬ (k : Int) < 13 := by omega
        go_wp2_with fail
        go_loopw [151] (fun i wr => ∃ (k n : Nat), k ≤ 13 ∧ i = .int .i64 k ∧ wr = u.drewN n) (fun i _ => 13 - (intOf i).toNat)
        case atStart => exact ⟨0, _, Nat.zero_le _, rfl, rfl⟩
        case round =>
          obtain ⟨i, n2, hi, rfl, rfl⟩ := hrel
          by_cases hlt2 : i < 13
          · obtain ⟨xa, ha⟩ : ∃ x, [a0, a1, a2, a3, a4, a5, a6, a7, a8, a9, a10, a11, a12][i]? = some x := ⟨[a0, a1, a2, a3, a4, a5, a6, a7, a8, a9, a10, a11, a12][i]'(by simpa using hlt2), List.getElem?_eq_getElem _⟩
            have da := HC8.out i xa ha
            have Ha : Hid ([a0, a1, a2, a3, a4, a5, a6, a7, a8, a9, a10, a11, a12][i]? = some xa) := ha
            have j1 : (i : Int) < 13 := by omega
            clear ha
            go_wp2_with fail
            go_loopw [155] (fun j wq => ∃ (q n3 : Nat), q ≤ i ∧ j = .int .i64 q ∧ wq = u.drewN n3) (fun j _ => i - (intOf j).toNat)
            case atStart => exact ⟨0, _, Nat.zero_le _, rfl, rfl⟩
            case round =>
              obtain ⟨q, n3, hq, rfl, rfl⟩ := hrel
              by_cases hlt3 : q < i
              · have hq13 : q < 13 := by omega
                obtain ⟨xb, hb⟩ : ∃ x, [a0, a1, a2, a3, a4, a5, a6, a7, a8, a9, a10, a11, a12][q]? = some x := ⟨[a0, a1, a2, a3, a4, a5, a6, a7, a8, a9, a10, a11, a12][q]'(by simpa using hq13), List.getElem?_eq_getElem _⟩
                have db := HC8.out q xb hb
                have hne := HD.out i q xa xb hlt3 Ha.out hb
                have j2 : (q : Int) < (i : Int) := by omega
                have j3 : (q : Int) < 13 := by omega
                clear hb
                go_wp2_with fail
                go_quiet (fail)
                go_wp2_with fail
                go_roundw
                case rel => exact ⟨q + 1, _, by omega, by go_num, rfl⟩
                case measure => simp [intOf]; omega
              · have j2 : ¬ (q : Int) < (i : Int) := by omega
                go_wp2_with fail
                go_roundw
                case rel => exact ⟨i + 1, _, by omega, by go_num, rfl⟩
                case measure => simp [intOf]; omega
          · have j1 : ¬ (i : Int) < 13 := by omega
            go_wp2_with fail
            go_ret
            exact ⟨rfl, HLo.out _⟩
  · rw [p3] at HJ
    go_wp2_with fail
    go_quiet (fail)
    go_wp2_with fail
    go_quiet (fail)
    go_wp2_with fail
    go_quiet (fail)
    go_wp2_with fail
    go_loopw [116] (fun i wr => ∃ (k n : Nat), k ≤ 13 ∧ i = .int .i64 k ∧ wr = u.drewN n) (fun i _ => 13 - (intOf i).toNat)
    case atStart => exact ⟨0, _, Nat.zero_le _, rfl, rfl⟩
    case round =>
      obtain ⟨k, n, hk, rfl, rfl⟩ := hrel
      by_cases hlt : k < 13
      · obtain ⟨xa, ha⟩ : ∃ x, [a0, a1, a2, a3, a4, a5, a6, a7, a8, a9, a10, a11, a12][k]? = some x := ⟨[a0, a1, a2, a3, a4, a5, a6, a7, a8, a9, a10, a11, a12][k]'(by simpa using hlt), List.getElem?_eq_getElem _⟩
        obtain ⟨xb, hb⟩ : ∃ x, [b0, b1, b2, b3, b4, b5, b6, b7, b8, b9, b10, b11, b12][k]? = some x := ⟨[b0, b1, b2, b3, b4, b5, b6, b7, b8, b9, b10, b11, b12][k]'(by simpa using hlt), List.getElem?_eq_getElem _⟩
        have da := HC8.out k xa ha
        have db := HC9.out k xb hb
        obtain ⟨e0, eJ, eM, eS⟩ := HJ.out k xa xb ha hb
        have i1 : (k : Int) < 13 := by omega
        clear ha hb hk
        have h4 : k = 0 ∨ k = 1 ∨ k = 2 ∨ 3 ≤ k := by omega
        rcases h4 with rfl | rfl | rfl | h3
        · have q := eJ rfl
          clear eJ eM eS
          go_wp2_with fail
          go_quiet (fail)
          go_wp2_with fail
          go_roundw
          case rel => exact ⟨0 + 1, _, by omega, by go_num, rfl⟩
          case measure => simp [intOf]
        · have q := eM (Or.inl rfl)
          clear eJ eM eS
          go_wp2_with fail
          go_quiet (fail)
          go_wp2_with fail
          go_roundw
          case rel => exact ⟨1 + 1, _, by omega, by go_num, rfl⟩
          case measure => simp [intOf]
        · have q := eM (Or.inr rfl)
          clear eJ eM eS
          go_wp2_with fail
          go_quiet (fail)
          go_wp2_with fail
          go_roundw
          case rel => exact ⟨2 + 1, _, by omega, by go_num, rfl⟩
          case measure => simp [intOf]
        · have q := eS h3
          have z0 : ((k : Int) == 0) = false := by simp; omega
          have z1 : ((k : Int) == 1) = false := by simp; omega
          have z2 : ((k : Int) == 2) = false := by simp; omega
          have hk13 : k < 13 := hlt
          clear eJ eM eS h3
          go_wp2_with fail
          go_quiet (fail)
          go_wp2_with fail
          go_roundw
          case rel => exact ⟨k + 1, _, by omega, by go_num, rfl⟩
          case measure => simp [intOf]; omega
      · have i1 : ¬ (k : Int) < 13 := by omega
        go_wp2_with fail
        go_loopw [151] (fun i wr => ∃ (k n : Nat), k ≤ 13 ∧ i = .int .i64 k ∧ wr = u.drewN n) (fun i _ => 13 - (intOf i).toNat)
        case atStart => exact ⟨0, _, Nat.zero_le _, rfl, rfl⟩
        case round =>
          obtain ⟨i, n2, hi, rfl, rfl⟩ := hrel
          by_cases hlt2 : i < 13
          · obtain ⟨xa, ha⟩ : ∃ x, [a0, a1, a2, a3, a4, a5, a6, a7, a8, a9, a10, a11, a12][i]? = some x := ⟨[a0, a1, a2, a3, a4, a5, a6, a7, a8, a9, a10, a11, a12][i]'(by simpa using hlt2), List.getElem?_eq_getElem _⟩
            have da := HC8.out i xa ha
            have Ha : Hid ([a0, a1, a2, a3, a4, a5, a6, a7, a8, a9, a10, a11, a12][i]? = some xa) := ha
            have j1 : (i : Int) < 13 := by omega
            clear ha
            go_wp2_with fail
            go_loopw [155] (fun j wq => ∃ (q n3 : Nat), q ≤ i ∧ j = .int .i64 q ∧ wq = u.drewN n3) (fun j _ => i - (intOf j).toNat)
            case atStart => exact ⟨0, _, Nat.zero_le _, rfl, rfl⟩
            case round =>
              obtain ⟨q, n3, hq, rfl, rfl⟩ := hrel
              by_cases hlt3 : q < i
              · have hq13 : q < 13 := by omega
                obtain ⟨xb, hb⟩ : ∃ x, [a0, a1, a2, a3, a4, a5, a6, a7, a8, a9, a10, a11, a12][q]? = some x := ⟨[a0, a1, a2, a3, a4, a5, a6, a7, a8, a9, a10, a11, a12][q]'(by simpa using hq13), List.getElem?_eq_getElem _⟩
                have db := HC8.out q xb hb
                have hne := HD.out i q xa xb hlt3 Ha.out hb
                have j2 : (q : Int) < (i : Int) := by omega
                have j3 : (q : Int) < 13 := by omega
                clear hb
                go_wp2_with fail
                go_quiet (fail)
                go_wp2_with fail
                go_roundw
                case rel => exact ⟨q + 1, _, by omega, by go_num, rfl⟩
                case measure => simp [intOf]; omega
              · have j2 : ¬ (q : Int) < (i : Int) := by omega
                go_wp2_with fail
                go_roundw
                case rel => exact ⟨i + 1, _, by omega, by go_num, rfl⟩
                case measure => simp [intOf]; omega
          · have j1 : ¬ (i : Int) < 13 := by omega
            go_wp2_with fail
            go_ret
            exact ⟨rfl, HLo.out _⟩

end Go.Proofs.Ytcfmagmhnemhaaa
