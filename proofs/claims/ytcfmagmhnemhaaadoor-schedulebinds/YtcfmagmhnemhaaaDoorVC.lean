/-
  Two stores side by side, and how the law makes them.
-/
import Derived.Test.YtcfmagmhnemhaaaDoorFB
import Derived.Test.YtcfmagmhnemhaaaDoorVB
namespace Go.Proofs.YtcfmagmhnemhaaaDoor
open Go.RowKit
set_option linter.unusedSimpArgs false
set_option linter.unusedVariables false

/-- A store of the program and one of the document, both made since w0. -/
structure Two (w0 : World) (s r : Nat) (w : World) (ns : List Nd) (dn : Int) (ms : List Nd) (dm : Int) : Prop where
  seat : Seat w s ns dn
  ref : RefAt w r ms dm
  wfm : Wf ms
  apart : ∀ k, Own w s k → ¬ OwnR w r k
  low : Below w0.heap.size w0 w
  newS : ∀ k, Own w s k → w0.heap.size ≤ k
  newR : ∀ k, OwnR w r k → w0.heap.size ≤ k
  big : Big w0

theorem Two.run' {w0 w w' : World} {s r : Nat} {ns ns' ms : List Nd} {dn dn' dm : Int} (h : Two w0 s r w ns dn ms dm) (m : Moved s w w') (hst : StoreAt w' s ns' dn') (hw : Wf ns') : Two w0 s r w' ns' dn' ms dm := by
  have hsz := h.low.size
  obtain ⟨h1, h2⟩ := h.ref.keep (w' := w') (fun k hk => m.block k (h.ref.own_lt hk) (fun ho => h.apart k ho hk))
  refine ⟨h.seat.moved m hst hw, h1, h.wfm, fun k ho hr => ?_, h.low.trans ⟨m.os, m.tape, m.output, m.size, fun k hk => m.block k (by omega) (fun ho => by have := h.newS k ho; omega)⟩, fun k hk => ?_, fun k hk => h.newR k ((h2 k).1 hk), h.big⟩
  · have hr' := (h2 k).1 hr
    rcases m.own k ho with h3 | h3
    · exact h.apart k h3 hr'
    · have := h.ref.own_lt hr'; omega
  · rcases m.own k hk with h3 | h3
    · exact h.newS k h3
    · omega

theorem Two.run {w0 w w' : World} {s r : Nat} {ns ns' ms : List Nd} {dn dm : Int} {c : Nat} (h : Two w0 s r w ns dn ms dm) (k : Run s w w' ns ns' dn c) : Two w0 s r w' ns' dn ms dm := h.run' k.mv k.seat.st k.seat.wf

theorem Two.rrun' {w0 w w' : World} {s r : Nat} {ns ms ms' : List Nd} {dn dm dm' : Int} (h : Two w0 s r w ns dn ms dm) (m : MovedR r w w') (hst : RefAt w' r ms' dm') (hw : Wf ms') : Two w0 s r w' ns dn ms' dm' := by
  have hsz := h.low.size
  obtain ⟨h1, h2⟩ := h.seat.st.keep (w' := w') (fun k hk => m.block k (h.seat.st.own_lt hk) (fun ho => h.apart k hk ho))
  have hlow : ∀ k, k < w0.heap.size → w'.heap[k]? = w.heap[k]? := fun k hk => m.block k (by omega) (fun ho => by have := h.newR k ho; omega)
  refine ⟨⟨h1, h.seat.wf, h.seat.laid.low h.big hlow, h.seat.off.keep h2⟩, hst, hw, fun k ho hr => ?_, h.low.trans ⟨m.os, m.tape, m.output, m.size, hlow⟩, fun k hk => h.newS k ((h2 k).1 hk), fun k hk => ?_, h.big⟩
  · have ho' := (h2 k).1 ho
    rcases m.own k hr with h3 | h3
    · exact h.apart k ho' h3
    · have := h.seat.st.own_lt ho'; omega
  · rcases m.own k hk with h3 | h3
    · exact h.newR k h3
    · omega

theorem Two.rrun {w0 w w' : World} {s r : Nat} {ns ms ms' : List Nd} {dn dm : Int} {c : Nat} (h : Two w0 s r w ns dn ms dm) (k : RunR r w w' ms ms' dm c) : Two w0 s r w' ns dn ms' dm := h.rrun' k.mv k.st k.stp.wf

theorem Two.below {w0 w w' : World} {s r : Nat} {ns ms : List Nd} {dn dm : Int} (h : Two w0 s r w ns dn ms dm) (hb : Below w.heap.size w w') : Two w0 s r w' ns dn ms dm := h.run' (.ofBelow h.seat.st.lt hb) (h.seat.st.below hb) h.seat.wf

theorem RefAt.setDrawn {w : World} {r : Nat} {ns : List Nd} {dr : Int} (h : RefAt w r ns dr) (x : Int) : RefAt (w.setCell ⟨r, 1, none⟩ (.int .i64 x)) r ns x ∧ MovedR r w (w.setCell ⟨r, 1, none⟩ (.int .i64 x)) := by
  obtain ⟨sl, c, h0, h2, h3⟩ := h
  have e0 : (w.setCell ⟨r, 1, none⟩ (.int .i64 x)).heap[r]? = some (.cells #[.slice sl ns.length c, .int .i64 x] 61) := by
    rw [heap_setCell_at h0]; simp
  have oth : ∀ k, k ≠ r → (w.setCell ⟨r, 1, none⟩ (.int .i64 x)).heap[k]? = w.heap[k]? := fun k hk => Below.heap_setCell _ _ _ _ hk
  refine ⟨⟨sl, c, e0, ?_, h3⟩, rfl, rfl, rfl, by simp [World.setCell], fun k _ hno => oth k (fun e => hno (Or.inl e)), fun k ho => Or.inl ?_⟩
  · refine ⟨h2.1, ?_⟩
    rcases h2.2 with h4 | ⟨nb, cap, cur, e, hl, hh, rest⟩
    · exact Or.inl h4
    · refine Or.inr ⟨nb, cap, cur, e, hl, ?_, rest⟩
      rw [oth nb (by rintro rfl; rw [h0] at hh; simp at hh)]
      exact hh
  · unfold OwnR at ho ⊢
    rw [cell_of_heap e0] at ho
    rw [cell_of_heap h0]
    simpa using ho

set_option maxRecDepth 100000 in
set_option maxHeartbeats 1000000 in
theorem rfresh_m {w : World} {r : Nat} {k : Nat} (h : RefAt w r (atoms k) k) (hk : k ≤ 200) :
    Calls Tryd.prog 32 #[.pointer (some ⟨r, 0, none⟩)] w fun e w' => e = .returned (.int .i64 ((k : Int) + 1)) ∧ RefAt w' r (atoms (k + 1)) ((k + 1 : Nat) : Int) ∧ MovedR r w w' := by
  have hp := put_m h (atoms_wf k (by omega)) 1 ⟨#[]⟩ ((k : Int) + 1) 0 (fun W hW => right_atom hW ((k : Int) + 1) (by omega) (by omega)) (fits_atom (atoms k) (by omega) (by omega)) (by rw [atoms_length]; omega)
  have hm := atoms_make k (by omega)
  obtain ⟨sl, c, s0, s1, sf, sr, sn, slt⟩ := h.cells
  have i1 : (0 : Int) < (k : Int) + 1 := by omega
  have Hm : Hid (makeF (atoms k) (atom ((k : Int) + 1)) = ((k : Int) + 1, 0, atoms (k + 1))) := hm
  clear hm
  go_enter Tryd.func32, Tryd.ntmps32
  go_wp2_with fail
  refine hp.mono ?_
  rintro e w1 ⟨t, ns', rfl, hmf, hr, _⟩
  have e3 := Hm.out
  unfold atom at e3
  rw [e3] at hmf
  simp only [Prod.mk.injEq, true_and] at hmf
  obtain ⟨rfl, rfl⟩ := hmf
  obtain ⟨sl', c', s0', s1', sf', sr', sn', slt'⟩ := hr.st.cells
  go_wp2_with fail
  go_ret
  have h3 := hr.st.setDrawn ((k : Int) + 1)
  refine ⟨rfl, ?_, hr.mv.trans h3.2⟩
  have := h3.1
  simpa using this

set_option maxRecDepth 100000 in
set_option maxHeartbeats 1000000 in
theorem fresh_m {w : World} {s : Nat} {k : Nat} (h : StoreAt w s (atoms k) k) (hk : k ≤ 200) :
    Calls Tryd.prog 31 #[.pointer (some ⟨s, 0, none⟩)] w fun e w' => e = .returned (.int .i64 ((k : Int) + 1)) ∧ StoreAt w' s (atoms (k + 1)) ((k + 1 : Nat) : Int) ∧ Moved s w w' := by
  refine (fresh_any h (by omega) (by omega)).mono ?_
  unfold freshD
  rw [atoms_make k (by omega)]
  rintro e w' ⟨rfl, hst, hmv⟩
  simp only [if_neg (show ¬ ((k : Int) + 1 = 0) by omega)] at hst
  exact ⟨rfl, by simpa using hst, hmv⟩

set_option maxRecDepth 100000 in
set_option maxHeartbeats 2000000 in
theorem stores_m {w : World} (hP : Laid0 w) (n : Nat) (hn : n ≤ 100) :
    Calls Tryd.prog 8 #[.int .i64 n] w fun e w' => ∃ s r, e = .returned (.tuple #[.pointer (some ⟨s, 0, none⟩), .pointer (some ⟨r, 0, none⟩)]) ∧ Two w s r w' (atoms n) n (atoms n) n := by
  have h2 := hP.big
  go_enter Tryd.func8, Tryd.ntmps8
  go_wp2_with fail
  refine (new_any w).mono ?_
  rintro e w1 ⟨s, rfl, hs, hst, hb, hown⟩
  have hal : Below w1.heap.size w1 (w1.alloc (.cells #[.slice none 0 0, .int .i64 0] 61)) := (Below.refl _ _).alloc (Nat.le_refl _) _
  have hst2 := hst.below hal
  have e0 : (w1.alloc (.cells #[.slice none 0 0, .int .i64 0] 61)).heap[w1.heap.size]? = some (.cells #[.slice none 0 0, .int .i64 0] 61) := heap_alloc_new w1 _
  have hownr : ∀ k, OwnR (w1.alloc (.cells #[.slice none 0 0, .int .i64 0] 61)) w1.heap.size k → k = w1.heap.size := by
    rintro k (e | ⟨o, sp, n, c, e⟩)
    · exact e
    · rw [cell_of_heap e0] at e
      simp at e
  have hTwo : Two w s w1.heap.size (w1.alloc (.cells #[.slice none 0 0, .int .i64 0] 61)) (atoms 0) ((0 : Nat) : Int) (atoms 0) ((0 : Nat) : Int) := by
    have hlow := hb.trans (hal.mono hb.size)
    have hnew : ∀ k, Own (w1.alloc (.cells #[.slice none 0 0, .int .i64 0] 61)) s k → w.heap.size ≤ k := fun k hk => hown k ((own_below1 hst.lt hal k).1 hk)
    refine ⟨⟨hst2, Wf.nil, hP.low h2 (fun k hk => hlow.block k hk), .new h2 hnew⟩, ⟨none, 0, by simpa [atoms] using e0, World.ownsRow_nil _ _ _ _, by simp [atoms]⟩, Wf.nil, fun k ho hr => ?_, hlow, hnew, fun k hk => ?_, h2⟩
    · have h3 := hst.own_lt ((own_below1 hst.lt hal k).1 ho)
      have := hownr k hr
      omega
    · have := hownr k hk
      have := hb.size
      omega
  clear hst hb hown hst2 e0 hownr hal
  go_wp2_with fail
  go_loopw [6] (fun k wr => ∃ i : Nat, i ≤ n ∧ k = .int .i64 i ∧ Two w s w1.heap.size wr (atoms i) i (atoms i) i) (fun k _ => n - (intOf k).toNat)
  case atStart => exact ⟨0, Nat.zero_le _, rfl, hTwo⟩
  case round =>
    obtain ⟨i, hi, rfl, hTw⟩ := hrel
    by_cases hlt : i < n
    · have i1 : (i : Int) < (n : Int) := by omega
      have hf := fresh_m hTw.seat.st (by omega)
      go_wp2_with fail
      refine hf.mono ?_
      rintro e w2 ⟨rfl, hst, hmv⟩
      have hTw2 := hTw.run' hmv hst (atoms_wf _ (by omega))
      have hg := rfresh_m hTw2.ref (by omega)
      go_wp2_with fail
      refine hg.mono ?_
      rintro e w3 ⟨rfl, hst3, hmv3⟩
      have hTw3 := hTw2.rrun' hmv3 hst3 (atoms_wf _ (by omega))
      go_wp2_with fail
      go_roundw
      case rel => exact ⟨i + 1, by omega, by go_num, hTw3⟩
      case measure => simp [intOf]; omega
    · have e : i = n := by omega
      subst e
      go_wp2_with fail
      go_ret2
      exact ⟨s, w1.heap.size, rfl, hTw⟩

end Go.Proofs.YtcfmagmhnemhaaaDoor
