/-
  A store and what lies beside it; a call on the store as a step; the makers by what terms mean.
-/
import Derived.Test.YtcfmagmhnemhaaaDoorVB0
import Derived.Test.YtcfmagmhnemhaaaDoorVA
namespace Go.Proofs.YtcfmagmhnemhaaaDoor
open Go.RowKit
set_option linter.unusedSimpArgs false
set_option linter.unusedVariables false

theorem StoreAt.own_lt {w : World} {s : Nat} {ns : List Nd} {dr : Int} (h : StoreAt w s ns dr) {k : Nat} (hk : Own w s k) : k < w.heap.size := by
  have hs := h.lt
  obtain ⟨sl, c, mb, h0, h1, h2, h3⟩ := h
  rcases hk with e | e | ⟨o, sp, n, c', e⟩
  · omega
  · rw [cell_of_heap h0] at e
    simp at e
    have := (Array.getElem?_eq_some_iff.1 h1).1
    omega
  · rw [cell_of_heap h0] at e
    simp at e
    rcases h2.form with ⟨rfl, _⟩ | ⟨nb, rfl, hlt, _⟩
    · simp at e
    · simp at e
      omega

theorem StoreAt.keep {w w' : World} {s : Nat} {ns : List Nd} {dr : Int} (h : StoreAt w s ns dr) (hk : ∀ k, Own w s k → w'.heap[k]? = w.heap[k]?) : StoreAt w' s ns dr ∧ ∀ k, Own w' s k ↔ Own w s k := by
  have e : ∀ k, Own w' s k ↔ Own w s k := by
    intro k
    have hb := hk s (Or.inl rfl)
    unfold Own
    rw [World.cell?_of_block (w := w) (a := ⟨s, 1, none⟩) hb, World.cell?_of_block (w := w) (a := ⟨s, 0, none⟩) hb]
  refine ⟨?_, e⟩
  obtain ⟨sl, c, mb, h0, h1, h2, h3⟩ := h
  refine ⟨sl, c, mb, (hk s (Or.inl rfl)).trans h0, (hk mb (Or.inr (Or.inl (by rw [cell_of_heap h0]; rfl)))).trans h1, ⟨h2.1, ?_⟩, h3⟩
  rcases h2.2 with hn | ⟨g, cap, cur, hv, hb, hgg, rest⟩
  · exact Or.inl hn
  · refine Or.inr ⟨g, cap, cur, hv, hb, ?_, rest⟩
    have hv2 := hv
    simp at hv2
    exact (hk g (Or.inr (Or.inr ⟨0, none, _, _, by rw [cell_of_heap h0, hv2.1]; rfl⟩))).trans hgg

/-- A store with what is laid beside it. -/
structure Seat (w : World) (s : Nat) (ns : List Nd) (dr : Int) : Prop where
  st : StoreAt w s ns dr
  wf : Wf ns
  laid : Laid0 w
  off : Off w s

theorem Seat.moved {w w' : World} {s : Nat} {ns ns' : List Nd} {dr dr' : Int} (h : Seat w s ns dr) (m : Moved s w w') (hst : StoreAt w' s ns' dr') (hw : Wf ns') : Seat w' s ns' dr' :=
  ⟨hst, hw, h.laid.moved h.off m, Off.moved h.laid h.off m⟩
theorem Seat.below {w w' : World} {s : Nat} {ns : List Nd} {dr : Int} (h : Seat w s ns dr) (hb : Below w.heap.size w w') : Seat w' s ns dr :=
  h.moved (.ofBelow h.st.lt hb) (h.st.below hb) h.wf
theorem Seat.al {w : World} {s : Nat} {ns : List Nd} {dr : Int} (h : Seat w s ns dr) (o : Obj) : Seat (w.alloc o) s ns dr := h.below ((Below.refl _ _).alloc (Nat.le_refl _) _)
theorem Seat.dn {w : World} {s : Nat} {ns : List Nd} {dr : Int} (h : Seat w s ns dr) (n : Nat) : Seat (w.drewN n) s ns dr := h.below (below_drewN (Below.refl _ _) n)

/-- A call on a store. -/
structure Run (s : Nat) (w w' : World) (ns ns' : List Nd) (dr : Int) (c : Nat) : Prop where
  seat : Seat w' s ns' dr
  mv : Moved s w w'
  st : Stp ns ns' c

theorem Run.refl {w : World} {s : Nat} {ns : List Nd} {dr : Int} (h : Seat w s ns dr) : Run s w w ns ns dr 0 := ⟨h, .refl _ _, .refl h.wf⟩
theorem Run.trans {s : Nat} {a b c : World} {x y z : List Nd} {dr : Int} {m n : Nat} (h : Run s a b x y dr m) (k : Run s b c y z dr n) : Run s a c x z dr (m + n) := ⟨k.seat, h.mv.trans k.mv, h.st.trans k.st⟩
theorem Run.mono {s : Nat} {a b : World} {x y : List Nd} {dr : Int} {m n : Nat} (h : Run s a b x y dr m) (hmn : m ≤ n) : Run s a b x y dr n := ⟨h.seat, h.mv, h.st.mono hmn⟩
theorem Run.ofBelow {w w' : World} {s : Nat} {ns : List Nd} {dr : Int} (h : Seat w s ns dr) (hb : Below w.heap.size w w') : Run s w w' ns ns dr 0 := ⟨h.below hb, .ofBelow h.st.lt hb, .refl h.wf⟩
theorem Run.ahead {w w1 w' : World} {s : Nat} {ns ns' : List Nd} {dr : Int} {c : Nat} (h : Seat w s ns dr) (hb : Below w.heap.size w w1) (k : Run s w1 w' ns ns' dr c) : Run s w w' ns ns' dr c := ((Run.ofBelow h hb).trans k).mono (by omega)
theorem Run.after {w w1 w' : World} {s : Nat} {ns ns' : List Nd} {dr : Int} {c : Nat} (k : Run s w w1 ns ns' dr c) (hb : Below w1.heap.size w1 w') : Run s w w' ns ns' dr c := (k.trans (Run.ofBelow k.seat hb)).mono (by omega)
theorem Run.cell {s : Nat} {w w' : World} {ns ns' : List Nd} {dr : Int} {c : Nat} (h : Run s w w' ns ns' dr c) {b : Nat} (hb : b < w.heap.size) (hn : ¬ Own w s b) (o : Nat) : w'.cell? ⟨b, o, none⟩ = w.cell? ⟨b, o, none⟩ := h.mv.cell hb hn o

theorem free_new {w : World} {s : Nat} {ns : List Nd} {dr : Int} (h : StoreAt w s ns dr) (o : Obj) : ¬ Own (w.alloc o) s w.heap.size := by
  rw [own_below1 h.lt ((Below.refl _ _).alloc (Nat.le_refl _) o)]
  intro hk
  have := h.own_lt hk
  omega

theorem text_m {w : World} {s : Nat} {ns : List Nd} {dr : Int} (h : Seat w s ns dr) (l : ByteArray) (hl : l.size ≤ 1024) (hr : (ns.length : Int) < 262144) :
    Calls Tryd.prog 28 #[.pointer (some ⟨s, 0, none⟩), .string l] w fun e w' => ∃ t ns', e = .returned (.int .i64 t) ∧ Run s w w' ns ns' dr 1 ∧ Means ns' t (.text l) := by
  obtain ⟨t, ns', e, hs, hm⟩ := mk_text h.wf l hl hr
  refine (text_any h.st l).mono ?_
  rw [e]
  rintro _ w' ⟨rfl, hst, hmv⟩
  exact ⟨t, ns', rfl, ⟨h.moved hmv hst hs.wf, hmv, hs⟩, hm⟩

set_option maxHeartbeats 400000 in
theorem kdf_any {w : World} {s : Nat} {ns : List Nd} {dr : Int} (h : StoreAt w s ns dr) (l : ByteArray) (a b : Int) :
    Calls Tryd.prog 29 #[.pointer (some ⟨s, 0, none⟩), .string l, .int .i64 a, .int .i64 b] w fun e w' => e = .returned (.int .i64 (makeF ns ⟨5, l, a, b⟩).1) ∧ StoreAt w' s (makeF ns ⟨5, l, a, b⟩).2.2 dr ∧ Moved s w w' := by
  go_enter Tryd.func29, Tryd.ntmps29
  go_wp2_with (go_at_call 46; refine (number_any h ⟨5, l, a, b⟩).mono ?_; rintro e w1 ⟨rfl, hst, hmv⟩)
  go_ret
  exact ⟨rfl, hst, hmv⟩

theorem mk_kdf {ns : List Nd} (hw : Wf ns) (l : ByteArray) (hl : l.size ≤ 32) (hr : (ns.length : Int) < 262144) {x y : Int} {X Y : Tm} (hx : Means ns x X) (hy : Means ns y Y) : ∃ t ns', makeF ns ⟨5, l, x, y⟩ = (t, 0, ns') ∧ Stp ns ns' 1 ∧ Means ns' t (.kdf l X Y) := by
  have hf : fitsB ns ⟨5, l, x, y⟩ = true := by simp [fitsB, hl, hx.has, hy.has]
  obtain ⟨t, ns', e, hm⟩ := makeF_ok hw hf hr
  exact ⟨t, ns', e, hm.stp, hm.has, x, y, hm.node, hx.keeps hm.pre, hy.keeps hm.pre⟩

theorem kdf_m {w : World} {s : Nat} {ns : List Nd} {dr : Int} (h : Seat w s ns dr) (l : ByteArray) (hl : l.size ≤ 32) (hr : (ns.length : Int) < 262144) {x y : Int} {X Y : Tm} (hx : Means ns x X) (hy : Means ns y Y) :
    Calls Tryd.prog 29 #[.pointer (some ⟨s, 0, none⟩), .string l, .int .i64 x, .int .i64 y] w fun e w' => ∃ t ns', e = .returned (.int .i64 t) ∧ Run s w w' ns ns' dr 1 ∧ Means ns' t (.kdf l X Y) := by
  obtain ⟨t, ns', e, hs, hm⟩ := mk_kdf h.wf l hl hr hx hy
  refine (kdf_any h.st l x y).mono ?_
  rw [e]
  rintro _ w' ⟨rfl, hst, hmv⟩
  exact ⟨t, ns', rfl, ⟨h.moved hmv hst hs.wf, hmv, hs⟩, hm⟩

set_option maxRecDepth 100000 in
set_option maxHeartbeats 1000000 in
/-- What is a term is told as it is. -/
theorem orZero_m {w : World} {s : Nat} {ns : List Nd} {dr : Int} (h : StoreAt w s ns dr) {x : Int} (hx : hasB ns x = true) :
    Calls Tryd.prog 33 #[.pointer (some ⟨s, 0, none⟩), .int .i64 x] w fun e w' => e = .returned (.int .i64 x) ∧ Below w.heap.size w w' := by
  have hg := get_any h x
  rw [hx] at hg
  generalize nodeF ns x = nd at hg
  cases nd
  unfold Nd.val at hg
  clear hx
  go_enter Tryd.func33, Tryd.ntmps33
  go_wp2_with fail
  refine hg.mono ?_
  rintro e w1 ⟨rfl, hb⟩
  go_wp2_with fail
  go_ret
  exact ⟨rfl, hb.alloc hb.size _⟩

theorem atoms_means {k : Nat} {t : Int} (h1 : 1 ≤ t) (h2 : t ≤ k) : Means (atoms k) t (.atom t) := by
  have key : ∀ (k i : Nat), i < k → (atoms k)[i]? = some (atom ((i : Int) + 1)) := by
    intro k
    induction k with
    | zero => intro i hi; omega
    | succ k ih =>
      intro i hi
      simp only [atoms]
      by_cases hik : i < k
      · rw [List.getElem?_append_left (by rw [atoms_length]; exact hik)]
        exact ih i hik
      · have : i = k := by omega
        subst this
        rw [List.getElem?_append_right (by rw [atoms_length]; exact Nat.le_refl _), atoms_length]
        simp
  obtain ⟨i, rfl⟩ : ∃ i : Nat, t = (i + 1 : Nat) := ⟨t.toNat - 1, by omega⟩
  have hg := nodeF_at (key k i (by omega))
  refine ⟨hg.2, ?_⟩
  rw [hg.1]
  simp [atom]

end Go.Proofs.YtcfmagmhnemhaaaDoor
