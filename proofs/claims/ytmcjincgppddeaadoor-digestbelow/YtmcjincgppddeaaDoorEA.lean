/-
  A store and what lies beside it: the tables, trees, lists; a call on the store as a step; the makers by what terms mean.
-/
import Derived.Test.YtmcjincgppddeaaDoorDB
import Derived.Test.YtmcjincgppddeaaDoorZA
import Derived.Test.YtmcjincgppddeaaDoorIt
import Derived.Lib.ItoaLen
import Derived.Lib.AppendIntMem
namespace Go.Proofs.YtmcjincgppddeaaDoor
open Go.RowKit
set_option linter.unusedSimpArgs false
set_option linter.unusedVariables false

/-- The table of the powers of ten as it is laid. -/
def Pow (w : World) : Prop := Lib.TabIs Tryd.prog w "internal/strconv.uint64pow10" .u64 Lib.pow10Tab

theorem pow_g : Tryd.prog.globalNamed "internal/strconv.uint64pow10" = some 0 := by kernel_rfl
theorem Pow.block {w w' : World} (h : Pow w) (hb : w'.heap[0]? = w.heap[0]?) : Pow w' := by
  unfold Pow Lib.TabIs World.var? at h ⊢
  rw [pow_g] at h ⊢
  simp only [Option.bind_some] at h ⊢
  rw [hb]; exact h
theorem Tab.block {w w' : World} (h : Tab w) (hb : w'.heap[2]? = w.heap[2]?) : Tab w' := fun j hj =>
  (World.cell?_of_block (a := ⟨2, j, none⟩) hb).trans (h j hj)
theorem Pow.size {w : World} (h : Pow w) : 0 < w.heap.size := by
  rcases Nat.lt_or_ge 0 w.heap.size with h' | h'
  · exact h'
  · unfold Pow Lib.TabIs World.var? at h
    rw [pow_g] at h
    simp only [Option.bind_some] at h
    rw [Array.getElem?_eq_none h'] at h
    cases h

theorem StoreAt.own_lt {w : World} {s : Nat} {ns : List Nd} {dr : Int} (h : StoreAt w s ns dr) {k : Nat} (hk : Own w s k) : k < w.heap.size := by
  have hs := h.lt
  obtain ⟨sl, c, mb, h0, h1, h2, h3⟩ := h
  rcases hk with e | e | ⟨o, sp, n, c', e⟩
  · omega
  · rw [cell_of_heap h0] at e
    simp at e
    have := (Array.getElem?_eq_some_iff.1 h1).1
    omega
  · rw [cell_of_heap h0] at e
    simp at e
    rcases h2.form with ⟨rfl, _⟩ | ⟨nb, rfl, hlt, _⟩
    · simp at e
    · simp at e
      omega

/-- A store with the tables beside it. -/
structure Seat (w : World) (s : Nat) (ns : List Nd) (dr : Int) : Prop where
  st : StoreAt w s ns dr
  wf : Wf ns
  tab : Tab w
  pow : Pow w
  f0 : ¬ Own w s 0
  f2 : ¬ Own w s 2

theorem Moved.free {s : Nat} {w w' : World} (m : Moved s w w') {b : Nat} (hb : b < w.heap.size) (hn : ¬ Own w s b) : ¬ Own w' s b := fun ho => (m.own b ho).elim hn (fun h => by omega)

theorem Seat.moved {w w' : World} {s : Nat} {ns ns' : List Nd} {dr dr' : Int} (h : Seat w s ns dr) (m : Moved s w w') (hst : StoreAt w' s ns' dr') (hw : Wf ns') : Seat w' s ns' dr' :=
  ⟨hst, hw, h.tab.block (m.block 2 h.tab.size h.f2), h.pow.block (m.block 0 h.pow.size h.f0), m.free h.pow.size h.f0, m.free h.tab.size h.f2⟩

theorem Seat.below {w w' : World} {s : Nat} {ns : List Nd} {dr : Int} (h : Seat w s ns dr) (hb : Below w.heap.size w w') : Seat w' s ns dr :=
  h.moved (.ofBelow h.st.lt hb) (h.st.below hb) h.wf

theorem Seat.al {w : World} {s : Nat} {ns : List Nd} {dr : Int} (h : Seat w s ns dr) (o : Obj) : Seat (w.alloc o) s ns dr := h.below ((Below.refl _ _).alloc (Nat.le_refl _) _)
theorem Seat.dn {w : World} {s : Nat} {ns : List Nd} {dr : Int} (h : Seat w s ns dr) (n : Nat) : Seat (w.drewN n) s ns dr := h.below (below_drewN (Below.refl _ _) n)

/-- A call on a store. -/
structure Run (s : Nat) (w w' : World) (ns ns' : List Nd) (dr : Int) (c : Nat) : Prop where
  seat : Seat w' s ns' dr
  mv : Moved s w w'
  st : Stp ns ns' c

theorem Run.refl {w : World} {s : Nat} {ns : List Nd} {dr : Int} (h : Seat w s ns dr) : Run s w w ns ns dr 0 := ⟨h, .refl _ _, .refl h.wf⟩
theorem Run.trans {s : Nat} {a b c : World} {x y z : List Nd} {dr : Int} {m n : Nat} (h : Run s a b x y dr m) (k : Run s b c y z dr n) : Run s a c x z dr (m + n) := ⟨k.seat, h.mv.trans k.mv, h.st.trans k.st⟩
theorem Run.mono {s : Nat} {a b : World} {x y : List Nd} {dr : Int} {m n : Nat} (h : Run s a b x y dr m) (hmn : m ≤ n) : Run s a b x y dr n := ⟨h.seat, h.mv, h.st.mono hmn⟩
theorem Run.ofBelow {w w' : World} {s : Nat} {ns : List Nd} {dr : Int} (h : Seat w s ns dr) (hb : Below w.heap.size w w') : Run s w w' ns ns dr 0 := ⟨h.below hb, .ofBelow h.st.lt hb, .refl h.wf⟩
theorem Run.ahead {w w1 w' : World} {s : Nat} {ns ns' : List Nd} {dr : Int} {c : Nat} (h : Seat w s ns dr) (hb : Below w.heap.size w w1) (k : Run s w1 w' ns ns' dr c) : Run s w w' ns ns' dr c := ((Run.ofBelow h hb).trans k).mono (by omega)
theorem Run.after {w w1 w' : World} {s : Nat} {ns ns' : List Nd} {dr : Int} {c : Nat} (k : Run s w w1 ns ns' dr c) (hb : Below w1.heap.size w1 w') : Run s w w' ns ns' dr c := (k.trans (Run.ofBelow k.seat hb)).mono (by omega)

/-- A tree, a list, none of whose blocks is the store's. -/
def TS (w : World) (s : Nat) (v : Value) (t : Tree) : Prop := TreeP (fun b => ¬ Own w s b) w v t
def IS (w : World) (s : Nat) (v : Value) (l : List Int) : Prop := IntsP (fun b => ¬ Own w s b) w v l

theorem TS.tree {w : World} {s : Nat} {v : Value} {t : Tree} (h : TS w s v t) : TreeAt w v t := TreeP.tree h
theorem IS.ints {w : World} {s : Nat} {v : Value} {l : List Int} (h : IS w s v l) : IntsAt w v l := IntsP.ints h
theorem TS.moved {w w' : World} {s : Nat} {v : Value} {t : Tree} (h : TS w s v t) (m : Moved s w w') : TS w' s v t := by
  have h1 := TreeP.imp (r := fun b => b < w.heap.size ∧ ¬ Own w s b) h (fun b hb hq => ⟨hb, hq⟩)
  have h2 := TreeP.agree h1 m.size (fun b hb hq => m.block b hb hq.2)
  exact TreeP.imp h2 (fun b _ hq => m.free hq.1 hq.2)
theorem IS.moved {w w' : World} {s : Nat} {v : Value} {l : List Int} (h : IS w s v l) (m : Moved s w w') : IS w' s v l := by
  have h1 := IntsP.imp (r := fun b => b < w.heap.size ∧ ¬ Own w s b) h (fun b hb hq => ⟨hb, hq⟩)
  have h2 := IntsP.agree h1 m.size (fun b hb hq => m.block b hb hq.2)
  exact IntsP.imp h2 (fun b _ hq => m.free hq.1 hq.2)
theorem TS.below {w w' : World} {s : Nat} {v : Value} {t : Tree} (h : TS w s v t) (hs : s < w.heap.size) (hb : Below w.heap.size w w') : TS w' s v t := h.moved (.ofBelow hs hb)
theorem IS.below {w w' : World} {s : Nat} {v : Value} {l : List Int} (h : IS w s v l) (hs : s < w.heap.size) (hb : Below w.heap.size w w') : IS w' s v l := h.moved (.ofBelow hs hb)

/-- 0, or a term with this meaning. -/
def Has (ns : List Nd) (g : Int → Tm) (n : Int) : Prop := n ≠ 0 → Means ns n (g n)
theorem Has.keeps {ns ns' : List Nd} {g : Int → Tm} {n : Int} (h : Has ns g n) (hp : ns <+: ns') : Has ns' g n := fun h0 => (h h0).keeps hp

set_option maxHeartbeats 400000 in
theorem hash_any {w : World} {s : Nat} {ns : List Nd} {dr : Int} (h : StoreAt w s ns dr) (l : ByteArray) (a : Int) :
    Calls Tryd.prog 31 #[.pointer (some ⟨s, 0, none⟩), .string l, .int .i64 a] w fun e w' => e = .returned (.int .i64 (makeF ns ⟨4, l, a, 0⟩).1) ∧ StoreAt w' s (makeF ns ⟨4, l, a, 0⟩).2.2 dr ∧ Moved s w w' := by
  go_enter Tryd.func31, Tryd.ntmps31
  go_wp2_with (go_at_call 59; refine (number_any h ⟨4, l, a, 0⟩).mono ?_; rintro e w1 ⟨rfl, hst, hmv⟩)
  go_ret
  exact ⟨rfl, hst, hmv⟩

theorem text_m {w : World} {s : Nat} {ns : List Nd} {dr : Int} (h : Seat w s ns dr) (l : ByteArray) (hl : l.size ≤ 1024) (hr : (ns.length : Int) < 262144) :
    Calls Tryd.prog 30 #[.pointer (some ⟨s, 0, none⟩), .string l] w fun e w' => ∃ t ns', e = .returned (.int .i64 t) ∧ Run s w w' ns ns' dr 1 ∧ Means ns' t (.text l) := by
  obtain ⟨t, ns', e, hs, hm⟩ := mk_text h.wf l hl hr
  refine (text_any h.st l).mono ?_
  rw [e]
  rintro _ w' ⟨rfl, hst, hmv⟩
  exact ⟨t, ns', rfl, ⟨h.moved hmv hst hs.wf, hmv, hs⟩, hm⟩

theorem hash_m {w : World} {s : Nat} {ns : List Nd} {dr : Int} (h : Seat w s ns dr) (l : ByteArray) (hl : l.size ≤ 32) (hr : (ns.length : Int) < 262144) {x : Int} {X : Tm} (hx : Means ns x X) :
    Calls Tryd.prog 31 #[.pointer (some ⟨s, 0, none⟩), .string l, .int .i64 x] w fun e w' => ∃ t ns', e = .returned (.int .i64 t) ∧ Run s w w' ns ns' dr 1 ∧ Means ns' t (.hash l X) := by
  obtain ⟨t, ns', e, hs, hm⟩ := mk_hash h.wf l hl hr hx
  refine (hash_any h.st l x).mono ?_
  rw [e]
  rintro _ w' ⟨rfl, hst, hmv⟩
  exact ⟨t, ns', rfl, ⟨h.moved hmv hst hs.wf, hmv, hs⟩, hm⟩

theorem list_m {w : World} {s : Nat} {ns : List Nd} {dr : Int} (h : Seat w s ns dr) {v : Value} {l : List Int} {L : List Tm} (hl : IntsAt w v l) (hf : ∀ b o sp n c, v = .slice (some ⟨b, o, sp⟩) n c → ¬ Own w s b) (hL : Mean2 ns l L) (hr : (ns.length : Int) + l.length + 1 < 262144) :
    Calls Tryd.prog 32 #[.pointer (some ⟨s, 0, none⟩), v] w fun e w' => ∃ t ns', e = .returned (.int .i64 t) ∧ Run s w w' ns ns' dr (l.length + 1) ∧ Means ns' t (listT L) := by
  obtain ⟨t, ns', e, hs, hm⟩ := mk_list h.wf hL hr
  refine (list_any h.st hl hf).mono ?_
  rw [e]
  rintro _ w' ⟨rfl, hst, hmv⟩
  exact ⟨t, ns', rfl, ⟨h.moved hmv hst hs.wf, hmv, hs⟩, hm⟩

/-- A slice of numbers that was built just now. -/
theorem intsAt_new (w : World) (l : List Int) (hl : (l.length : Int) ≤ 9223372036854775807) : IntsAt (w.alloc (.cells (l.map (Value.int .i64)).toArray 3)) (.slice (some ⟨w.heap.size, 0, none⟩) l.length l.length) l := by
  refine ⟨_, l.length, rfl, hl, fun _ => ⟨w.heap.size, 0, rfl, by simp, fun i x hi => ?_⟩⟩
  rw [World.cell?, heap_alloc_new]
  simp [hi]

theorem free_new {w : World} {s : Nat} {ns : List Nd} {dr : Int} (h : StoreAt w s ns dr) (o : Obj) : ¬ Own (w.alloc o) s w.heap.size := by
  rw [own_below1 h.lt ((Below.refl _ _).alloc (Nat.le_refl _) o)]
  intro hk
  have := h.own_lt hk
  omega

/-- List over a slice that was built just now. -/
theorem list_new {w : World} {s : Nat} {ns : List Nd} {dr : Int} (h : Seat w s ns dr) (l : List Int) {L : List Tm} (hL : Mean2 ns l L) (hr : (ns.length : Int) + l.length + 1 < 262144) :
    Calls Tryd.prog 32 #[.pointer (some ⟨s, 0, none⟩), .slice (some ⟨w.heap.size, 0, none⟩) l.length l.length] (w.alloc (.cells (l.map (Value.int .i64)).toArray 3)) fun e w' => ∃ t ns', e = .returned (.int .i64 t) ∧ Run s w w' ns ns' dr (l.length + 1) ∧ Means ns' t (listT L) := by
  refine (list_m (h.al _) (intsAt_new w l (by omega)) (fun b o sp n c e => ?_) hL hr).mono ?_
  · cases e
    exact free_new h.st _
  · rintro e w' ⟨t, ns', rfl, hrun, hm⟩
    exact ⟨t, ns', rfl, .ahead h ((Below.refl _ _).alloc (Nat.le_refl _) _) hrun, hm⟩

theorem itoa_size {n : Int} (h0 : -9223372036854775808 ≤ n) (h1 : n ≤ 9223372036854775807) : (⟨(Lib.itoa n).toArray⟩ : ByteArray).size ≤ 1024 := by
  have := Lib.itoa_length_le n h0 h1
  show (Lib.itoa n).toArray.size ≤ 1024
  simp
  omega

set_option maxHeartbeats 400000 in
theorem number_m {w : World} {s : Nat} {ns : List Nd} {dr : Int} (h : Seat w s ns dr) (n : Int) (h0 : -9223372036854775808 ≤ n) (h1 : n ≤ 9223372036854775807) (hr : (ns.length : Int) < 262144) :
    Calls Tryd.prog 16 #[.pointer (some ⟨s, 0, none⟩), .int .i64 n] w fun e w' => ∃ t ns', e = .returned (.int .i64 t) ∧ Run s w w' ns ns' dr 1 ∧ Means ns' t (numT n) := by
  have hi : Hid (∀ wx, Pow wx → Calls Tryd.prog 44 #[.int .i64 n] wx fun e w' => e = .returned (.string ⟨(Lib.itoa n).toArray⟩) ∧ Below wx.heap.size wx w') := fun wx hp => by
    refine (itoa_any n h0 h1 wx hp).mono ?_
    rintro e w' ⟨rfl, k, os, rfl⟩
    exact ⟨rfl, Lib.below_grow _ _ (Nat.le_refl _) _ _⟩
  have hsz := itoa_size h0 h1
  have hT : numT n = .text ⟨(Lib.itoa n).toArray⟩ := rfl
  rw [hT]
  generalize (⟨(Lib.itoa n).toArray⟩ : ByteArray) = l at *
  have Hsz : Hid (l.size ≤ 1024) := hsz
  clear hsz hT h0 h1
  go_enter Tryd.func16, Tryd.ntmps16
  go_wp2_with fail
  refine (hi.out _ h.pow).mono ?_
  rintro e w1 ⟨rfl, b1⟩
  have h2 := h.below b1
  go_wp2_with fail
  refine (text_m h2 l Hsz.out hr).mono ?_
  rintro e w2 ⟨t, ns', rfl, hrun, hm⟩
  go_wp2_with fail
  go_ret
  exact ⟨t, ns', rfl, .ahead h b1 hrun, hm⟩

set_option maxHeartbeats 400000 in
theorem orNone_m {w : World} {s : Nat} {ns : List Nd} {dr : Int} (h : Seat w s ns dr) {g : Int → Tm} (n : Int) (hn : Has ns g n) (hr : (ns.length : Int) < 262144) :
    Calls Tryd.prog 92 #[.pointer (some ⟨s, 0, none⟩), .int .i64 n] w fun e w' => ∃ t ns', e = .returned (.int .i64 t) ∧ Run s w w' ns ns' dr 1 ∧ Means ns' t (noneT g n) := by
  by_cases h0 : n = 0
  · have hb : (n == 0) = true := by simp [h0]
    have hT : noneT g n = .text ⟨#[]⟩ := by simp [noneT, h0]
    rw [hT]
    clear hT hn h0
    go_enter Tryd.func92, Tryd.ntmps92
    go_wp2_with fail
    refine (text_m h ⟨#[]⟩ (by decide) hr).mono ?_
    rintro e w2 ⟨t, ns', rfl, hrun, hm⟩
    go_wp2_with fail
    go_ret
    exact ⟨t, ns', rfl, hrun, hm⟩
  · have hb : (n == 0) = false := by simp [h0]
    have hT : noneT g n = g n := by simp [noneT, h0]
    have hm := hn h0
    rw [hT]
    clear hT hn h0
    go_enter Tryd.func92, Tryd.ntmps92
    go_wp2_with fail
    go_ret
    exact ⟨n, ns, rfl, (Run.refl h).mono (by omega), hm⟩

end Go.Proofs.YtmcjincgppddeaaDoor
