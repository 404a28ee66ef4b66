/-
  What turns beside a store; the numbers of a list as a term.
-/
import Derived.Test.YtmcjincgppddeaaDoorEA
namespace Go.Proofs.YtmcjincgppddeaaDoor
open Go.RowKit
set_option linter.unusedSimpArgs false
set_option linter.unusedVariables false

theorem StoreAt.keep {w w' : World} {s : Nat} {ns : List Nd} {dr : Int} (h : StoreAt w s ns dr) (hk : ∀ k, Own w s k → w'.heap[k]? = w.heap[k]?) : StoreAt w' s ns dr ∧ ∀ k, Own w' s k ↔ Own w s k := by
  have e : ∀ k, Own w' s k ↔ Own w s k := by
    intro k
    have hb := hk s (Or.inl rfl)
    unfold Own
    rw [World.cell?_of_block (w := w) (a := ⟨s, 1, none⟩) hb, World.cell?_of_block (w := w) (a := ⟨s, 0, none⟩) hb]
  refine ⟨?_, e⟩
  obtain ⟨sl, c, mb, h0, h1, h2, h3⟩ := h
  refine ⟨sl, c, mb, (hk s (Or.inl rfl)).trans h0, (hk mb (Or.inr (Or.inl (by rw [cell_of_heap h0]; rfl)))).trans h1, ⟨h2.1, ?_⟩, h3⟩
  rcases h2.2 with hn | ⟨g, cap, cur, hv, hb, hgg, rest⟩
  · exact Or.inl hn
  · refine Or.inr ⟨g, cap, cur, hv, hb, ?_, rest⟩
    have hv2 := hv
    simp at hv2
    exact (hk g (Or.inr (Or.inr ⟨0, none, _, _, by rw [cell_of_heap h0, hv2.1]; rfl⟩))).trans hgg

/-- Something that is neither the store's nor older than w0 turns. -/
theorem Run.grown {s : Nat} {w0 w w' : World} {ns ns' : List Nd} {dr : Int} {c : Nat} {row : Option Nat} (h : Run s w0 w ns ns' dr c) (hg : w.grownBy w' row) (hr : ∀ g, row = some g → w0.heap.size ≤ g ∧ ¬ Own w s g) (ht : 2 < w0.heap.size) : Run s w0 w' ns ns' dr c ∧ ∀ k, Own w' s k ↔ Own w s k := by
  obtain ⟨h1, h2⟩ := h.seat.st.keep (w' := w') (fun k hk => hg.block k (h.seat.st.own_lt hk) (fun e => (hr k e.symm).2 hk))
  have hlow : ∀ k, k < w0.heap.size → w'.heap[k]? = w.heap[k]? := fun k hk => hg.block k (Nat.lt_of_lt_of_le hk h.mv.size) (fun e => by have := (hr k e.symm).1; omega)
  refine ⟨⟨⟨h1, h.seat.wf, h.seat.tab.block (hlow 2 ht), h.seat.pow.block (hlow 0 (by omega)), fun hk => h.seat.f0 ((h2 0).1 hk), fun hk => h.seat.f2 ((h2 2).1 hk)⟩, ⟨hg.os.trans h.mv.os, hg.tape.trans h.mv.tape, hg.output.trans h.mv.output, Nat.le_trans h.mv.size hg.size, fun k hk hn => (hlow k hk).trans (h.mv.block k hk hn), fun k hk => h.mv.own k ((h2 k).1 hk), (World.cell?_of_block (w := w) (a := ⟨s, 1, none⟩) (hg.block s h.seat.st.lt (fun e => (hr s e.symm).2 (Or.inl rfl)))).trans h.mv.keep⟩, h.st⟩, h2⟩

/-- A slice of the call's own beside the store. -/
structure Own2 (B : Nat) (w : World) (s : Nat) (v : Value) (n : Nat) (xs : List Value) : Prop where
  own : w.ownsRow B 3 1 v n xs
  free : ∀ g, v.ownBlock = some g → ¬ Own w s g

theorem Own2.moved {B : Nat} {w w' : World} {s n : Nat} {v : Value} {xs : List Value} (h : Own2 B w s v n xs) (hm : Moved s w w') : Own2 B w' s v n xs := by
  refine ⟨⟨h.own.1, ?_⟩, fun g hg ho => ?_⟩
  · rcases h.own.2 with hn | ⟨g, cap, cur, rfl, hb, hgg, rest⟩
    · exact Or.inl hn
    · refine Or.inr ⟨g, cap, cur, rfl, hb, ?_, rest⟩
      rw [hm.block g (Array.getElem?_eq_some_iff.1 hgg).1 (h.free g rfl)]
      exact hgg
  · have hlt := (h.own.lt g hg).2
    rcases hm.own g ho with h1 | h1
    · exact h.free g hg h1
    · omega

theorem Own2.mono {B B' : Nat} {w : World} {s n : Nat} {v : Value} {xs : List Value} (h : Own2 B w s v n xs) (hb : B' ≤ B) : Own2 B' w s v n xs := ⟨h.own.mono hb, h.free⟩

theorem Own2.nil (B : Nat) (w : World) (s : Nat) : Own2 B w s (.slice none 0 0) 0 [] := ⟨World.ownsRow_nil _ _ _ _, fun g h => by simp [Value.ownBlock] at h⟩

theorem Own2.ints {B : Nat} {w : World} {s : Nat} {v : Value} {l : List Int} (h : Own2 B w s v l.length (l.map (Value.int .i64))) (hl : (l.length : Int) ≤ 9223372036854775807) : IS w s v l := by
  have hp := ownI_p h.own hl
  rcases h.own.2 with ⟨rfl, h0⟩ | ⟨g, cap, cur, rfl, _⟩
  · have : l = [] := List.eq_nil_of_length_eq_zero h0
    subst this
    exact ⟨none, 0, rfl, by simp, fun h => absurd rfl h⟩
  · obtain ⟨a, cap', e, h1, h2⟩ := hp
    cases e
    refine ⟨_, cap, rfl, h1, fun hne => ?_⟩
    obtain ⟨b, off, e, h3, h4, h5⟩ := h2 hne
    have hb : b = g := by cases e; rfl
    exact ⟨b, off, e, hb ▸ h.free g rfl, h4, h5⟩

theorem Own2.hf {B : Nat} {w : World} {s n : Nat} {v : Value} {xs : List Value} (h : Own2 B w s v n xs) : ∀ b o sp n c, v = .slice (some ⟨b, o, sp⟩) n c → ¬ Own w s b := fun b o sp n c e => h.free b (by rw [e]; rfl)

theorem list_own {w : World} {s : Nat} {ns : List Nd} {dr : Int} (h : Seat w s ns dr) {B : Nat} {v : Value} {l : List Int} {L : List Tm} (hv : Own2 B w s v l.length (l.map (Value.int .i64))) (hL : Mean2 ns l L) (hr : (ns.length : Int) + l.length + 1 < 262144) :
    Calls Tryd.prog 32 #[.pointer (some ⟨s, 0, none⟩), v] w fun e w' => ∃ t ns', e = .returned (.int .i64 t) ∧ Run s w w' ns ns' dr (l.length + 1) ∧ Means ns' t (listT L) :=
  list_m h (hv.ints (by omega)).ints hv.hf hL hr

theorem make_own {w : World} {s : Nat} {ns : List Nd} {dr : Int} (h : StoreAt w s ns dr) (n : Nat) (hn : n ≤ 1000) :
    (Instr.makeSlice 30 (.int .i64 (n : Int)) (.int .i64 (n : Int))).run Tryd.prog w = .ok (.slice (some ⟨w.heap.size, 0, none⟩) n n) (w.alloc (.cells ((List.replicate n 0).map (Value.int .i64)).toArray 3)) ∧
    Own2 w.heap.size (w.alloc (.cells ((List.replicate n 0).map (Value.int .i64)).toArray 3)) s (.slice (some ⟨w.heap.size, 0, none⟩) n n) n ((List.replicate n 0).map (Value.int .i64)) := by
  obtain ⟨i0, hi, hz0, hz1, hz2⟩ := info_parts Tryd.infoI
  have hr := run_make (P := Tryd.prog) w 30 3 i0 (.int .i64 0) Tryd.underlying30 hi hz0 .i64 .i64 n n (by omega) (Int.le_refl _) (by rw [hz2]; omega) (by omega)
  have hc : (Value.int .i64 0).cells = #[.int .i64 0] := rfl
  have e : madeCells (Value.int .i64 0).cells (((n : Nat) : Int).toNat * i0.size) = ((List.replicate n 0).map (Value.int .i64)).toArray := by
    apply Array.ext
    · simp [madeCells, hz1]
    · intro i h1 h2
      simp [madeCells, hz1, hc, Nat.mod_one]
  rw [e] at hr
  refine ⟨by rw [hr]; simp, ⟨by simp, .inr ⟨w.heap.size, n, _, rfl, Nat.le_refl _, heap_alloc_new w _, Nat.le_refl _, by unfold maxLen; omega, by simp, by simp⟩⟩, fun g hg => ?_⟩
  simp [Value.ownBlock] at hg
  subst hg
  exact free_new h _

/-- One item is stored. -/
theorem Run.stored {s : Nat} {w0 w : World} {ns ns' : List Nd} {dr : Int} {c : Nat} (h : Run s w0 w ns ns' dr c) (ht : 2 < w0.heap.size) {g cap n : Nat} {xs : List Value} (hv : Own2 w0.heap.size w s (.slice (some ⟨g, 0, none⟩) n cap) n xs) (j : Nat) (u : Value) :
    Run s w0 (w.setCell ⟨g, j, none⟩ u) ns ns' dr c ∧ Own2 w0.heap.size (w.setCell ⟨g, j, none⟩ u) s (.slice (some ⟨g, 0, none⟩) n cap) n (xs.set j u) := by
  obtain ⟨h1, h2⟩ := hv.own.stored j u
  obtain ⟨h3, h4⟩ := h.grown h2 (fun g' e => by cases e; exact ⟨(hv.own.lt g rfl).1, hv.free g rfl⟩) ht
  exact ⟨h3, h1, fun g' e ho => hv.free g' e ((h4 g').1 ho)⟩

theorem Own2.head {B : Nat} {w : World} {s g cap n : Nat} {xs : List Value} (h : Own2 B w s (.slice (some ⟨g, 0, none⟩) n cap) n xs) : B ≤ g ∧ g < w.heap.size ∧ n ≤ cap ∧ (∃ cur, w.heap[g]? = some (.cells cur 3)) := by
  rcases h.own.2 with ⟨h', _⟩ | ⟨g', cap', cur, h', hb, hgg, hnc, _⟩
  · simp at h'
  · cases h'
    exact ⟨hb, (Array.getElem?_eq_some_iff.1 hgg).1, hnc, cur, hgg⟩

theorem fill_set (done : List Int) (n : Nat) (hn : done.length < n) (x : Int) : ((done ++ List.replicate (n - done.length) 0).map (Value.int .i64)).set done.length (.int .i64 x) = ((done ++ [x]) ++ List.replicate (n - (done ++ [x]).length) 0).map (Value.int .i64) := by
  obtain ⟨k, hk⟩ : ∃ k, n - done.length = k + 1 := ⟨n - done.length - 1, by omega⟩
  have hk2 : n - (done ++ [x]).length = k := by simp; omega
  rw [hk, hk2, List.replicate_succ]
  simp

/-- append to a slice of the call's own. -/
theorem Run.appended {s : Nat} {w0 w w' : World} {ns ns' : List Nd} {dr : Int} {c : Nat} (h : Run s w0 w ns ns' dr c) (ht : 2 < w0.heap.size) {v v' : Value} {n m : Nat} {xs ys : List Value} (hv : Own2 w0.heap.size w s v n xs) (hg : w.grownBy w' v.ownBlock) (ho : w'.ownsRow w0.heap.size 3 1 v' m ys) (hl : v'.ownBlock = v.ownBlock ∨ v'.ownBlock = some w.heap.size) :
    Run s w0 w' ns ns' dr c ∧ Own2 w0.heap.size w' s v' m ys := by
  obtain ⟨h3, h4⟩ := h.grown hg (fun g' e => ⟨(hv.own.lt g' e).1, hv.free g' e⟩) ht
  refine ⟨h3, ho, fun g' e hw => ?_⟩
  have hw := (h4 g').1 hw
  rcases hl with hl | hl
  · exact hv.free g' (by rw [← hl]; exact e) hw
  · rw [hl] at e
    cases e
    have := h.seat.st.own_lt hw
    omega

/-- append as one step of a region that draws its order, the row from a block on. -/
theorem step_append_from {P : Program} {ops : Array Oper} {o : Oper} {a : Act} {w : World} {K : Act → World → Prop} {Q : Exit → Act → World → Prop} {E : Prop}
    (hg : o.guard = none) (s x : Operand) (t : TypeId) (hop : o.op = Op.call { callee := Callee.builtin Builtin.append, args := #[s, x], argTypes := #[t, t] })
    (base : Nat) (e : TypeId) (i : TypeInfo) (z : Value) (size bytes : Nat) (h1 : P.underlying t = some (.slice e)) (h2 : P.info? e = some i) (h3 : i.zero = some z) (h4 : i.size = size) (h5 : i.bytes = bytes) (h6 : z.cells.size = size) (h7 : 0 < size)
    (v : Value) (n : Nat) (xs : List Value) (hs : a.eval s = v) (hown : w.ownsRow base e size v n xs)
    (ad : Addr) (m c : Nat) (news : List Value) (hx : a.eval x = .slice (some ad) m c) (hn : news.length = m * size) (hc : ∀ j u, news[j]? = some u → w.cell? (ad.add j) = some u) (h1c : ∀ u ∈ news, u.oneCell' = true)
    (b1 : n + m ≤ maxLen) (b2 : (n + m) * bytes ≤ 140737488355328) (hb : base ≤ w.heap.size)
    (hK : ∀ v' w', w'.ownsRow base e size v' (n + m) (xs ++ news) → w.grownBy w' v.ownBlock → (v' = .slice none 0 0 ↔ v = .slice none 0 0 ∧ m = 0) → (v'.ownBlock = v.ownBlock ∨ v'.ownBlock = some w.heap.size) → K (a.put o.dst v') w') :
    if Region.wanted o (yielded ops a.tmps) = true then Oper.wp P o a w K Q else E := by
  have hw : Region.wanted o (yielded ops a.tmps) = true := by simp [Region.wanted, hg]
  rw [if_pos hw]
  obtain ⟨v', w', hrun, r1, r2, r3, r4⟩ := run_append_own_at (P := P) w base t o.type e i z size bytes h1 h2 h3 h4 h5 h6 h7 v n xs hown ad m c news hn hc h1c b1 b2 hb
  unfold Oper.wp
  simp [execOp, hop, resolve, invoke, builtin, hs, hx, hrun, Result.andThen]
  exact hK v' w' r1 r2 r3 r4

theorem ints_at_new (w : World) (l : List Int) : ∀ j u, (l.map (Value.int .i64))[j]? = some u → (w.alloc (.cells (l.map (Value.int .i64)).toArray 3)).cell? ((⟨w.heap.size, 0, none⟩ : Addr).add j) = some u := by
  intro j u hu
  have : (⟨w.heap.size, 0, none⟩ : Addr).add j = ⟨w.heap.size, j, none⟩ := by unfold Addr.add; split <;> simp_all
  rw [this, World.cell?, heap_alloc_new]
  simpa using hu
theorem ints_one (l : List Int) : ∀ u ∈ l.map (Value.int .i64), u.oneCell' = true := by intro u hu; simp at hu; obtain ⟨x, _, rfl⟩ := hu; rfl

set_option maxRecDepth 100000 in
set_option maxHeartbeats 2000000 in
theorem numbers_m {w : World} {s : Nat} {ns : List Nd} {dr : Int} (h : Seat w s ns dr) {v : Value} {l : List Int} (hl : IS w s v l) (hlen : l.length ≤ 40) (hle : ∀ i ∈ l, 0 ≤ i ∧ i < 64) (hr : (ns.length : Int) + 90 < 262144) :
    Calls Tryd.prog 93 #[.pointer (some ⟨s, 0, none⟩), v] w fun e w' => ∃ t ns', e = .returned (.int .i64 t) ∧ Run s w w' ns ns' dr (2 * l.length + 1) ∧ Means ns' t (listT (l.map numT)) := by
  have h2 : 2 < w.heap.size := h.tab.size
  obtain ⟨hmk, hown⟩ := make_own h.st l.length (by omega)
  have hli := hl
  obtain ⟨a, cap, rfl, hl1, hc⟩ := hl
  have hB : Below w.heap.size w (w.alloc (.cells ((List.replicate l.length 0).map (Value.int .i64)).toArray 3)) := (Below.refl _ _).alloc (Nat.le_refl _) _
  have hR0 := Run.ofBelow h hB
  obtain ⟨w1, hw1⟩ : ∃ w1, w.alloc (.cells ((List.replicate l.length 0).map (Value.int .i64)).toArray 3) = w1 := ⟨_, rfl⟩
  rw [hw1] at hmk hown hR0
  clear hw1 hB hc
  have Hown : Hid (Own2 w.heap.size w1 s (.slice (some ⟨w.heap.size, 0, none⟩) l.length l.length) l.length ((List.replicate l.length 0).map (Value.int .i64))) := hown
  clear hown
  go_enter Tryd.func93, Tryd.ntmps93
  go_wp2_with (rw [hmk])
  go_loopw [12] (fun k wr => ∃ (done : List Int) (ns1 : List Nd), done.length ≤ l.length ∧ k = .int .i64 done.length ∧ Run s w wr ns ns1 dr done.length ∧ Own2 w.heap.size wr s (.slice (some ⟨w.heap.size, 0, none⟩) l.length l.length) l.length ((done ++ List.replicate (l.length - done.length) 0).map (Value.int .i64)) ∧ Mean2 ns1 done ((l.take done.length).map numT)) (fun k _ => l.length - (intOf k).toNat)
  case atStart => exact ⟨[], ns, Nat.zero_le _, rfl, hR0, by simpa using Hown.out, .nil⟩
  case round =>
    obtain ⟨done, ns1, hd, rfl, hR, hO, hM⟩ := hrel
    have hst := hR.st.len
    by_cases hlt : done.length < l.length
    · obtain ⟨x, hx⟩ : ∃ x, l[done.length]? = some x := ⟨l[done.length], by simp [hlt]⟩
      obtain ⟨b, off, cap', e1, hb, hcx⟩ : ∃ b off cap', (Value.slice a l.length cap) = .slice (some ⟨b, off, none⟩) l.length cap' ∧ b < wr.heap.size ∧ wr.cell? ⟨b, off + done.length, none⟩ = some (.int .i64 x) := by
        obtain ⟨a', cap', e, _, hc⟩ := (hli.moved hR.mv).ints
        obtain ⟨b, off, rfl, h4, h5⟩ := hc (by rintro rfl; simp at hlt)
        exact ⟨b, off, cap', e, h4, h5 _ _ hx⟩
      cases e1
      have hx2 := hle x (List.mem_of_getElem? hx)
      have Hx : Hid (l[done.length]? = some x) := hx
      have i1 : (done.length : Int) < (l.length : Int) := by omega
      have hnm := number_m hR.seat x (by omega) (by omega) (by omega)
      clear hx hle
      go_wp2_with fail
      refine hnm.mono ?_
      rintro e w2 ⟨t, ns2, rfl, r2, m2⟩
      have hO2 := hO.moved r2.mv
      have hR2 := hR.trans r2
      obtain ⟨hR3, hO3⟩ := hR2.stored h2 hO2 done.length (.int .i64 t)
      rw [fill_set done l.length hlt t] at hO3
      obtain ⟨_, hgl, _, cur, hcur⟩ := hO2.head
      have hcl := hO2.own.cellAt done.length (by simp; omega)
      have hfz : w2.frozen? ⟨w.heap.size, done.length, none⟩ = false := frozen_of_heap hcur _
      have HR3 : Hid (Run s w (w2.setCell ⟨w.heap.size, done.length, none⟩ (.int .i64 t)) ns ns2 dr (done.length + 1)) := hR3
      have HO3 : Hid (Own2 w.heap.size (w2.setCell ⟨w.heap.size, done.length, none⟩ (.int .i64 t)) s (.slice (some ⟨w.heap.size, 0, none⟩) l.length l.length) l.length (((done ++ [t]) ++ List.replicate (l.length - (done ++ [t]).length) 0).map (Value.int .i64))) := hO3
      have HM : Hid (Mean2 ns2 (done ++ [t]) ((l.take (done ++ [t]).length).map numT)) := by
        show Mean2 _ _ _
        have e3 : l.take (done ++ [t]).length = l.take done.length ++ [x] := by
          rw [List.length_append, List.length_singleton, List.take_add_one, Hx.out]; rfl
        rw [e3, List.map_append]
        exact (hM.keeps r2.st.pre).append (.cons m2 .nil)
      have hcl2 : ∃ u, w2.cell? ⟨w.heap.size, done.length, none⟩ = some u := by
        rw [hcl]
        exact ⟨_, List.getElem?_eq_getElem (by simp; omega)⟩
      obtain ⟨u, hcu⟩ := hcl2
      clear hcl hO hO2 hO3 hR3 hR2 hM hcur m2
      go_wp2_with fail
      go_roundw
      case rel => exact ⟨done ++ [t], ns2, by rw [List.length_append, List.length_singleton]; omega, by rw [List.length_append, List.length_singleton]; go_num, by simpa using HR3.out, HO3.out, HM.out⟩
      case measure => simp [intOf]; omega
    · have e : done.length = l.length := by omega
      have hO' : Own2 w.heap.size wr s (.slice (some ⟨w.heap.size, 0, none⟩) l.length l.length) done.length (done.map (Value.int .i64)) := by
        have := hO
        rw [e, Nat.sub_self] at this
        rw [e]
        simpa using this
      have hM' : Mean2 ns1 done (l.map numT) := by rw [e, List.take_length] at hM; exact hM
      have hlo := list_own hR.seat hO' hM' (by omega)
      clear hO hM
      go_wp2_with fail
      refine hlo.mono ?_
      rintro e w2 ⟨t, ns2, rfl, r2, m2⟩
      go_wp2_with fail
      go_ret
      exact ⟨t, ns2, rfl, (hR.trans r2).mono (by omega), m2⟩

end Go.Proofs.YtmcjincgppddeaaDoor
