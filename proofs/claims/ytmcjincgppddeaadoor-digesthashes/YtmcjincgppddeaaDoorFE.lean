/-
  The document's hash of one place: its parts in a list of the call's own.
-/
import Derived.Test.YtmcjincgppddeaaDoorFD
namespace Go.Proofs.YtmcjincgppddeaaDoor
open Go.RowKit
set_option linter.unusedSimpArgs false
set_option linter.unusedVariables false

/-- What Digits answers. -/
def DigitsOk : Prop := ∀ (n : Int) (W : World), -9223372036854775808 ≤ n → n ≤ 9223372036854775807 → Calls Tryd.prog 47 #[.int .i64 n] W fun e w' => e = .returned (.string ⟨(Lib.itoa n).toArray⟩) ∧ Below W.heap.size W w'

set_option maxHeartbeats 400000 in
theorem number_r (hD : DigitsOk) {w : World} {r : Nat} {ns : List Nd} {dr : Int} (h : RefAt w r ns dr) (hw : Wf ns) (n : Int) (h0 : -9223372036854775808 ≤ n) (h1 : n ≤ 9223372036854775807) (hr : (ns.length : Int) < 262144) :
    Calls Tryd.prog 21 #[.pointer (some ⟨r, 0, none⟩), .int .i64 n] w fun e w' => ∃ t ns', e = .returned (.int .i64 t) ∧ RunR r w w' ns ns' dr 1 ∧ Means ns' t (numT n) := by
  have hi := hD n w h0 h1
  have hsz := itoa_size h0 h1
  have hT : numT n = .text ⟨(Lib.itoa n).toArray⟩ := rfl
  rw [hT]
  generalize (⟨(Lib.itoa n).toArray⟩ : ByteArray) = l at *
  have Hsz : Hid (l.size ≤ 1024) := hsz
  have Hr : Hid ((ns.length : Int) < 262144) := hr
  clear hsz hT h0 h1 hr
  go_enter Tryd.func21, Tryd.ntmps21
  go_wp2_with fail
  refine hi.mono ?_
  rintro e w1 ⟨rfl, b1⟩
  have h2 := h.below b1
  go_wp2_with fail
  refine (text_r h2 hw l Hsz.out Hr.out).mono ?_
  rintro e w2 ⟨t, ns', rfl, hrun, hm⟩
  go_wp2_with fail
  go_ret
  exact ⟨t, ns', rfl, .ahead h hw b1 hrun, hm⟩

set_option maxHeartbeats 400000 in
theorem some_r {w : World} {r : Nat} {ns : List Nd} {dr : Int} (h : RefAt w r ns dr) (hw : Wf ns) {g : Int → Tm} (n : Int) (hn : Has ns g n) (hr : (ns.length : Int) < 262144) :
    Calls Tryd.prog 65 #[.pointer (some ⟨r, 0, none⟩), .int .i64 n] w fun e w' => ∃ t ns', e = .returned (.int .i64 t) ∧ RunR r w w' ns ns' dr 1 ∧ Means ns' t (noneT g n) := by
  have ht := text_r h hw ⟨#[]⟩ (by decide) hr
  clear hr
  by_cases h0 : n = 0
  · have hb : (n != 0) = false := by simp [h0]
    have hT : noneT g n = .text ⟨#[]⟩ := by simp [noneT, h0]
    rw [hT]
    clear hT hn h0
    go_enter Tryd.func65, Tryd.ntmps65
    go_wp2_with fail
    refine ht.mono ?_
    rintro e w2 ⟨t, ns', rfl, hrun, hm⟩
    go_wp2_with fail
    go_ret
    exact ⟨t, ns', rfl, hrun, hm⟩
  · have hb : (n != 0) = true := by simp [h0]
    have hT : noneT g n = g n := by simp [noneT, h0]
    have hm := hn h0
    rw [hT]
    clear hT hn h0
    go_enter Tryd.func65, Tryd.ntmps65
    go_wp2_with fail
    go_ret
    exact ⟨n, ns, rfl, (RunR.refl h hw).mono (by omega), hm⟩

/-- Something that is neither the store's nor older than w0 turns. -/
theorem RunR.grown {r : Nat} {w0 w w' : World} {ns ns' : List Nd} {dr : Int} {c : Nat} {row : Option Nat} (h : RunR r w0 w ns ns' dr c) (hg : w.grownBy w' row) (hr : ∀ g, row = some g → w0.heap.size ≤ g ∧ ¬ OwnR w r g) : RunR r w0 w' ns ns' dr c ∧ ∀ k, OwnR w' r k ↔ OwnR w r k := by
  obtain ⟨h1, h2⟩ := h.st.keep (w' := w') (fun k hk => hg.block k (h.st.own_lt hk) (fun e => (hr k e.symm).2 hk))
  have hlow : ∀ k, k < w0.heap.size → w'.heap[k]? = w.heap[k]? := fun k hk => hg.block k (Nat.lt_of_lt_of_le hk h.mv.size) (fun e => by have := (hr k e.symm).1; omega)
  exact ⟨⟨h1, ⟨hg.os.trans h.mv.os, hg.tape.trans h.mv.tape, hg.output.trans h.mv.output, Nat.le_trans h.mv.size hg.size, fun k hk hn => (hlow k hk).trans (h.mv.block k hk hn), fun k hk => h.mv.own k ((h2 k).1 hk)⟩, h.stp⟩, h2⟩

/-- A slice of the call's own beside the document's store. -/
structure OwnX (B : Nat) (w : World) (r : Nat) (v : Value) (n : Nat) (xs : List Value) : Prop where
  own : w.ownsRow B 3 1 v n xs
  free : ∀ g, v.ownBlock = some g → ¬ OwnR w r g

theorem OwnX.moved {B : Nat} {w w' : World} {r n : Nat} {v : Value} {xs : List Value} (h : OwnX B w r v n xs) (hm : MovedR r w w') : OwnX B w' r v n xs := by
  refine ⟨⟨h.own.1, ?_⟩, fun g hg ho => ?_⟩
  · rcases h.own.2 with hn | ⟨g, cap, cur, rfl, hb, hgg, rest⟩
    · exact Or.inl hn
    · refine Or.inr ⟨g, cap, cur, rfl, hb, ?_, rest⟩
      rw [hm.block g (Array.getElem?_eq_some_iff.1 hgg).1 (h.free g rfl)]
      exact hgg
  · have hlt := (h.own.lt g hg).2
    rcases hm.own g ho with h1 | h1
    · exact h.free g hg h1
    · omega

theorem OwnX.nil (B : Nat) (w : World) (r : Nat) : OwnX B w r (.slice none 0 0) 0 [] := ⟨World.ownsRow_nil _ _ _ _, fun g h => by simp [Value.ownBlock] at h⟩

theorem OwnX.ints {B : Nat} {w : World} {r : Nat} {v : Value} {l : List Int} (h : OwnX B w r v l.length (l.map (Value.int .i64))) (hl : (l.length : Int) ≤ 9223372036854775807) : IR w r v l := by
  have hp := ownI_p h.own hl
  rcases h.own.2 with ⟨rfl, h0⟩ | ⟨g, cap, cur, rfl, _⟩
  · have : l = [] := List.eq_nil_of_length_eq_zero h0
    subst this
    exact ⟨none, 0, rfl, by simp, fun h => absurd rfl h⟩
  · obtain ⟨a, cap', e, h1, h2⟩ := hp
    cases e
    refine ⟨_, cap, rfl, h1, fun hne => ?_⟩
    obtain ⟨b, off, e, h3, h4, h5⟩ := h2 hne
    have hb : b = g := by cases e; rfl
    exact ⟨b, off, e, hb ▸ h.free g rfl, h4, h5⟩

/-- The state of a call that gathers a list beside a box of a vertex. -/
structure Sd (w0 : World) (r b : Nat) (C : Array Value) (W : World) (ns ns' : List Nd) (dr : Int) (c : Nat) (v : Value) (l : List Int) : Prop where
  run : RunR r w0 W ns ns' dr c
  box : W.heap[b]? = some (.cells C 47)
  bfree : ¬ OwnR W r b
  bnew : w0.heap.size ≤ b
  own : OwnX w0.heap.size W r v l.length (l.map (Value.int .i64))
  bv : v.ownBlock ≠ some b

theorem Sd.ran {w0 W W' : World} {r b : Nat} {C : Array Value} {ns ns' ns'' : List Nd} {dr : Int} {c c' : Nat} {v : Value} {l : List Int} (h : Sd w0 r b C W ns ns' dr c v l) (k : RunR r W W' ns' ns'' dr c') : Sd w0 r b C W' ns ns'' dr (c + c') v l :=
  have hlt := (Array.getElem?_eq_some_iff.1 h.box).1
  ⟨h.run.trans k, (k.mv.block b hlt h.bfree).trans h.box, k.mv.free hlt h.bfree, h.bnew, h.own.moved k.mv, h.bv⟩

theorem Sd.low {w0 W W' : World} {r b : Nat} {C : Array Value} {ns ns' : List Nd} {dr : Int} {c : Nat} {v : Value} {l : List Int} (h : Sd w0 r b C W ns ns' dr c v l) (hb : Below W.heap.size W W') : Sd w0 r b C W' ns ns' dr c v l :=
  h.ran (.ofBelow h.run.st h.run.stp.wf hb)

theorem Sd.app {w0 W W' : World} {r b : Nat} {C : Array Value} {ns ns' : List Nd} {dr : Int} {c : Nat} {v v' : Value} {l : List Int} (h : Sd w0 r b C W ns ns' dr c v l) (o : Obj) {x : Int}
    (ho : W'.ownsRow w0.heap.size 3 1 v' (l.length + 1) (l.map (Value.int .i64) ++ [.int .i64 x])) (hg : (W.alloc o).grownBy W' v.ownBlock) (hl : v'.ownBlock = v.ownBlock ∨ v'.ownBlock = some (W.alloc o).heap.size) : Sd w0 r b C W' ns ns' dr c v' (l ++ [x]) := by
  have h2 := h.low ((Below.refl W.heap.size W).alloc (Nat.le_refl _) o)
  have hlt := (Array.getElem?_eq_some_iff.1 h2.box).1
  obtain ⟨h3, h4⟩ := h2.run.grown hg (fun g e => ⟨(h2.own.own.lt g e).1, h2.own.free g e⟩)
  refine ⟨h3, (hg.block b hlt (fun e => h.bv e.symm)).trans h2.box, fun ho => h2.bfree ((h4 b).1 ho), h.bnew, ⟨by simpa using ho, fun g e hw => ?_⟩, fun e => ?_⟩
  · have hw := (h4 g).1 hw
    rcases hl with hl | hl
    · exact h2.own.free g (by rw [← hl]; exact e) hw
    · rw [hl] at e
      cases e
      have := h2.run.st.own_lt hw
      omega
  · rcases hl with hl | hl
    · exact h.bv (hl ▸ e)
    · rw [hl] at e
      cases e
      omega

theorem one_one (t : Int) : ∀ u ∈ [Value.int .i64 t], u.oneCell' = true := by intro u hu; simp at hu; subst hu; rfl

theorem Sd.size {w0 W : World} {r b : Nat} {C : Array Value} {ns ns' : List Nd} {dr : Int} {c : Nat} {v : Value} {l : List Int} (h : Sd w0 r b C W ns ns' dr c v l) (o : Obj) : w0.heap.size ≤ (W.alloc o).heap.size := by
  have := h.run.mv.size
  simp; omega

theorem Sd.cells {w0 W : World} {r b : Nat} {ns ns' : List Nd} {dr : Int} {c : Nat} {v : Value} {l : List Int} {c0 c1 c2 c3 c4 c5 : Value} (h : Sd w0 r b #[c0, c1, c2, c3, c4, c5] W ns ns' dr c v l) :
    W.cell? ⟨b, 0, none⟩ = some c0 ∧ W.cell? ⟨b, 1, none⟩ = some c1 ∧ W.cell? ⟨b, 2, none⟩ = some c2 ∧ W.cell? ⟨b, 3, none⟩ = some c3 ∧ W.cell? ⟨b, 4, none⟩ = some c4 ∧ W.cell? ⟨b, 5, none⟩ = some c5 := by
  refine ⟨?_, ?_, ?_, ?_, ?_, ?_⟩ <;> (rw [cell_of_heap h.box]; rfl)

theorem Sd.list {w0 W : World} {r b : Nat} {C : Array Value} {ns ns' : List Nd} {dr : Int} {c : Nat} {v : Value} {l : List Int} {L : List Tm} (h : Sd w0 r b C W ns ns' dr c v l) (hL : Mean2 ns' l L) (hr : (ns.length : Int) + c + l.length + 1 < 262144) :
    Calls Tryd.prog 67 #[.pointer (some ⟨r, 0, none⟩), v] W fun e w' => ∃ t ns'', e = .returned (.int .i64 t) ∧ RunR r W w' ns' ns'' dr (l.length + 1) ∧ Means ns'' t (listT L) :=
  list_r h.run.st h.run.stp.wf (h.own.ints (by omega)) hL (by have := h.run.stp.len; omega)

end Go.Proofs.YtmcjincgppddeaaDoor
