/-
  Parents: what lies in memory while the hashes of a path are made.
-/
import Derived.Test.YtmcjincgppddeaaDoorPB
import Derived.Test.YtmcjincgppddeaaDoorPA
namespace Go.Proofs.YtmcjincgppddeaaDoor
open Go.RowKit Go.Shelf
set_option linter.unusedSimpArgs false
set_option linter.unusedVariables false

/-- The five boxes of the call, the row of the hashes, the list of the copath. -/
structure PM (w : World) (s : Nat) (ns0 : List Nd) (dr : Int) (v : Value) (n hg B11 B12 : Nat) (cv : Value) (cs : List Int) (W : World) (ns : List Nd) (c : Nat) (bel : Int) (hs : List Int) : Prop where
  run : Run s w W ns0 ns dr c
  b4 : Boxed W w.heap.size 25 (.pointer (some ⟨s, 0, none⟩))
  b5 : Boxed W (w.heap.size + 1) 22 v
  b8 : Boxed W (w.heap.size + 2) 30 (.slice (some ⟨hg, 0, none⟩) n n)
  b11 : Boxed W B11 30 cv
  b12 : Boxed W B12 3 (.int .i64 bel)
  fr : ∀ b, (b = w.heap.size ∨ b = w.heap.size + 1 ∨ b = w.heap.size + 2 ∨ b = B11 ∨ b = B12) → ¬ Own W s b
  hrow : Own2 w.heap.size W s (.slice (some ⟨hg, 0, none⟩) n n) n (hs.map (Value.int .i64))
  crow : Own2 w.heap.size W s cv cs.length (cs.map (Value.int .i64))
  ord : w.heap.size + 2 < B11 ∧ B11 < hg ∧ hg < B12 ∧ (∀ g, cv.ownBlock = some g → w.heap.size + 2 < g ∧ g < B11) ∧ 2 < w.heap.size
  len : hs.length = n

theorem Own2.kept {B : Nat} {W W' : World} {s n : Nat} {v : Value} {xs : List Value} {row : Option Nat} (h : Own2 B W s v n xs) (hg : W.grownBy W' row) (hne : ∀ g, v.ownBlock = some g → some g ≠ row) (ho : ∀ k, Own W' s k ↔ Own W s k) : Own2 B W' s v n xs :=
  ⟨h.own.kept hg (by
    cases e : v.ownBlock with
    | none => exact .inl rfl
    | some g => exact .inr (hne g e)), fun g e hk => h.free g e ((ho g).1 hk)⟩

variable {w : World} {s : Nat} {ns0 : List Nd} {dr : Int} {v : Value} {n hg B11 B12 : Nat} {cv : Value} {cs : List Int} {W W' : World} {ns ns' : List Nd} {c c' : Nat} {bel : Int} {hs : List Int}

theorem PM.ran (h : PM w s ns0 dr v n hg B11 B12 cv cs W ns c bel hs) (k : Run s W W' ns ns' dr c') : PM w s ns0 dr v n hg B11 B12 cv cs W' ns' (c + c') bel hs :=
  ⟨h.run.trans k, (k.mv.block _ h.b4.lt (h.fr _ (by simp))).trans h.b4, (k.mv.block _ h.b5.lt (h.fr _ (by simp))).trans h.b5, (k.mv.block _ h.b8.lt (h.fr _ (by simp))).trans h.b8, (k.mv.block _ h.b11.lt (h.fr _ (by simp))).trans h.b11, (k.mv.block _ h.b12.lt (h.fr _ (by simp))).trans h.b12,
   fun b hb => k.mv.free (by
     rcases hb with rfl | rfl | rfl | rfl | rfl
     · exact h.b4.lt
     · exact h.b5.lt
     · exact h.b8.lt
     · exact h.b11.lt
     · exact h.b12.lt) (h.fr b hb), h.hrow.moved k.mv, h.crow.moved k.mv, h.ord, h.len⟩

/-- Something else turns. -/
theorem PM.turned (h : PM w s ns0 dr v n hg B11 B12 cv cs W ns c bel hs) {row : Option Nat} (hgr : W.grownBy W' row) (hr : ∀ g, row = some g → w.heap.size + 2 < g ∧ ¬ Own W s g ∧ g ≠ B11 ∧ g ≠ B12 ∧ g ≠ hg ∧ cv.ownBlock ≠ some g) : PM w s ns0 dr v n hg B11 B12 cv cs W' ns c bel hs := by
  obtain ⟨h1, h2⟩ := h.run.grown hgr (fun g e => ⟨by have := (hr g e).1; omega, (hr g e).2.1⟩) h.ord.2.2.2.2
  refine ⟨h1, h.b4.kept hgr (fun e => ?_), h.b5.kept hgr (fun e => ?_), h.b8.kept hgr (fun e => ?_), h.b11.kept hgr (fun e => ?_), h.b12.kept hgr (fun e => ?_), fun b hb ho => h.fr b hb ((h2 b).1 ho), h.hrow.kept hgr (fun g e e2 => ?_) h2, h.crow.kept hgr (fun g e e2 => ?_) h2, h.ord, h.len⟩
  · have := (hr _ e.symm).1; omega
  · have := (hr _ e.symm).1; omega
  · have := (hr _ e.symm).1; omega
  · exact (hr _ e.symm).2.2.1 rfl
  · exact (hr _ e.symm).2.2.2.1 rfl
  · cases e; exact (hr _ e2.symm).2.2.2.2.1 rfl
  · exact (hr _ e2.symm).2.2.2.2.2 e

theorem PM.below (h : PM w s ns0 dr v n hg B11 B12 cv cs W ns c bel hs) (hb : Below W.heap.size W W') : PM w s ns0 dr v n hg B11 B12 cv cs W' ns c bel hs :=
  h.turned (row := none) ⟨hb.os, hb.tape, hb.output, hb.size, fun k hk _ => hb.block k hk⟩ (fun g e => by cases e)

/-- One hash is put into the row. -/
theorem PM.slot (h : PM w s ns0 dr v n hg B11 B12 cv cs W ns c bel hs) (k : Nat) (x : Int) : PM w s ns0 dr v n hg B11 B12 cv cs (W.setCell ⟨hg, k, none⟩ (.int .i64 x)) ns c bel (hs.set k x) := by
  obtain ⟨h1, h2⟩ := h.run.stored h.ord.2.2.2.2 h.hrow k (.int .i64 x)
  have hgr : W.grownBy (W.setCell ⟨hg, k, none⟩ (.int .i64 x)) (some hg) := ⟨rfl, rfl, rfl, by simp [World.setCell], fun k hk hne => Below.heap_setCell _ _ _ _ (fun e => hne (by rw [e]))⟩
  obtain ⟨_, h4⟩ := h.run.grown hgr (fun g e => by cases e; exact ⟨(h.hrow.own.lt hg rfl).1, h.hrow.free hg rfl⟩) h.ord.2.2.2.2
  obtain ⟨o1, o2, o3, o4, o5⟩ := h.ord
  refine ⟨h1, h.b4.kept hgr (fun e => by
    have e3 := Option.some.inj e
    omega), h.b5.kept hgr (fun e => by
    have e3 := Option.some.inj e
    omega), h.b8.kept hgr (fun e => by
    have e3 := Option.some.inj e
    omega), h.b11.kept hgr (fun e => by
    have e3 := Option.some.inj e
    omega), h.b12.kept hgr (fun e => by
    have e3 := Option.some.inj e
    omega), fun b hb ho => h.fr b hb ((h4 b).1 ho), by rw [List.map_set]; exact h2, h.crow.kept hgr (fun g e e2 => by
    have e3 : g = hg := by simpa using e2
    have := (o4 _ e).2
    omega) h4, ⟨o1, o2, o3, o4, o5⟩, by simp [h.len]⟩

/-- The hash so far is turned. -/
theorem PM.setBel (h : PM w s ns0 dr v n hg B11 B12 cv cs W ns c bel hs) (x : Int) : PM w s ns0 dr v n hg B11 B12 cv cs (W.setCell ⟨B12, 0, none⟩ (.int .i64 x)) ns c x hs := by
  have hgr := grownBy_setCell' W B12 (.int .i64 x)
  obtain ⟨o1, o2, o3, o4, o5⟩ := h.ord
  obtain ⟨h1, h4⟩ := h.run.grown hgr (fun g e => by cases e; exact ⟨by omega, h.fr _ (by simp)⟩) o5
  refine ⟨h1, h.b4.other (by omega) _, h.b5.other (by omega) _, h.b8.other (by omega) _, h.b11.other (by omega) _, h.b12.set _, fun b hb ho => h.fr b hb ((h4 b).1 ho), h.hrow.kept hgr (fun g e e2 => by
    have e3 : hg = g := by simpa [Value.ownBlock] using e
    have e4 : g = B12 := by simpa using e2
    omega) h4, h.crow.kept hgr (fun g e e2 => by
    have e3 : g = B12 := by simpa using e2
    have := (o4 _ e).2
    omega) h4, ⟨o1, o2, o3, o4, o5⟩, h.len⟩

/-- What is no cells is the map of the store, or it isn't the store's. -/
theorem StoreAt.noCells {W : World} {s : Nat} {ns : List Nd} {dr : Int} (h : StoreAt W s ns dr) {k : Nat} {o : Obj} (hk : W.heap[k]? = some o) (ho : o.isCells = false) (hm : W.cell? ⟨s, 1, none⟩ ≠ some (.map (some k))) : ¬ Own W s k := by
  obtain ⟨sl, c, mb, h0, h1, h2, h3⟩ := h
  rintro (e | e | ⟨p, sp, n, c', e⟩)
  · subst e; rw [h0] at hk; cases hk; cases ho
  · exact hm e
  · rw [cell_of_heap h0] at e
    simp at e
    rcases h2.form with ⟨rfl, _⟩ | ⟨nb, rfl, _, _, cur, hc⟩
    · simp at e
    · simp at e
      obtain ⟨⟨rfl, _⟩, _⟩ := e
      rw [hc] at hk; cases hk; cases ho

theorem Run.mapLow {s : Nat} {w W : World} {ns ns' : List Nd} {dr : Int} {c k : Nat} (h : Run s w W ns ns' dr c) (hst : StoreAt w s ns dr) (he : W.cell? ⟨s, 1, none⟩ = some (.map (some k))) : k < w.heap.size := by
  rw [h.mv.keep] at he
  exact hst.own_lt (.inr (.inl he))

/-- A block that is no cells and lies where the loop has begun is not the store's. -/
theorem PM.notOwn (h : PM w s ns0 dr v n hg B11 B12 cv cs W ns c bel hs) (hst : StoreAt w s ns0 dr) {k : Nat} {o : Obj} (hk : W.heap[k]? = some o) (ho : o.isCells = false) (hB : w.heap.size ≤ k) : ¬ Own W s k :=
  h.run.seat.st.noCells hk ho (fun e => by have := h.run.mapLow hst e; omega)

theorem PM.own (hst : StoreAt w s ns0 dr) {L : Nat} (hL : B12 < L) : OwnFrom L (fun (_ : Unit) W => PM w s ns0 dr v n hg B11 B12 cv cs W ns c bel hs) := fun _ W W' row h hgr hr => by
  refine h.turned hgr (fun g e => ?_)
  obtain ⟨hge, o, hk, ho⟩ := hr g e
  obtain ⟨o1, o2, o3, o4, o5⟩ := h.ord
  refine ⟨by omega, h.notOwn hst hk ho (by omega), by omega, by omega, by omega, fun e2 => ?_⟩
  have := (o4 _ e2).2
  omega

/-- A call on the store keeps what the loop's law wants kept. -/
theorem PM.keeps (h : PM w s ns0 dr v n hg B11 B12 cv cs W ns c bel hs) (hst : StoreAt w s ns0 dr) (k : Run s W W' ns ns' dr c') {L : Nat} (hL : w.heap.size ≤ L) : KeepsFrom L W W' :=
  ⟨k.mv.size, fun b o hB hb ho => (k.mv.block b (Array.getElem?_eq_some_iff.1 hb).1 (h.notOwn hst hb ho (by omega))).trans hb⟩

/-- The loop is about to begin. -/
theorem PM.begin {X Y : World} (run : Run s w X ns0 ns dr c) (b4 : Boxed X w.heap.size 25 (.pointer (some ⟨s, 0, none⟩))) (b5 : Boxed X (w.heap.size + 1) 22 v) (b8 : Boxed X (w.heap.size + 2) 30 (.slice (some ⟨hg, 0, none⟩) n n)) (b11 : Boxed X B11 30 cv)
    (fr : ∀ b, (b = w.heap.size ∨ b = w.heap.size + 1 ∨ b = w.heap.size + 2 ∨ b = B11) → ¬ Own X s b) (hrow : Own2 w.heap.size X s (.slice (some ⟨hg, 0, none⟩) n n) n (hs.map (Value.int .i64))) (crow : Own2 w.heap.size X s cv cs.length (cs.map (Value.int .i64)))
    (o1 : w.heap.size + 2 < B11) (o2 : B11 < hg) (o4 : ∀ g, cv.ownBlock = some g → w.heap.size + 2 < g ∧ g < B11) (o5 : 2 < w.heap.size) (len : hs.length = n) (k : Run s X Y ns ns' dr c') (t0 : Int) :
    PM w s ns0 dr v n hg B11 Y.heap.size cv cs (Y.alloc (.cells #[.int .i64 t0] 3)) ns' (c + c') t0 hs := by
  have hb : Below Y.heap.size Y (Y.alloc (.cells #[.int .i64 t0] 3)) := (Below.refl _ _).alloc (Nat.le_refl _) _
  have r1 := (run.trans k).after hb
  have hlt : ∀ b, (b = w.heap.size ∨ b = w.heap.size + 1 ∨ b = w.heap.size + 2 ∨ b = B11) → b < X.heap.size := fun b hb => by
    rcases hb with rfl | rfl | rfl | rfl
    · exact b4.lt
    · exact b5.lt
    · exact b8.lt
    · exact b11.lt
  have fr2 : ∀ b, (b = w.heap.size ∨ b = w.heap.size + 1 ∨ b = w.heap.size + 2 ∨ b = B11) → ¬ Own Y s b := fun b hb => k.mv.free (hlt b hb) (fr b hb)
  have hS := own_below1 k.seat.st.lt hb
  have hm : Moved s X (Y.alloc (.cells #[.int .i64 t0] 3)) := k.mv.trans (.ofBelow k.seat.st.lt hb)
  refine ⟨r1, (hm.block _ b4.lt (fr _ (by simp))).trans b4, (hm.block _ b5.lt (fr _ (by simp))).trans b5, (hm.block _ b8.lt (fr _ (by simp))).trans b8, (hm.block _ b11.lt (fr _ (by simp))).trans b11, Boxed.new Y 3 _, fun b hb2 ho => ?_, hrow.moved hm, crow.moved hm, ⟨o1, o2, ?_, o4, o5⟩, len⟩
  · have ho' := (hS b).1 ho
    rcases hb2 with e | e | e | e | e
    · exact fr2 b (by simp [e]) ho'
    · exact fr2 b (by simp [e]) ho'
    · exact fr2 b (by simp [e]) ho'
    · exact fr2 b (by simp [e]) ho'
    · have := k.seat.st.own_lt ho'; omega
  · have h1 := (hrow.own.lt hg rfl).2
    have h2 := k.mv.size
    omega

/-- What the loop's region reads. -/
theorem PM.four {cg m cc : Nat} (h : PM w s ns0 dr v n hg B11 B12 (.slice (some ⟨cg, 0, none⟩) m cc) cs W ns c bel hs) (hm : cs.length = m) {k : Nat} {y : Int} (hy : cs[k]? = some y) :
    W.cell? ⟨w.heap.size, 0, none⟩ = some (.pointer (some ⟨s, 0, none⟩)) ∧ W.cell? ⟨w.heap.size + 1, 0, none⟩ = some v ∧ W.cell? ⟨B11, 0, none⟩ = some (.slice (some ⟨cg, 0, none⟩) m cc) ∧ W.cell? ⟨cg, k, none⟩ = some (.int .i64 y) := by
  refine ⟨h.b4.cell, h.b5.cell, h.b11.cell, ?_⟩
  have hcrow := h.crow.own
  rw [← hm] at hcrow
  have hcc := hcrow.cellAt k (by have := (List.getElem?_eq_some_iff.1 hy).1; simp; omega)
  rw [hcc]
  simp [hy]

/-- The blocks that the iterator reads are there, and not the store's. -/
def QOk (q : Nat → Prop) (W : World) (s : Nat) : Prop := ∀ b, q b → b < W.heap.size ∧ ¬ Own W s b

theorem QOk.run {q : Nat → Prop} {A B : World} {x y : List Nd} {d : Int} {m : Nat} (h : QOk q A s) (k : Run s A B x y d m) : KpB q A B ∧ QOk q B s :=
  ⟨fun b hb => k.mv.block b (h b hb).1 (h b hb).2, fun b hb => ⟨Nat.lt_of_lt_of_le (h b hb).1 k.mv.size, k.mv.free (h b hb).1 (h b hb).2⟩⟩

theorem QOk.set {q : Nat → Prop} {A : World} {x : List Nd} {d : Int} (h : QOk q A s) (hst : StoreAt A s x d) {g : Nat} (hg : ¬ Own A s g) (hne : ∀ b, q b → b ≠ g) (j : Nat) (u : Value) : KpB q A (A.setCell ⟨g, j, none⟩ u) ∧ QOk q (A.setCell ⟨g, j, none⟩ u) s := by
  obtain ⟨_, h2⟩ := hst.keep (w' := A.setCell ⟨g, j, none⟩ u) (fun k hk => Below.heap_setCell _ _ _ _ (fun e => hg (by have e3 : k = g := e; rw [← e3]; exact hk)))
  exact ⟨fun b hb => Below.heap_setCell _ _ _ _ (hne b hb), fun b hb => ⟨by simpa [World.setCell] using (h b hb).1, fun ho => (h b hb).2 ((h2 b).1 ho)⟩⟩

theorem QOk.below {q : Nat → Prop} {A B : World} {x : List Nd} {d : Int} (h : QOk q A s) (hst : StoreAt A s x d) (hb : Below A.heap.size A B) : KpB q A B ∧ QOk q B s :=
  ⟨fun b hq => hb.block b (h b hq).1, fun b hq => ⟨Nat.lt_of_lt_of_le (h b hq).1 hb.size, fun ho => (h b hq).2 ((own_below1 hst.lt hb b).1 ho)⟩⟩

/-- Behind the loop. -/
theorem PM.close (h : PM w s ns0 dr v n hg B11 B12 cv cs W ns c bel hs) (hst : StoreAt w s ns0 dr) {D : Nat} (hD : B12 < D) {o : Obj} (o' : Obj) (hK : W.heap[D]? = some o) (ho : o.isCells = false) (vv : Value) :
    Run s w (((W.setCell ⟨w.heap.size + 1 + 1, 0, none⟩ vv).drew).putObj D o') ns0 ns dr c ∧ Own2 w.heap.size (((W.setCell ⟨w.heap.size + 1 + 1, 0, none⟩ vv).drew).putObj D o') s (.slice (some ⟨hg, 0, none⟩) n n) n (hs.map (Value.int .i64)) := by
  obtain ⟨o1, o2, o3, o4, o5⟩ := h.ord
  have g1 := grownBy_setCell' W (w.heap.size + 1 + 1) vv
  obtain ⟨r1, i1⟩ := h.run.grown g1 (fun g e => by cases e; exact ⟨by omega, h.fr _ (by simp)⟩) o5
  have q1 := h.hrow.kept g1 (fun g e e2 => by
    have e3 : hg = g := by simpa [Value.ownBlock] using e
    have e4 : g = w.heap.size + 1 + 1 := by simpa using e2
    omega) i1
  have r2 := r1.after ((Below.refl _ _).drew)
  have q2 := q1.moved (.ofBelow r1.seat.st.lt ((Below.refl _ _).drew))
  have hK2 : ((W.setCell ⟨w.heap.size + 1 + 1, 0, none⟩ vv).drew).heap[D]? = some o := (KeepsOthers.setCell W ⟨w.heap.size + 1 + 1, 0, none⟩ vv).same D _ hK ho
  have g3 := grownBy_putObj' ((W.setCell ⟨w.heap.size + 1 + 1, 0, none⟩ vv).drew) D o'
  have hno : ¬ Own ((W.setCell ⟨w.heap.size + 1 + 1, 0, none⟩ vv).drew) s D := r2.seat.st.noCells hK2 ho (fun e => by have := r2.mapLow hst e; omega)
  obtain ⟨r3, i3⟩ := r2.grown g3 (fun g e => by cases e; exact ⟨by omega, hno⟩) o5
  exact ⟨r3, q2.kept g3 (fun g e e2 => by
    have e3 : hg = g := by simpa [Value.ownBlock] using e
    have e4 : g = D := by simpa using e2
    omega) i3⟩

end Go.Proofs.YtmcjincgppddeaaDoor
