/-
  append of a whole slice of one-cell values to a slice of the call's own.
-/
import Derived.Test.YtjajgllkbchapaaTops
namespace Go.Proofs.Ytjajgllkbchapaa
open Go.RowKit
set_option linter.unusedSimpArgs false
set_option linter.unusedVariables false

/-- A slice that is only read, its values by val. -/
def Vals {α : Type} (val : α → Value) (w : World) (v : Value) (l : List α) : Prop := LowList w.heap.size w (fun u x => u = val x) v l

theorem Vals.below {α : Type} {val : α → Value} {w w' : World} {v : Value} {l : List α} (h : Vals val w v l) (hb : Below w.heap.size w w') : Vals val w' v l := LowList.below h hb

theorem run_append_vals {α : Type} {val : α → Value} (hv1 : ∀ x, (val x).oneCell' = true) {E TL bytes : Nat} {z : Value} (hinfo : (Try.prog.info? E).map (fun i => (i.zero, i.size, i.bytes)) = some (some z, 1, bytes)) (hzc : z.cells.size = 1) (hu : Try.prog.underlying TL = some (.slice E))
    (w : World) (ty : TypeId) (base : Nat) (v : Value) (n : Nat) (xs : List Value) (hown : w.ownsRow base E 1 v n xs) (vx : Value) (l : List α) (hx : Vals val w vx l)
    (h63 : n + l.length ≤ maxLen) (hb : (n + l.length) * bytes ≤ 140737488355328) (hbase : base ≤ w.heap.size) :
    ∃ v' w', (Builtin.append_ #[TL, TL] ty #[v, vx]).run Try.prog w = .ok v' w' ∧ w'.ownsRow base E 1 v' (n + l.length) (xs ++ l.map val) ∧ w.grownBy w' v.ownBlock ∧ (v'.ownBlock = v.ownBlock ∨ v'.ownBlock = some w.heap.size) := by
  obtain ⟨i0, hi, hz0, hz1, hz2⟩ := info_parts hinfo
  obtain ⟨a, cap, rfl, hl, hc⟩ := hx
  cases a with
  | none =>
    have hl0 : l = [] := by
      rcases Decidable.em (l.length = 0) with h | h
      · exact List.eq_nil_of_length_eq_zero h
      · obtain ⟨b, off, e, _⟩ := hc (by rintro rfl; simp at h)
        cases e
    subst hl0
    refine ⟨v, w, ?_, by simpa using hown, ⟨rfl, rfl, rfl, Nat.le_refl _, fun _ _ _ => rfl⟩, Or.inl rfl⟩
    rcases hown.2 with ⟨rfl, rfl⟩ | ⟨g, cap', cur, rfl, _, _, hnc, _⟩
    · simp [Builtin.append_, run_underlying hu, sizeOf, typeInfo, hi, Builtin.lenOf, Builtin.firstCells]
    · simp [Builtin.append_, run_underlying hu, sizeOf, typeInfo, hi, Builtin.lenOf, Builtin.firstCells, hnc, storeCells]
  | some ad =>
    obtain ⟨v', w', hr, h2, h3, h4, h5⟩ := run_append_own_at (P := Try.prog) w base TL ty E i0 z 1 bytes hu hi hz0 hz1 hz2 hzc (by decide) v n xs hown ad l.length cap (l.map val) (by simp) (fun j u hu => by
      have hne : l ≠ [] := by rintro rfl; simp at hu
      obtain ⟨b, off, e, _, hcell⟩ := hc hne
      cases e
      simp at hu
      obtain ⟨x, hx, rfl⟩ := hu
      have : (⟨b, off, none⟩ : Addr).add j = ⟨b, off + j, none⟩ := by unfold Addr.add; split <;> simp_all
      rw [this]
      obtain ⟨u, hu2, rfl⟩ := hcell j x hx
      exact hu2) (by intro u hu; simp at hu; obtain ⟨x, _, rfl⟩ := hu; exact hv1 x) h63 hb hbase
    exact ⟨v', w', hr, h2, h3, h5⟩

theorem step_append_vals {α : Type} {val : α → Value} (hv1 : ∀ x, (val x).oneCell' = true) {E TL bytes : Nat} {z : Value} (hinfo : (Try.prog.info? E).map (fun i => (i.zero, i.size, i.bytes)) = some (some z, 1, bytes)) (hzc : z.cells.size = 1) (hu : Try.prog.underlying TL = some (.slice E))
    {ops : Array Oper} {o : Oper} {a : Act} {w : World} {K : Act → World → Prop} {Q : Exit → Act → World → Prop} {X : Prop}
    (hg : o.guard = none) (s x : Operand) (hop : o.op = Op.call { callee := Callee.builtin Builtin.append, args := #[s, x], argTypes := #[TL, TL] })
    (base : Nat) (v : Value) (n : Nat) (xs : List Value) (hs : a.eval s = v) (hown : w.ownsRow base E 1 v n xs) (vx : Value) (l : List α) (hxx : a.eval x = vx) (hx : Vals val w vx l)
    (h63 : n + l.length ≤ maxLen) (hb : (n + l.length) * bytes ≤ 140737488355328) (hbase : base ≤ w.heap.size)
    (hK : ∀ v' w', w'.ownsRow base E 1 v' (n + l.length) (xs ++ l.map val) → w.grownBy w' v.ownBlock → (v'.ownBlock = v.ownBlock ∨ v'.ownBlock = some w.heap.size) → K (a.put o.dst v') w') :
    if Region.wanted o (yielded ops a.tmps) = true then Oper.wp Try.prog o a w K Q else X := by
  have hw : Region.wanted o (yielded ops a.tmps) = true := by simp [Region.wanted, hg]
  rw [if_pos hw]
  obtain ⟨v', w', hrun, r1, r2, r4⟩ := run_append_vals hv1 hinfo hzc hu w o.type base v n xs hown vx l hx h63 hb hbase
  unfold Oper.wp
  simp [execOp, hop, resolve, invoke, builtin, hs, hxx, hrun, Result.andThen]
  exact hK v' w' r1 r2 r4

theorem wpList_append_vals {α : Type} {val : α → Value} (hv1 : ∀ x, (val x).oneCell' = true) {E TL bytes : Nat} {z : Value} (hinfo : (Try.prog.info? E).map (fun i => (i.zero, i.size, i.bytes)) = some (some z, 1, bytes)) (hzc : z.cells.size = 1) (hu : Try.prog.underlying TL = some (.slice E))
    (w : World) {ops : Array Oper} {rest : List Oper} {o : Oper} {a : Act} {Q : Exit → Act → World → Prop} (hgd : o.guard = none) (s x : Operand)
    (ho : o.op = .call { callee := .builtin .append, args := #[s, x], argTypes := #[TL, TL] })
    (base : Nat) (v : Value) (n : Nat) (xs : List Value) (hs : a.eval s = v) (hown : w.ownsRow base E 1 v n xs) (vx : Value) (l : List α) (hx : a.eval x = vx) (hi : Vals val w vx l)
    (h63 : n + l.length ≤ maxLen) (hb : (n + l.length) * bytes ≤ 140737488355328) (hbase : base ≤ w.heap.size)
    (h : ∀ v' w', w'.ownsRow base E 1 v' (n + l.length) (xs ++ l.map val) → w.grownBy w' v.ownBlock → (v'.ownBlock = v.ownBlock ∨ v'.ownBlock = some w.heap.size) → wpList Try.prog ops Q rest (a.put o.dst v') w') :
    wpList Try.prog ops Q (o :: rest) a w := by
  refine wpList_plain hgd fun K hK => ?_
  obtain ⟨v', w', hr, h2, h3, h5⟩ := run_append_vals hv1 hinfo hzc hu w o.type base v n xs hown vx l hi h63 hb hbase
  unfold Oper.wp execOp
  simp only [ho, resolve, invoke, builtin, Sem.run_bind, Sem.run_pure, Result.andThen_ok, List.map_toArray, List.map_cons, List.map_nil, hs, hx, hr]
  exact hK _ _ (h v' w' h2 h3 h5)

/-- A row of the call's own, read. -/
theorem vals_row {α : Type} {val : α → Value} (hv1 : ∀ x, (val x).oneCell' = true) {w : World} {base E : Nat} {v : Value} {l : List α} (h : w.ownsRow base E 1 v l.length (l.map val)) : Vals val w v l := by
  refine Row.low (rep := fun _ u x => u = val x) (E := E) (base := base) ⟨l.map val, h, ?_, ?_⟩ fun _ _ h => h
  · intro u hu
    simp at hu
    obtain ⟨x, _, rfl⟩ := hu
    exact hv1 x
  · intro i u a hu ha
    simp [ha] at hu
    exact hu.symm

theorem row_empty (w : World) (E : Nat) : (w.alloc (.cells #[] E)).ownsRow w.heap.size E 1 (.slice (some ⟨w.heap.size, 0, none⟩) 0 0) 0 [] :=
  World.ownsRow_made w #[] 0 (Nat.le_refl _) (by unfold maxLen; omega) rfl

theorem app_done {α : Type} {val : α → Value} (hv1 : ∀ x, (val x).oneCell' = true) {w4 W w5 : World} {E : Nat} {l : List α} {v5 : Value} (hW : Below w4.heap.size w4 W) (ho : w5.ownsRow w4.heap.size E 1 v5 (0 + l.length) ([] ++ l.map val))
    (hg : W.grownBy w5 (Value.slice (some ⟨w4.heap.size, 0, none⟩) 0 0).ownBlock) : Below w4.heap.size w4 w5 ∧ Vals val w5 v5 l := by
  refine ⟨hW.grown hg hW.size (fun k hk => by simp [Value.ownBlock] at hk; omega), vals_row hv1 (base := w4.heap.size) (E := E) ?_⟩
  simpa using ho

theorem step_call2 {P : Program} {ops : Array Oper} {o : Oper} {a : Act} {w : World} {K : Act → World → Prop} {Q : Exit → Act → World → Prop} {E : Prop}
    (hg : o.guard = none) (N : FuncId) (x y : Operand) (ts : Array TypeId) (hop : o.op = Op.call { callee := .value (.func N), args := #[x, y], argTypes := ts })
    (hent : ∀ vs w, (callFunc N vs).run P w = .ok (.enter N vs) w) (vx vy : Value) (hx : a.eval x = vx) (hy : a.eval y = vy)
    (hc : Calls P N #[vx, vy] w fun e w' => ∃ v, e = .returned v ∧ K (a.put o.dst v) w') :
    if Region.wanted o (yielded ops a.tmps) = true then Oper.wp P o a w K Q else E :=
  step_call hg N #[x, y] ts hop hent #[vx, vy] (by simp [hx, hy]) hc

theorem Vals.isI {w : World} {v : Value} {l : List Int} (h : Vals (Value.int .i64) w v l) : LowList w.heap.size w isI v l := h
theorem Vals.isB {w : World} {v : Value} {l : List Bool} (h : Vals Value.bool w v l) : LowList w.heap.size w isB v l := h
theorem Vals.isS {w : World} {v : Value} {l : List ByteArray} (h : Vals Value.string w v l) : LowList w.heap.size w isS v l := h

theorem int_one1 (x : Int) : (Value.int .i64 x).oneCell' = true := rfl
theorem bool_one1 (x : Bool) : (Value.bool x).oneCell' = true := rfl
theorem str_one1 (x : ByteArray) : (Value.string x).oneCell' = true := rfl

end Go.Proofs.Ytjajgllkbchapaa
