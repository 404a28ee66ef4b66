/-
  The document's answers that read a tree: which leaves are full, the members, whether the right half is · The document's copy of a tree · The document's Update and Remove · A number put into a rising list, by the document · A leaf added, by the document.
-/
import Derived.Test.YtmcjincgppddeaaDoorTW
import Derived.Deep.AppendLies
namespace Go.Proofs.YtmcjincgppddeaaDoor
open Go.RowKit 
set_option linter.unusedSimpArgs false
set_option linter.unusedVariables false

set_option maxHeartbeats 1000000 in
theorem refFull_any {w : World} {v : Value} {t : Tree} (ht : TreeAt w v t) (hs : Sh t) (i : Int) :
    Calls Tryd.prog 23 #[v, .int .i64 i] w fun e w' => e = .returned (.bool (fullB t i)) ∧ w' = w := by
  have hb := hs.bounds
  by_cases h0 : 0 ≤ i
  · by_cases h1 : i < lv t
    · obtain ⟨k, rfl⟩ : ∃ k : Nat, i = k := ⟨i.toNat, by omega⟩
      obtain ⟨b, off, cap, hd, rfl, hbl, hv⟩ := ht.get (vx_some (t := t) (x := 2 * k) (by omega))
      have c0 := hv.c0
      have e1 : fullB t k = (vx t (2 * k)).full := by simp [fullB]; intro _; omega
      rw [e1]
      have hlt : (2 * (k : Int)) < t.length := by omega
      have i1 : (lv t : Int) ≤ 32 := by omega
      go_enter Tryd.func23, Tryd.ntmps23
      go_wp2_with (go_at_call 29; refine (refLeaves_any ht).mono ?_; rintro e w' ⟨rfl, hw⟩; obtain rfl := hw.symm)
      go_ret
      exact ⟨rfl, rfl⟩
    · have e1 : fullB t i = false := by simp [fullB]; omega
      rw [e1]
      go_enter Tryd.func23, Tryd.ntmps23
      go_wp2_with (go_at_call 29; refine (refLeaves_any ht).mono ?_; rintro e w' ⟨rfl, hw⟩; obtain rfl := hw.symm)
      go_ret
      exact ⟨rfl, rfl⟩
  · have e1 : fullB t i = false := by simp [fullB]; omega
    rw [e1]
    go_enter Tryd.func23, Tryd.ntmps23
    go_wp2_with fail
    go_ret
    exact ⟨rfl, rfl⟩

set_option maxRecDepth 100000 in
set_option maxHeartbeats 2000000 in
theorem refTight_any {w : World} {v : Value} {t : Tree} (ht : TreeAt w v t) (hs : Sh t) :
    Calls Tryd.prog 62 #[v] w fun e w' => e = .returned (.bool (tightB t)) ∧ w' = w := by
  have hb := hs.bounds
  have i1 : (lv t : Int) ≤ 32 := by omega
  go_enter Tryd.func62, Tryd.ntmps62
  go_wp2_with (go_at_call 29; refine (refLeaves_any ht).mono ?_; rintro e w' ⟨rfl, hw⟩; obtain rfl := hw.symm)
  go_loop [4] (fun q => ∃ j : Nat, lv t / 2 ≤ j ∧ j ≤ lv t ∧ q = .int .i64 j ∧ Hid (∀ i, lv t / 2 ≤ i → i < j → isF t i = false)) (fun q => lv t - (intOf q).toNat)
  case atStart => exact ⟨lv t / 2, Nat.le_refl _, by omega, by go_num, fun i h1 h2 => by omega⟩
  case round =>
    obtain ⟨j, hj0, hj, rfl, HN⟩ := hrel
    by_cases hlt : j < lv t
    · have i2 : (j : Int) < (lv t : Int) := by omega
      have hff := refFull_any ht hs j
      cases hf : fullB t j with
      | true =>
        have HT : Hid (tightB t = true) := from_iff.2 ⟨j, hj0, hlt, by simp [fullB] at hf; exact hf.2⟩
        rw [hf] at hff
        go_wp2_with (go_at_call 23; refine hff.mono ?_; rintro e w' ⟨rfl, hw⟩; obtain rfl := hw.symm)
        go_ret
        exact ⟨by rw [HT.out]; rfl, rfl⟩
      | false =>
        have HN2 : Hid (∀ i, lv t / 2 ≤ i → i < j + 1 → isF t i = false) := fun i h1 h2 => by
          rcases Nat.lt_or_ge i j with h | h
          · exact HN.out i h1 h
          · have : i = j := by omega
            subst this
            rw [isF_fullB]; exact hf
        rw [hf] at hff
        go_wp2_with (go_at_call 23; refine hff.mono ?_; rintro e w' ⟨rfl, hw⟩; obtain rfl := hw.symm)
        exact ⟨⟨j + 1, by omega, by omega, by go_num, HN2⟩, by simp [intOf]; omega⟩
    · have HT : Hid (tightB t = false) := by
        show _ = _
        cases hq : tightB t with
        | false => rfl
        | true =>
          obtain ⟨i, h1, h2, h3⟩ := from_iff.1 hq
          have := HN.out i h1 (by omega)
          simp [isF, h2, h3] at this
      go_wp2_with fail
      all_goals go_ret
      all_goals exact ⟨by rw [HT.out]; rfl, rfl⟩

theorem OwnT.push {B : Nat} {w w1 w3 : World} {v v' a : Value} {t : Tree} {hs : List Value} {u : PV} (h : OwnT B w v t hs t.length) (hg1 : w.grownBy w1 none) (ha : OwnI B w1 a u.late) (hfa : a.ownBlock = none ∨ ∃ N, a.ownBlock = some N ∧ w.heap.size ≤ N)
    (hr : w3.ownsRow B 47 6 v' (t.length + 1) (flatV t hs ++ vcells u a)) (hg3 : w1.grownBy w3 v.ownBlock) (hv' : v'.ownBlock = v.ownBlock ∨ ∃ N, v'.ownBlock = some N ∧ w1.heap.size ≤ N) : OwnT B w3 v' (t ++ [u]) (hs ++ [a]) (t.length + 1) := by
  have hl := h.len
  have vlt : ∀ k, v.ownBlock = some k → k < w.heap.size := fun k hk => (h.row.lt k hk).2
  have alt : ∀ k, a.ownBlock = some k → k < w1.heap.size := fun k hk => (ha.lt k hk).2
  have blt : ∀ (x : Nat) (b : Value) (k : Nat), hs[x]? = some b → b.ownBlock = some k → k < w.heap.size := fun x b k hb hk => by
    have hx : x < t.length := by rw [← hl]; exact (List.getElem?_eq_some_iff.1 hb).1
    exact ((h.late x _ b hx (vx_some hx) hb).lt k hk).2
  have hs1 := hg1.size
  have get : ∀ (x : Nat) (b : Value), (hs ++ [a])[x]? = some b → (x < t.length ∧ hs[x]? = some b) ∨ (x = t.length ∧ b = a) := by
    intro x b hb
    by_cases hx : x < t.length
    · exact .inl ⟨hx, by rwa [List.getElem?_append_left (by omega)] at hb⟩
    · have hxl := (List.getElem?_eq_some_iff.1 hb).1
      simp at hxl
      have : x = t.length := by omega
      subst this
      rw [List.getElem?_append_right (by omega), hl] at hb
      simp at hb
      exact .inr ⟨rfl, hb.symm⟩
  refine ⟨by simp [hl], ?_, fun x c b hx hc hb => ?_, fun x b k hx hb hk => ?_⟩
  · rw [flatV_append t hs [u] [a] hl]
    simpa [flatV] using hr
  · rcases get x b hb with ⟨hx2, hb2⟩ | ⟨rfl, rfl⟩
    · rw [List.getElem?_append_left hx2] at hc
      refine ((h.late x c b hx2 hc hb2).kept hg1 (by cases b.ownBlock <;> simp)).kept hg3 ?_
      cases hbo : b.ownBlock with
      | none => exact .inl rfl
      | some k => exact .inr (fun e => (h.apart x b k hx2 hb2 hbo).1 e.symm)
    · rw [List.getElem?_append_right (by omega)] at hc
      simp at hc
      subst hc
      refine ha.kept hg3 ?_
      cases hbo : b.ownBlock with
      | none => exact .inl rfl
      | some k =>
        refine .inr (fun e => ?_)
        have h1 := vlt k e.symm
        rcases hfa with h2 | ⟨N, h2, h3⟩
        · rw [h2] at hbo; cases hbo
        · rw [h2] at hbo; cases hbo; omega
  · rcases get x b hb with ⟨hx2, hb2⟩ | ⟨rfl, rfl⟩
    · obtain ⟨p1, p2⟩ := h.apart x b k hx2 hb2 hk
      have hkl := blt x b k hb2 hk
      refine ⟨fun e => ?_, fun y c hy hyx hc e => ?_⟩
      · rcases hv' with h1 | ⟨N, h1, h2⟩
        · exact p1 (h1 ▸ e)
        · rw [h1] at e; cases e; omega
      · rcases get y c hc with ⟨hy2, hc2⟩ | ⟨rfl, rfl⟩
        · exact p2 y c hy2 hyx hc2 e
        · rcases hfa with h2 | ⟨N, h2, h3⟩
          · rw [h2] at e; cases e
          · rw [h2] at e; cases e; omega
    · have hN : w.heap.size ≤ k := by
        rcases hfa with h2 | ⟨N, h2, h3⟩
        · rw [h2] at hk; cases hk
        · rw [h2] at hk; cases hk; exact h3
      have hk1 := alt k hk
      refine ⟨fun e => ?_, fun y c hy hyx hc e => ?_⟩
      · rcases hv' with h1 | ⟨N, h1, h2⟩
        · have := vlt k (h1 ▸ e); omega
        · rw [h1] at e; cases e; omega
      · rcases get y c hc with ⟨hy2, hc2⟩ | ⟨rfl, rfl⟩
        · have := blt y c k hc2 e; omega
        · exact hyx rfl

theorem rowI_empty (w : World) {B : Nat} (hB : B ≤ w.heap.size) : (w.alloc (.cells #[] 3)).ownsRow B 3 1 (.slice (some ⟨w.heap.size, 0, none⟩) 0 0) 0 [] :=
  World.ownsRow_made w #[] 0 hB (by unfold maxLen; omega) rfl

set_option maxRecDepth 100000 in
set_option maxHeartbeats 4000000 in
theorem refCopy_any {w : World} {v : Value} {t : Tree} (ht : TreeAt w v t) (hl : t.length ≤ 255) (hlate : ∀ (x : Nat) (u : PV), t[x]? = some u → u.late.length * 8 ≤ 140737488355328) :
    Calls Tryd.prog 12 #[v] w fun e w' => ∃ v' hs, e = .returned v' ∧ OwnT w.heap.size w' v' t hs t.length ∧ Below w.heap.size w w' := by
  obtain ⟨i0, hi, hz0, hz1, hz2⟩ := info_parts Tryd.infoV
  obtain ⟨va, vcap, rfl, _⟩ := id ht
  have htl : (t.length : Int) ≤ 255 := by omega
  go_enter Tryd.func12, Tryd.ntmps12
  go_wp2_with fail
  go_loopw [3, 4] (fun c k wr => ∃ (j : Nat) (hs : List Value), j ≤ t.length ∧ k = .int .i64 j ∧ OwnT w.heap.size wr c (t.take j) hs j ∧ Below w.heap.size w wr) (fun _ k _ => t.length - (intOf k).toNat)
  case atStart => exact ⟨0, [], Nat.zero_le _, rfl, ⟨by simp, by simpa [flatV] using World.ownsRow_nil w w.heap.size 47 6, fun x u h hx => by omega, fun x h k hx => by omega⟩, Below.refl _ _⟩
  case round =>
    obtain ⟨j, hs, hj, rfl, ho, hB⟩ := hrel
    have hsz := hB.size
    have hjl : (t.take j).length = j := by rw [List.length_take]; omega
    by_cases hlt : j < t.length
    · obtain ⟨b, off, cap2, hd, hve, hbl, hv⟩ := (ht.below hB).get (vx_some (t := t) hlt)
      cases hve
      obtain ⟨c0, c1, c2, c3, c4, c5, hli⟩ := hv
      have hll := hlate j _ (vx_some hlt)
      have i1 : (j : Int) < (t.length : Int) := by omega
      have htk : t.take (j + 1) = t.take j ++ [vx t j] := by rw [List.take_add_one, vx_some hlt]; rfl
      obtain ⟨u, hu⟩ : ∃ u, vx t j = u := ⟨_, rfl⟩
      rw [hu] at c0 c1 c2 c3 c4 hli hll htk
      obtain ⟨qd, pd, hhd, _⟩ := id hli
      subst hhd
      -- the vertex's own variable, then an empty list
      obtain ⟨W1, hW1⟩ : ∃ W1, wr.alloc (.cells (leafCells u (.slice qd u.late.length pd)) 47) = W1 := ⟨_, rfl⟩
      have h1b : Below wr.heap.size wr W1 := by rw [← hW1]; exact (Below.refl _ _).alloc (Nat.le_refl _) _
      have h1s : W1.heap.size = wr.heap.size + 1 := by rw [← hW1]; simp
      have h1h : W1.heap[wr.heap.size]? = some (.cells (leafCells u (.slice qd u.late.length pd)) 47) := by rw [← hW1]; exact heap_alloc_new wr _
      obtain ⟨W2, hW2⟩ : ∃ W2, W1.alloc (.cells #[] 3) = W2 := ⟨_, rfl⟩
      have h2b : Below W1.heap.size W1 W2 := by rw [← hW2]; exact (Below.refl _ _).alloc (Nat.le_refl _) _
      have h2r : W2.ownsRow w.heap.size 3 1 (.slice (some ⟨W1.heap.size, 0, none⟩) 0 0) 0 [] := by rw [← hW2]; exact rowI_empty W1 (by omega)
      have h2s : W2.heap.size = W1.heap.size + 1 := by rw [← hW2]; simp
      have b12 := on h1b h2b
      obtain ⟨v2, w2, hr2, o2, g2, l2⟩ := run_append_ints W2 30 w.heap.size _ 0 [] h2r _ u.late (hli.below b12) (by unfold maxLen; omega) (by omega) (by omega)
      obtain ⟨qa, qc, hv2, _⟩ := ownsRow_ints (l := u.late) (base := w.heap.size) (v := v2) (w := w2) (by simpa using o2) (by omega)
      subst hv2
      have h2h : w2.heap[wr.heap.size]? = some (.cells (leafCells u (.slice qd u.late.length pd)) 47) := (g2.block _ (by omega) (by simp [Value.ownBlock]; omega)).trans ((h2b.block _ (by omega)).trans h1h)
      have e2 : ∀ j, w2.cell? ⟨wr.heap.size, j, none⟩ = (leafCells u (.slice qd u.late.length pd))[j]? := fun j => (World.cell?_of_block (w := w2) (w' := w2) rfl).trans (by simp [World.cell?, h2h])
      have f2 : ∀ j, w2.frozen? ⟨wr.heap.size, j, none⟩ = false := fun j => by simp [World.frozen?, h2h]
      have d0 := e2 0
      have d1 := e2 1
      have d2 := e2 2
      have d3 := e2 3
      have d4 := e2 4
      have d5 := e2 5
      have f5 := f2 5
      simp [leafCells] at d0 d1 d2 d3 d4 d5
      have c5' : W2.cell? ⟨b, off + j * 6 + 5, none⟩ = some (.slice qd u.late.length pd) := (b12.cell (p := ⟨b, off + j * 6 + 5, none⟩) hbl).trans c5
      have bw2 : Below wr.heap.size wr w2 := b12.grown g2 b12.size (fun k hk => by simp [Value.ownBlock] at hk; omega)
      have hsz2 := bw2.size
      have hset : (w2.setCell ⟨wr.heap.size, 5, none⟩ (.slice qa u.late.length qc)).heap.size = w2.heap.size := by simp
      have bW5 : Below wr.heap.size wr ((w2.setCell ⟨wr.heap.size, 5, none⟩ (.slice qa u.late.length qc)).alloc (.cells #[.bool u.full, .int .i64 u.key, .int .i64 u.client, .int .i64 u.sig, .int .i64 u.hash, .slice qa u.late.length qc] 47)) := (bw2.setCell (p := ⟨wr.heap.size, 5, none⟩) (Nat.le_refl _) _).alloc (by rw [hset]; exact hsz2) _
      have hro : ((w2.setCell ⟨wr.heap.size, 5, none⟩ (.slice qa u.late.length qc)).alloc (.cells #[.bool u.full, .int .i64 u.key, .int .i64 u.client, .int .i64 u.sig, .int .i64 u.hash, .slice qa u.late.length qc] 47)).ownsRow w.heap.size 47 6 u3 (t.take j).length (flatV (t.take j) hs) := row_below ho.row bW5
      rw [hjl] at hro
      have hnew := heap_alloc_new (w2.setCell ⟨wr.heap.size, 5, none⟩ (.slice qa u.late.length qc)) (.cells #[.bool u.full, .int .i64 u.key, .int .i64 u.client, .int .i64 u.sig, .int .i64 u.hash, .slice qa u.late.length qc] 47)
      rw [hset] at hnew
      obtain ⟨v7, w7, hr7, o7, g7, _, l7⟩ := run_append_own_at (P := Tryd.prog) _ w.heap.size 22 22 47 i0 (.agg #[.bool false, .int .i64 0, .int .i64 0, .int .i64 0, .int .i64 0, .slice none 0 0]) 6 64 Tryd.underlying22 hi hz0 hz1 hz2 rfl (by decide) u3 j _ hro ⟨w2.heap.size, 0, none⟩ 1 1 (vcells u (.slice qa u.late.length qc)) (by simp [vcells]) (World.news_of_block hnew) (vcells_one u rfl) (by unfold maxLen; omega) (by omega) (Nat.le_trans hsz bW5.size)
      have oA : OwnI w.heap.size ((w2.setCell ⟨wr.heap.size, 5, none⟩ (.slice qa u.late.length qc)).alloc (.cells #[.bool u.full, .int .i64 u.key, .int .i64 u.client, .int .i64 u.sig, .int .i64 u.hash, .slice qa u.late.length qc] 47)) (.slice qa u.late.length qc) u.late := by
        have o2' : OwnI w.heap.size w2 (.slice qa u.late.length qc) u.late := by simpa [OwnI] using o2
        have gset : w2.grownBy (w2.setCell ⟨wr.heap.size, 5, none⟩ (.slice qa u.late.length qc)) (some wr.heap.size) := ⟨rfl, rfl, rfl, by simp, fun k _ hk => Below.heap_setCell _ _ _ k (fun e => hk (by rw [e]))⟩
        refine World.ownsRow.alloc (World.ownsRow.kept o2' gset (.inr (fun e => ?_))) _
        rcases l2 with h | h
        · rw [h] at e; simp [Value.ownBlock] at e; omega
        · rw [h] at e; simp at e; omega
      have hfA : (Value.slice qa u.late.length qc).ownBlock = none ∨ ∃ N, (Value.slice qa u.late.length qc).ownBlock = some N ∧ wr.heap.size ≤ N := by
        rcases l2 with h | h
        · exact .inr ⟨W1.heap.size, by rw [h]; rfl, by omega⟩
        · exact .inr ⟨_, h, by omega⟩
      have ho' : OwnT w.heap.size wr u3 (t.take j) hs (t.take j).length := by rw [hjl]; exact ho
      have hpush := ho'.push (Below.grownNone bW5) oA hfA (by rw [hjl]; exact o7) g7 (by rcases l7 with h | h; exact .inl h; exact .inr ⟨_, h, Nat.le_refl _⟩)
      rw [← htk, hjl] at hpush
      have HP : Hid (OwnT w.heap.size w7 v7 (t.take (j + 1)) (hs ++ [.slice qa u.late.length qc]) (j + 1)) := hpush
      have B7 := (hB.trans (bW5.mono hsz)).grown g7 (Nat.le_trans hsz bW5.size) (fun k hk => (ho.row.lt k hk).1)
      simp only [leafCells] at hW1
      clear e2 f2 h2h h1h hli hpush ho' hro hnew
      rw [h1s] at hr2
      go_wp2_with first
        | rw [hW1]
        | rw [hW2]
        | (refine Lib.wpList_append_run _ rfl (.tmp 16) (.tmp 21) 30 30 rfl (.slice (some ⟨wr.heap.size + 1, 0, none⟩) 0 0) (.slice qd u.late.length pd) rfl rfl _ _ hr2 ?_)
        | (refine Lib.wpList_append_run _ rfl (.tmp 24) (.tmp 26) 22 22 rfl u3 (.slice (some ⟨w2.heap.size, 0, none⟩) 1 1) rfl rfl v7 w7 hr7 ?_)
      go_roundw
      case rel => exact ⟨j + 1, _, by omega, by go_num, HP.out, B7⟩
      case measure => simp [intOf]; omega
    · have e : j = t.length := by omega
      subst e
      rw [List.take_length] at ho
      have i1 : ¬ ((t.length : Int) < (t.length : Int)) := by omega
      go_wp2_with fail
      go_ret
      first | exact ⟨_, _, rfl, ho, hB⟩ | exact ⟨_, rfl, ⟨_, ho⟩, hB⟩ | exact ⟨⟨_, ho⟩, hB⟩

end Go.Proofs.YtmcjincgppddeaaDoor

namespace Go.Proofs.YtmcjincgppddeaaDoor
open Go.RowKit 
set_option linter.unusedSimpArgs false
set_option linter.unusedVariables false



end Go.Proofs.YtmcjincgppddeaaDoor

namespace Go.Proofs.YtmcjincgppddeaaDoor
open Go.RowKit 
set_option linter.unusedSimpArgs false
set_option linter.unusedVariables false



end Go.Proofs.YtmcjincgppddeaaDoor

namespace Go.Proofs.YtmcjincgppddeaaDoor
open Go.RowKit 
set_option linter.unusedSimpArgs false
set_option linter.unusedVariables false



end Go.Proofs.YtmcjincgppddeaaDoor
