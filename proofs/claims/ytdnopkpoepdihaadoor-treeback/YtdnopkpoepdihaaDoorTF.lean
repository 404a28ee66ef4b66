/-
  Copies of trees: package tree's copied.
-/
import Derived.Test.YtdnopkpoepdihaaDoorTE
namespace Go.Proofs.YtdnopkpoepdihaaDoor
open Go.RowKit
set_option linter.unusedSimpArgs false
set_option linter.unusedVariables false

set_option maxRecDepth 100000 in
set_option maxHeartbeats 2000000 in
theorem copied_any {w : World} {v : Value} {t : Tree} (ht : TreeAt w v t) (hne : 0 < t.length) (hl : t.length ≤ 255) (hlate : ∀ (x : Nat) (u : PV), t[x]? = some u → u.late.length ≤ 64) :
    Calls Tryd.prog 62 #[v] w fun e w' => ∃ v' hs, e = .returned v' ∧ OwnT w.heap.size w' v' t hs t.length ∧ Below w.heap.size w w' := by
  go_enter Tryd.func62, Tryd.ntmps62
  go_wp2_with fail
  refine (clone_any ht hne hl).mono ?_
  rintro e w1 ⟨v1, hs1, rfl, o1, b1⟩
  obtain ⟨g, cap, rfl, hgB, hgl⟩ := o1.form hne
  have htl : (t.length : Int) ≤ 255 := by omega
  go_wp2_with fail
  go_loopw [9] (fun k wr => ∃ (j : Nat) (hs : List Value), j ≤ t.length ∧ k = .int .i64 j ∧ OwnT w.heap.size wr (.slice (some ⟨g, 0, none⟩) t.length cap) t hs j ∧ Below w.heap.size w wr) (fun k _ => t.length - (intOf k).toNat)
  case atStart => exact ⟨0, hs1, Nat.zero_le _, rfl, o1, b1⟩
  case round =>
    obtain ⟨j, hs, hj, rfl, ho, hB⟩ := hrel
    have hsz := hB.size
    by_cases hlt : j < t.length
    · obtain ⟨b, off, cap2, hd, rfl, hbl, hv⟩ := (ht.below hB).get (vx_some (t := t) hlt)
      have c5 := hv.c5
      obtain ⟨a, ha⟩ := ho.head hlt
      have cg := (ho.vat (vx_some hlt) ha).2.2.2.2.2
      have hll := hlate j _ (vx_some hlt)
      have i1 : (j : Int) < (t.length : Int) := by omega
      obtain ⟨v2, w2, hr2, o2, g2, l2⟩ := run_append_ints wr 22 w.heap.size (.slice none 0 0) 0 [] (World.ownsRow_nil _ _ _ _) hd _ hv.late (by unfold maxLen; omega) (by omega) hsz
      obtain ⟨qa, qc, hv2, _⟩ := ownsRow_ints (l := (vx t j).late) (base := w.heap.size) (v := v2) (w := w2) (by simpa using o2) (by omega)
      subst hv2
      have b2 := hB.grown g2 hsz (fun k hk => by simp [Value.ownBlock] at hk)
      obtain ⟨q1, q2⟩ := ho.setL hj hlt ha (vx_some hlt) (vx t j).late (a' := _) (w1 := w2) (by rw [if_neg (by omega)]; exact g2) (by simpa [OwnI] using o2) (.inr (by rcases l2 with h | h; exact .inl h; exact .inr ⟨_, h, Nat.le_refl _⟩)) (j + 1) (.inr ⟨rfl, rfl⟩) (by omega)
      have et : t.set j { vx t j with late := (vx t j).late } = t := by
        apply List.ext_getElem?
        intro i
        by_cases h : i = j
        · subst h; rw [List.getElem?_set_self hlt, vx_some hlt]
        · rw [List.getElem?_set_ne (by omega)]
      rw [et] at q1
      have Hq : Hid (OwnT w.heap.size (w2.setCell ⟨g, j * 6 + 5, none⟩ (.slice qa (vx t j).late.length qc)) (.slice (some ⟨g, 0, none⟩) t.length cap) t (hs.set j (.slice qa (vx t j).late.length qc)) (j + 1)) := q1
      have Hb : Hid (Below w.heap.size w (w2.setCell ⟨g, j * 6 + 5, none⟩ (.slice qa (vx t j).late.length qc))) := b2.setCell (p := ⟨g, j * 6 + 5, none⟩) hgB _
      have cg2 : w2.cell? ⟨g, j * 6 + 5, none⟩ = some a := g2.cell cg (by simp [Value.ownBlock])
      have fz2 : w2.frozen? ⟨g, j * 6 + 5, none⟩ = false := (World.frozen?_of_block (g2.block g (by obtain ⟨g', c', e, _, hlt'⟩ := ho.form hne; cases e; exact hlt') (by simp [Value.ownBlock]))).trans (ho.row.frozenAt _)
      clear q1 ho hv q2
      go_wp2_with (refine Lib.wpList_append_run _ rfl (.const (.slice none 0 0)) (.tmp 18) 22 22 rfl (.slice none 0 0) hd rfl rfl _ _ hr2 ?_)
      go_roundw
      case rel => exact ⟨j + 1, _, by omega, by go_num, Hq.out, Hb.out⟩
      case measure => simp [intOf]; omega
    · have e : j = t.length := by omega
      subst e
      go_wp2_with fail
      go_ret
      exact ⟨_, _, rfl, ho, hB⟩

end Go.Proofs.YtdnopkpoepdihaaDoor
