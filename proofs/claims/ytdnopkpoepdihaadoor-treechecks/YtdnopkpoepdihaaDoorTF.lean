/-
  Copies of trees: slices.Clone of vertices, package tree's copied · Copies of trees: package tree's copied.
-/
import Derived.Test.YtdnopkpoepdihaaDoorTD
namespace Go.Proofs.YtdnopkpoepdihaaDoor
open Go.RowKit
set_option linter.unusedSimpArgs false
set_option linter.unusedVariables false

theorem Tryd.infoV : (Tryd.prog.info? 24).map (fun i => (i.zero, i.size, i.bytes)) = some (some (.agg #[.bool false, .int .i64 0, .int .i64 0, .int .i64 0, .int .i64 0, .slice none 0 0]), 6, 64) := by kernel_rfl

/-- The Lates' heads of a row. -/
def headsOf (w : World) (b off n : Nat) : List Value := (List.range n).map fun x => (w.cell? ⟨b, off + x * 6 + 5, none⟩).getD undef
theorem headsOf_len (w : World) (b off n : Nat) : (headsOf w b off n).length = n := by simp [headsOf]
theorem headsOf_get {w : World} {b off n x : Nat} (hx : x < n) {h : Value} (hc : w.cell? ⟨b, off + x * 6 + 5, none⟩ = some h) : (headsOf w b off n)[x]? = some h := by
  simp [headsOf, hx, hc]

theorem vcells_one (u : PV) {h : Value} (hh : h.oneCell' = true) : ∀ c ∈ vcells u h, c.oneCell' = true := by
  intro c hc
  simp [vcells] at hc
  rcases hc with rfl | rfl | rfl | rfl | rfl | rfl <;> first | rfl | exact hh

theorem slice_one {w : World} {h : Value} {l : List Int} (hi : IntsAt w h l) : h.oneCell' = true := by
  obtain ⟨a, cap, rfl, _⟩ := hi
  rfl

theorem flatV_one : ∀ (t : Tree) (hs : List Value), (∀ h ∈ hs, h.oneCell' = true) → ∀ c ∈ flatV t hs, c.oneCell' = true
  | [], hs, _, c, hc => by cases hs <;> simp [flatV] at hc
  | u :: t, [], _, c, hc => by simp [flatV] at hc
  | u :: t, a :: hs, h, c, hc => by
    simp only [flatV, List.mem_append] at hc
    rcases hc with hc | hc
    · exact vcells_one u (h a (by simp)) c hc
    · exact flatV_one t hs (fun b hb => h b (by simp [hb])) c hc

theorem TRow.heads {w : World} {b off : Nat} {t : Tree} (k : TRow w b off t) {x : Nat} {u : PV} (hu : t[x]? = some u) : ∃ h, (headsOf w b off t.length)[x]? = some h ∧ VAt w b (off + x * 6) u h := by
  obtain ⟨h, hv⟩ := k.at_ x u hu
  exact ⟨h, headsOf_get (List.getElem?_eq_some_iff.1 hu).1 hv.c5, hv⟩

theorem TRow.flat {w : World} {b off : Nat} {t : Tree} (k : TRow w b off t) (j : Nat) (c : Value) (hc : (flatV t (headsOf w b off t.length))[j]? = some c) : w.cell? ⟨b, off + j, none⟩ = some c := by
  have hj := (List.getElem?_eq_some_iff.1 hc).1
  rw [flatV_len t _ (headsOf_len w b off t.length)] at hj
  have hx : j / 6 < t.length := by omega
  obtain ⟨h, h1, hv⟩ := k.heads (vx_some hx)
  have h2 := flatV_get _ h t _ (j / 6) (vx_some hx) h1 (j % 6) (by omega)
  have e : j / 6 * 6 + j % 6 = j := by omega
  rw [e, hc] at h2
  have hr : j % 6 < 6 := by omega
  have e2 : off + j = off + j / 6 * 6 + j % 6 := by omega
  rw [e2]
  generalize j % 6 = r at *
  match r, hr, h2 with
  | 0, _, h2 => simp [vcells] at h2; rw [h2]; exact hv.c0
  | 1, _, h2 => simp [vcells] at h2; rw [h2]; exact hv.c1
  | 2, _, h2 => simp [vcells] at h2; rw [h2]; exact hv.c2
  | 3, _, h2 => simp [vcells] at h2; rw [h2]; exact hv.c3
  | 4, _, h2 => simp [vcells] at h2; rw [h2]; exact hv.c4
  | 5, _, h2 => simp [vcells] at h2; rw [h2]; exact hv.c5

theorem TRow.heads_one {w : World} {b off : Nat} {t : Tree} (k : TRow w b off t) : ∀ h ∈ headsOf w b off t.length, h.oneCell' = true := by
  intro h hh
  simp only [headsOf, List.mem_map, List.mem_range] at hh
  obtain ⟨x, hx, rfl⟩ := hh
  obtain ⟨a, _, hv⟩ := k.heads (vx_some hx)
  rw [hv.c5]
  exact slice_one hv.late

theorem rowV_empty (w : World) : (w.alloc (.cells #[] 24)).ownsRow w.heap.size 24 6 (.slice (some ⟨w.heap.size, 0, none⟩) 0 0) 0 [] :=
  World.ownsRow_made w #[] 0 (Nat.le_refl _) (by unfold maxLen; omega) rfl

set_option maxRecDepth 100000 in
set_option maxHeartbeats 1000000 in
theorem clone_any {w : World} {v : Value} {t : Tree} (ht : TreeAt w v t) (hne : 0 < t.length) (hl : t.length ≤ 255) :
    Calls Tryd.prog 82 #[v] w fun e w' => ∃ v' hs, e = .returned v' ∧ OwnT w.heap.size w' v' t hs 0 ∧ Below w.heap.size w w' := by
  obtain ⟨i0, hi, hz0, hz1, hz2⟩ := info_parts Tryd.infoV
  obtain ⟨a, cap, rfl, hlen, hc⟩ := ht
  obtain ⟨b, off, rfl, hr⟩ := hc (by rintro rfl; simp at hne)
  obtain ⟨F, hF⟩ : ∃ F, flatV t (headsOf w b off t.length) = F := ⟨_, rfl⟩
  have hFl : F.length = t.length * 6 := by rw [← hF]; exact flatV_len t _ (headsOf_len _ _ _ _)
  have hF1 : ∀ c ∈ F, c.oneCell' = true := by rw [← hF]; exact flatV_one t _ hr.heads_one
  have hb0 : Below w.heap.size w (w.alloc (.cells #[] 24)) := (Below.refl _ _).alloc (Nat.le_refl _) _
  have hFc : ∀ j c, F[j]? = some c → (w.alloc (.cells #[] 24)).cell? ((⟨b, off, none⟩ : Addr).add j) = some c := by
    intro j c hj
    rw [show (⟨b, off, none⟩ : Addr).add j = ⟨b, off + j, none⟩ by unfold Addr.add; split <;> simp_all]
    rw [hb0.cell (p := ⟨b, off + j, none⟩) hr.lt]
    exact hr.flat j c (by rw [hF]; exact hj)
  have hm1 : 0 + t.length ≤ maxLen := by unfold maxLen; omega
  have hm2 : (0 + t.length) * 64 ≤ 140737488355328 := by omega
  have q27 : ∀ (w : World) (a : Option Addr) (n c n' c' : Nat), (binOp .eql 27 (.slice a n c) (.slice none n' c')).run Tryd.prog w = .ok (.bool a.isNone) w := fun w a n c n' c' => Lib.run_eql_slice_nil w _ _ a n c n' c' Tryd.underlying27
  clear hc
  go_enter Tryd.func82, Tryd.ntmps82
  go_wp2_with (refine wpList_append_own_at _ rfl (.tmp 5) (.tmp 6) 27 rfl w.heap.size 24 i0 (.agg #[.bool false, .int .i64 0, .int .i64 0, .int .i64 0, .int .i64 0, .slice none 0 0]) 6 64 Tryd.underlying27 hi hz0 hz1 hz2 rfl (by decide) _ 0 [] rfl (rowV_empty w) ⟨b, off, none⟩ t.length cap F rfl hFl hFc hF1 hm1 hm2 hb0.size ?_; intro v7 w7 ho7 hg7 hnil7 hl7)
  have b7 := hb0.grown hg7 hb0.size (fun k hk => ((rowV_empty w).lt k hk).1)
  go_ret
  refine ⟨_, headsOf w b off t.length, rfl, ⟨headsOf_len _ _ _ _, by rw [hF]; simpa using ho7, fun x u h hx => by omega, fun x h k hx => by omega⟩, b7⟩

end Go.Proofs.YtdnopkpoepdihaaDoor

namespace Go.Proofs.YtdnopkpoepdihaaDoor
open Go.RowKit
set_option linter.unusedSimpArgs false
set_option linter.unusedVariables false

set_option maxRecDepth 100000 in
set_option maxHeartbeats 2000000 in
theorem copied_any {w : World} {v : Value} {t : Tree} (ht : TreeAt w v t) (hne : 0 < t.length) (hl : t.length ≤ 255) (hlate : ∀ (x : Nat) (u : PV), t[x]? = some u → u.late.length ≤ 64) :
    Calls Tryd.prog 62 #[v] w fun e w' => ∃ v' hs, e = .returned v' ∧ OwnT w.heap.size w' v' t hs t.length ∧ Below w.heap.size w w' := by
  go_enter Tryd.func62, Tryd.ntmps62
  go_wp2_with fail
  refine (clone_any ht hne hl).mono ?_
  rintro e w1 ⟨v1, hs1, rfl, o1, b1⟩
  obtain ⟨g, cap, rfl, hgB, hgl⟩ := o1.form hne
  have htl : (t.length : Int) ≤ 255 := by omega
  go_wp2_with fail
  go_loopw [9] (fun k wr => ∃ (j : Nat) (hs : List Value), j ≤ t.length ∧ k = .int .i64 j ∧ OwnT w.heap.size wr (.slice (some ⟨g, 0, none⟩) t.length cap) t hs j ∧ Below w.heap.size w wr) (fun k _ => t.length - (intOf k).toNat)
  case atStart => exact ⟨0, hs1, Nat.zero_le _, rfl, o1, b1⟩
  case round =>
    obtain ⟨j, hs, hj, rfl, ho, hB⟩ := hrel
    have hsz := hB.size
    by_cases hlt : j < t.length
    · obtain ⟨b, off, cap2, hd, rfl, hbl, hv⟩ := (ht.below hB).get (vx_some (t := t) hlt)
      have c5 := hv.c5
      obtain ⟨a, ha⟩ := ho.head hlt
      have cg := (ho.vat (vx_some hlt) ha).2.2.2.2.2
      have hll := hlate j _ (vx_some hlt)
      have i1 : (j : Int) < (t.length : Int) := by omega
      obtain ⟨v2, w2, hr2, o2, g2, l2⟩ := run_append_ints wr 22 w.heap.size (.slice none 0 0) 0 [] (World.ownsRow_nil _ _ _ _) hd _ hv.late (by unfold maxLen; omega) (by omega) hsz
      obtain ⟨qa, qc, hv2, _⟩ := ownsRow_ints (l := (vx t j).late) (base := w.heap.size) (v := v2) (w := w2) (by simpa using o2) (by omega)
      subst hv2
      have b2 := hB.grown g2 hsz (fun k hk => by simp [Value.ownBlock] at hk)
      obtain ⟨q1, q2⟩ := ho.setL hj hlt ha (vx_some hlt) (vx t j).late (a' := _) (w1 := w2) (by rw [if_neg (by omega)]; exact g2) (by simpa [OwnI] using o2) (.inr (by rcases l2 with h | h; exact .inl h; exact .inr ⟨_, h, Nat.le_refl _⟩)) (j + 1) (.inr ⟨rfl, rfl⟩) (by omega)
      have et : t.set j { vx t j with late := (vx t j).late } = t := by
        apply List.ext_getElem?
        intro i
        by_cases h : i = j
        · subst h; rw [List.getElem?_set_self hlt, vx_some hlt]
        · rw [List.getElem?_set_ne (by omega)]
      rw [et] at q1
      have Hq : Hid (OwnT w.heap.size (w2.setCell ⟨g, j * 6 + 5, none⟩ (.slice qa (vx t j).late.length qc)) (.slice (some ⟨g, 0, none⟩) t.length cap) t (hs.set j (.slice qa (vx t j).late.length qc)) (j + 1)) := q1
      have Hb : Hid (Below w.heap.size w (w2.setCell ⟨g, j * 6 + 5, none⟩ (.slice qa (vx t j).late.length qc))) := b2.setCell (p := ⟨g, j * 6 + 5, none⟩) hgB _
      have cg2 : w2.cell? ⟨g, j * 6 + 5, none⟩ = some a := g2.cell cg (by simp [Value.ownBlock])
      have fz2 : w2.frozen? ⟨g, j * 6 + 5, none⟩ = false := (World.frozen?_of_block (g2.block g (by obtain ⟨g', c', e, _, hlt'⟩ := ho.form hne; cases e; exact hlt') (by simp [Value.ownBlock]))).trans (ho.row.frozenAt _)
      clear q1 ho hv q2
      go_wp2_with (refine Lib.wpList_append_run _ rfl (.const (.slice none 0 0)) (.tmp 18) 22 22 rfl (.slice none 0 0) hd rfl rfl _ _ hr2 ?_)
      go_roundw
      case rel => exact ⟨j + 1, _, by omega, by go_num, Hq.out, Hb.out⟩
      case measure => simp [intOf]; omega
    · have e : j = t.length := by omega
      subst e
      go_wp2_with fail
      go_ret
      exact ⟨_, _, rfl, ho, hB⟩

end Go.Proofs.YtdnopkpoepdihaaDoor
