/-
  The document's store: the makers by what terms mean; numbers' digits.
-/
import Derived.Test.YtmcjincgppddeaaDoorFC
import Derived.Test.YtmcjincgppddeaaDoorEB
namespace Go.Proofs.YtmcjincgppddeaaDoor
open Go.RowKit
set_option linter.unusedSimpArgs false
set_option linter.unusedVariables false

theorem text_r {w : World} {r : Nat} {ns : List Nd} {dr : Int} (h : RefAt w r ns dr) (hw : Wf ns) (l : ByteArray) (hl : l.size ≤ 1024) (hr : (ns.length : Int) < 262144) :
    Calls Tryd.prog 46 #[.pointer (some ⟨r, 0, none⟩), .string l] w fun e w' => ∃ t ns', e = .returned (.int .i64 t) ∧ RunR r w w' ns ns' dr 1 ∧ Means ns' t (.text l) := by
  have hp := put_m h hw 2 l 0 0 (fun W hW => right_text hW l (by omega)) (fits_text ns hl) hr
  clear hl hr
  go_enter Tryd.func46, Tryd.ntmps46
  go_wp2_with fail
  refine hp.mono ?_
  rintro e w1 ⟨t, ns', rfl, hmf, hR, hm⟩
  clear hmf
  go_wp2_with fail
  go_ret
  exact ⟨t, ns', rfl, hR, hm.has, hm.node⟩

theorem hash_r {w : World} {r : Nat} {ns : List Nd} {dr : Int} (h : RefAt w r ns dr) (hw : Wf ns) (l : ByteArray) (hl : l.size ≤ 32) (hr : (ns.length : Int) < 262144) {x : Int} {X : Tm} (hx : Means ns x X) :
    Calls Tryd.prog 66 #[.pointer (some ⟨r, 0, none⟩), .string l, .int .i64 x] w fun e w' => ∃ t ns', e = .returned (.int .i64 t) ∧ RunR r w w' ns ns' dr 1 ∧ Means ns' t (.hash l X) := by
  have hp := put_m h hw 4 l x 0 (fun W hW => right_hash hW l (by omega) x hx.has) (by simp [fitsB, hl, hx.has]) hr
  clear hl hr
  go_enter Tryd.func66, Tryd.ntmps66
  go_wp2_with fail
  refine hp.mono ?_
  rintro e w1 ⟨t, ns', rfl, hmf, hR, hm⟩
  clear hmf
  go_wp2_with fail
  go_ret
  exact ⟨t, ns', rfl, hR, hm.has, x, hm.node, hx.keeps hm.pre⟩

theorem pair_r {w : World} {r : Nat} {ns : List Nd} {dr : Int} (h : RefAt w r ns dr) (hw : Wf ns) (hr : (ns.length : Int) < 262144) {x y : Int} {X Y : Tm} (hx : Means ns x X) (hy : Means ns y Y) :
    Calls Tryd.prog 87 #[.pointer (some ⟨r, 0, none⟩), .int .i64 x, .int .i64 y] w fun e w' => ∃ t ns', e = .returned (.int .i64 t) ∧ RunR r w w' ns ns' dr 1 ∧ Means ns' t (.pair X Y) := by
  have hp := put_m h hw 3 ⟨#[]⟩ x y (fun W hW => right_pair hW x y hx.has hy.has) (by simp [fitsB, hx.has, hy.has, emptyB]) hr
  clear hr
  go_enter Tryd.func87, Tryd.ntmps87
  go_wp2_with fail
  refine hp.mono ?_
  rintro e w1 ⟨t, ns', rfl, hmf, hR, hm⟩
  clear hmf
  go_wp2_with fail
  go_ret
  exact ⟨t, ns', rfl, hR, hm.has, x, y, hm.node, hx.keeps hm.pre, hy.keeps hm.pre⟩

/-- A tree, a list, none of whose blocks is the document's store's. -/
def TR (w : World) (r : Nat) (v : Value) (t : Tree) : Prop := TreeP (fun b => ¬ OwnR w r b) w v t
def IR (w : World) (r : Nat) (v : Value) (l : List Int) : Prop := IntsP (fun b => ¬ OwnR w r b) w v l
theorem MovedR.free {r : Nat} {w w' : World} (m : MovedR r w w') {b : Nat} (hb : b < w.heap.size) (hn : ¬ OwnR w r b) : ¬ OwnR w' r b := fun ho => (m.own b ho).elim hn (fun h => by omega)
theorem TR.tree {w : World} {r : Nat} {v : Value} {t : Tree} (h : TR w r v t) : TreeAt w v t := TreeP.tree h
theorem IR.ints {w : World} {r : Nat} {v : Value} {l : List Int} (h : IR w r v l) : IntsAt w v l := IntsP.ints h
theorem TR.moved {w w' : World} {r : Nat} {v : Value} {t : Tree} (h : TR w r v t) (m : MovedR r w w') : TR w' r v t := by
  have h1 := TreeP.imp (r := fun b => b < w.heap.size ∧ ¬ OwnR w r b) h (fun b hb hq => ⟨hb, hq⟩)
  have h2 := TreeP.agree h1 m.size (fun b hb hq => m.block b hb hq.2)
  exact TreeP.imp h2 (fun b _ hq => m.free hq.1 hq.2)
theorem IR.moved {w w' : World} {r : Nat} {v : Value} {l : List Int} (h : IR w r v l) (m : MovedR r w w') : IR w' r v l := by
  have h1 := IntsP.imp (r := fun b => b < w.heap.size ∧ ¬ OwnR w r b) h (fun b hb hq => ⟨hb, hq⟩)
  have h2 := IntsP.agree h1 m.size (fun b hb hq => m.block b hb hq.2)
  exact IntsP.imp h2 (fun b _ hq => m.free hq.1 hq.2)

theorem mean2_split {ns : List Nd} {l : List Int} {L : List Tm} (h : Mean2 ns l L) {j : Nat} {x : Int} (hj : l[j]? = some x) : ∃ X, L.drop j = X :: L.drop (j + 1) ∧ Means ns x X := by
  obtain ⟨X, h1, h2⟩ := h.get j x hj
  have hjl := (List.getElem?_eq_some_iff.1 h1)
  exact ⟨X, by rw [List.drop_eq_getElem_cons hjl.1, hjl.2], h2⟩

set_option maxRecDepth 100000 in
set_option maxHeartbeats 2000000 in
theorem list_r {w : World} {r : Nat} {ns : List Nd} {dr : Int} (h : RefAt w r ns dr) (hw : Wf ns) {v : Value} {l : List Int} {L : List Tm} (hl : IR w r v l) (hL : Mean2 ns l L) (hr : (ns.length : Int) + l.length + 1 < 262144) :
    Calls Tryd.prog 67 #[.pointer (some ⟨r, 0, none⟩), v] w fun e w' => ∃ t ns', e = .returned (.int .i64 t) ∧ RunR r w w' ns ns' dr (l.length + 1) ∧ Means ns' t (listT L) := by
  have hLn : Hid (l.length = L.length) := hL.len
  have hli := hl
  obtain ⟨a, cap, rfl, hl1, hc⟩ := id hl
  have q30 : ∀ (w : World) (a : Option Addr) (n c : Nat), (Builtin.len_ #[30] 3 #[.slice a n c]).run Tryd.prog w = .ok (goInt n) w := fun w a n c => run_len_slice w _ _ _ _ _ Tryd.underlying30
  have HL : Hid (Mean2 ns l L) := hL
  have Hhas : Hid (∀ x ∈ l, hasB ns x = true) := hL.has
  have Hr : Hid ((ns.length : Int) + l.length + 1 < 262144) := hr
  clear hL hc hr
  go_enter Tryd.func67, Tryd.ntmps67
  go_wp2_with (rw [q30])
  go_loopw [5] (fun k wr => ∃ i : Nat, i ≤ l.length ∧ k = .int .i64 i ∧ w = wr) (fun k _ => l.length - (intOf k).toNat)
  case atStart => exact ⟨0, Nat.zero_le _, rfl, rfl⟩
  case round =>
    obtain ⟨i, hi, rfl, rfl⟩ := hrel
    by_cases hlt : i < l.length
    · obtain ⟨x, hx⟩ : ∃ x, l[i]? = some x := ⟨l[i], by simp [hlt]⟩
      have i1 : (i : Int) < (l.length : Int) := by omega
      obtain ⟨b, off, cap', e1, hb, hcx⟩ : ∃ b off cap', (Value.slice a l.length cap) = .slice (some ⟨b, off, none⟩) l.length cap' ∧ b < w.heap.size ∧ w.cell? ⟨b, off + i, none⟩ = some (.int .i64 x) := by
        obtain ⟨a', cap', e, _, hc⟩ := hli.ints
        obtain ⟨b, off, rfl, h4, h5⟩ := hc (by rintro rfl; simp at hlt)
        exact ⟨b, off, cap', e, h4, h5 _ _ hx⟩
      cases e1
      have hkn := known_m h x
      rw [Hhas.out x (List.mem_of_getElem? hx)] at hkn
      clear hx
      go_wp2_with first
        | rw [q30]
        | (go_at_call 86; refine hkn.mono ?_; rintro e w' ⟨rfl, hw2⟩; obtain rfl := hw2.symm)
        | fail
      go_roundw
      case rel => exact ⟨i + 1, by omega, by go_num, by trivial⟩
      case measure => simp [intOf]; omega
    · have e : i = l.length := by omega
      subst e
      have htx := text_r h hw ⟨#[]⟩ (by decide) (by have := Hr.out; omega)
      go_wp2_with first | rw [q30] | fail
      refine htx.mono ?_
      rintro e w1 ⟨t1, ns1, rfl, r1, m1⟩
      go_wp2_with first | rw [q30] | fail
      go_loopw [6, 7] (fun v k wr => ∃ (j : Nat) (t : Int) (nsj : List Nd), j ≤ l.length ∧ k = .int .i64 ((j : Int) - 1) ∧ v = .int .i64 t ∧ RunR r w wr ns nsj dr (l.length - j + 1) ∧ Hid (Means nsj t (listT (L.drop j)))) (fun _ k _ => (intOf k + 1).toNat)
      case atStart => exact ⟨l.length, t1, ns1, Nat.le_refl _, rfl, rfl, r1.mono (by omega), by rw [hLn.out, List.drop_length]; exact m1⟩
      case round =>
        clear m1 r1 htx
        obtain ⟨j, t, nsj, hj, rfl, rfl, rj, mj⟩ := hrel
        by_cases h0 : j = 0
        · subst h0
          go_wp2_with fail
          go_ret
          exact ⟨t, nsj, rfl, rj.mono (by omega), by have := mj.out; simpa using this⟩
        · obtain ⟨p, rfl⟩ : ∃ p, j = p + 1 := ⟨j - 1, by omega⟩
          obtain ⟨x, hx⟩ : ∃ x, l[p]? = some x := ⟨l[p], List.getElem?_eq_getElem _⟩
          obtain ⟨X, eX, mX⟩ := mean2_split (HL.out.keeps rj.stp.pre) hx
          obtain ⟨b, off, cap', e1, hb, hcx⟩ : ∃ b off cap', (Value.slice a l.length cap) = .slice (some ⟨b, off, none⟩) l.length cap' ∧ b < wr.heap.size ∧ wr.cell? ⟨b, off + p, none⟩ = some (.int .i64 x) := by
            obtain ⟨a', cap', e, _, hc⟩ := (hli.moved rj.mv).ints
            obtain ⟨b, off, rfl, h4, h5⟩ := hc (by rintro rfl; simp at hx)
            exact ⟨b, off, cap', e, h4, h5 _ _ hx⟩
          cases e1
          have hpr := pair_r rj.st rj.stp.wf (by have := Hr.out; have := rj.stp.len; omega) mX mj.out
          have Hm : Hid (Tm.pair X (listT (L.drop (p + 1))) = listT (L.drop p)) := by
            show _ = _
            rw [eX]; rfl
          rw [Hm.out] at hpr
          have i1 : (((p + 1 : Nat) : Int) - 1) = (p : Int) := by omega
          have i2 : (p : Int) < (l.length : Int) := by omega
          rw [i1]
          clear hx eX mX mj
          go_wp2_with fail
          refine hpr.mono ?_
          rintro e w2 ⟨t2, ns2, rfl, r2, m2⟩
          have Hm2 : Hid (Means ns2 t2 (listT (L.drop p))) := m2
          clear m2
          go_wp2_with fail
          go_roundw
          case rel => exact ⟨p, t2, ns2, by omega, by go_num, rfl, (rj.trans r2).mono (by omega), Hm2⟩
          case measure => simp [intOf]

end Go.Proofs.YtmcjincgppddeaaDoor
