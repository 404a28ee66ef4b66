/-
  The document's store: where it lies, what it takes for a term, how it finds one.
-/
import Derived.Test.YtcfmagmhnemhaaaDoorDA
import Derived.BigQuiet
import Derived.Deep.QuietTactic
import Derived.BigGuardPart
namespace Go.Proofs.YtcfmagmhnemhaaaDoor
open Go.RowKit
set_option linter.unusedSimpArgs false
set_option linter.unusedVariables false

def RefAt (w : World) (r : Nat) (ns : List Nd) (dr : Int) : Prop :=
  ∃ sl c, w.heap[r]? = some (.cells #[.slice sl ns.length c, .int .i64 dr] 61) ∧ RowAt w sl c ns ∧ ns.length ≤ 262144

def OwnR (w : World) (r k : Nat) : Prop := k = r ∨ ∃ o sp n c, w.cell? ⟨r, 0, none⟩ = some (.slice (some ⟨k, o, sp⟩) n c)

theorem RefAt.lt {w : World} {r : Nat} {ns : List Nd} {dr : Int} (h : RefAt w r ns dr) : r < w.heap.size := by
  obtain ⟨sl, c, h0, _⟩ := h
  exact (Array.getElem?_eq_some_iff.1 h0).1

/-- What a call on the document's store may turn. -/
structure MovedR (r : Nat) (w w' : World) : Prop where
  os : w'.os = w.os
  tape : w'.tape = w.tape
  output : w'.output = w.output
  size : w.heap.size ≤ w'.heap.size
  block : ∀ k, k < w.heap.size → ¬ OwnR w r k → w'.heap[k]? = w.heap[k]?
  own : ∀ k, OwnR w' r k → OwnR w r k ∨ w.heap.size ≤ k

theorem MovedR.refl (r : Nat) (w : World) : MovedR r w w := ⟨rfl, rfl, rfl, Nat.le_refl _, fun _ _ _ => rfl, fun _ h => Or.inl h⟩

theorem MovedR.trans {r : Nat} {a b c : World} (h : MovedR r a b) (k : MovedR r b c) : MovedR r a c := by
  refine ⟨k.os.trans h.os, k.tape.trans h.tape, k.output.trans h.output, Nat.le_trans h.size k.size, fun i hi hn => ?_, fun i hi => ?_⟩
  · have : ¬ OwnR b r i := fun ho => (h.own i ho).elim hn (fun hge => by omega)
    exact (k.block i (Nat.lt_of_lt_of_le hi h.size) this).trans (h.block i hi hn)
  · rcases k.own i hi with ho | hge
    · exact h.own i ho
    · exact Or.inr (Nat.le_trans h.size hge)

theorem RefAt.keep {w w' : World} {r : Nat} {ns : List Nd} {dr : Int} (h : RefAt w r ns dr) (hk : ∀ k, OwnR w r k → w'.heap[k]? = w.heap[k]?) : RefAt w' r ns dr ∧ ∀ k, OwnR w' r k ↔ OwnR w r k := by
  have e : ∀ k, OwnR w' r k ↔ OwnR w r k := by
    intro k
    have hb := hk r (Or.inl rfl)
    unfold OwnR
    rw [World.cell?_of_block (w := w) (a := ⟨r, 0, none⟩) hb]
  refine ⟨?_, e⟩
  obtain ⟨sl, c, h0, h2, h3⟩ := h
  refine ⟨sl, c, (hk r (Or.inl rfl)).trans h0, ⟨h2.1, ?_⟩, h3⟩
  rcases h2.2 with hn | ⟨g, cap, cur, hv, hb, hgg, rest⟩
  · exact Or.inl hn
  · refine Or.inr ⟨g, cap, cur, hv, hb, ?_, rest⟩
    have hv2 := hv
    simp at hv2
    exact (hk g (Or.inr ⟨0, none, _, _, by rw [cell_of_heap h0, hv2.1]; rfl⟩)).trans hgg

theorem RefAt.own_lt {w : World} {r : Nat} {ns : List Nd} {dr : Int} (h : RefAt w r ns dr) {k : Nat} (hk : OwnR w r k) : k < w.heap.size := by
  have hs := h.lt
  obtain ⟨sl, c, h0, h2, h3⟩ := h
  rcases hk with e | ⟨o, sp, n, c', e⟩
  · omega
  · rw [cell_of_heap h0] at e
    simp at e
    rcases h2.form with ⟨rfl, _⟩ | ⟨nb, rfl, hlt, _⟩
    · simp at e
    · simp at e
      omega

theorem RefAt.below {w w' : World} {r : Nat} {ns : List Nd} {dr : Int} (h : RefAt w r ns dr) (hb : Below w.heap.size w w') : RefAt w' r ns dr := (h.keep (fun k hk => hb.block k (h.own_lt hk))).1

theorem MovedR.ofBelow {w w' : World} {r : Nat} {ns : List Nd} {dr : Int} (h : RefAt w r ns dr) (hb : Below w.heap.size w w') : MovedR r w w' :=
  ⟨hb.os, hb.tape, hb.output, hb.size, fun k hk _ => hb.block k hk, fun k hk => Or.inl (((h.keep (fun k hk => hb.block k (h.own_lt hk))).2 k).1 hk)⟩

theorem RefAt.cells {w : World} {r : Nat} {ns : List Nd} {dr : Int} (h : RefAt w r ns dr) : ∃ sl c, w.cell? ⟨r, 0, none⟩ = some (.slice sl ns.length c) ∧ w.cell? ⟨r, 1, none⟩ = some (.int .i64 dr) ∧ (∀ o, w.frozen? ⟨r, o, none⟩ = false) ∧ RowAt w sl c ns ∧ (ns.length : Int) ≤ 262144 ∧ r < w.heap.size := by
  have hs := h.lt
  obtain ⟨sl, c, h0, h2, h3⟩ := h
  exact ⟨sl, c, by rw [cell_of_heap h0]; rfl, by rw [cell_of_heap h0]; rfl, fun o => frozen_of_heap h0 o, h2, by omega, hs⟩

set_option maxHeartbeats 400000 in
theorem known_m {w : World} {r : Nat} {ns : List Nd} {dr : Int} (h : RefAt w r ns dr) (t : Int) :
    Calls Tryd.prog 51 #[.pointer (some ⟨r, 0, none⟩), .int .i64 t] w fun e w' => e = .returned (.bool (hasB ns t)) ∧ w' = w := by
  obtain ⟨sl, c, s0, s1, sf, sr, sn, slt⟩ := h.cells
  have e : hasB ns t = (decide (0 < t) && decide (t ≤ (ns.length : Int))) := by
    unfold hasB
    congr 1
  rw [e]
  by_cases h1 : 0 < t
  · go_enter Tryd.func51, Tryd.ntmps51
    go_wp2
    go_ret
    exact ⟨by simp [h1], rfl⟩
  · have h1' : decide (0 < t) = false := by simpa using h1
    go_enter Tryd.func51, Tryd.ntmps51
    go_wp2
    go_ret
    exact ⟨by simp [h1], rfl⟩

set_option maxRecDepth 100000 in
set_option maxHeartbeats 2000000 in
/-- An atom is right. -/
theorem right_atom {w : World} {r : Nat} {ns : List Nd} {dr : Int} (h : RefAt w r ns dr) (a : Int) (h0 : 1 ≤ a) (h1 : a ≤ 1099511627776) :
    Calls Tryd.prog 57 #[.pointer (some ⟨r, 0, none⟩), .agg #[.int .i64 1, .string ⟨#[]⟩, .int .i64 a, .int .i64 0]] w fun e w' => e = .returned (.bool true) ∧ Below w.heap.size w w' := by
  have hb : Below w.heap.size w (w.alloc (.cells #[.int .i64 1, .string ⟨#[]⟩, .int .i64 a, .int .i64 0] 71)) := (Below.refl _ _).alloc (Nat.le_refl _) _
  have hr := h.below hb
  have hq := fun n x => (known_m (hr.below (below_drewN (Below.refl _ _) n)) x)
  go_enter Tryd.func57, Tryd.ntmps57
  go_wp2_with fail
  go_quiet (first | (go_at_call 51; refine Calls.quiet_of_same (hq _ _)))
  go_wp2
  go_ret
  exact ⟨rfl, below_drewN hb _⟩

set_option maxRecDepth 100000 in
set_option maxHeartbeats 2000000 in
theorem right_text {w : World} {r : Nat} {ns : List Nd} {dr : Int} (h : RefAt w r ns dr) (l : ByteArray) (h0 : (l.size : Int) ≤ 1024) :
    Calls Tryd.prog 57 #[.pointer (some ⟨r, 0, none⟩), .agg #[.int .i64 2, .string l, .int .i64 0, .int .i64 0]] w fun e w' => e = .returned (.bool true) ∧ Below w.heap.size w w' := by
  have hb : Below w.heap.size w (w.alloc (.cells #[.int .i64 2, .string l, .int .i64 0, .int .i64 0] 71)) := (Below.refl _ _).alloc (Nat.le_refl _) _
  have hr := h.below hb
  have hq := fun n x => (known_m (hr.below (below_drewN (Below.refl _ _) n)) x)
  go_enter Tryd.func57, Tryd.ntmps57
  go_wp2_with fail
  go_quiet (first | (go_at_call 51; refine Calls.quiet_of_same (hq _ _)))
  go_wp2
  go_ret
  exact ⟨rfl, below_drewN hb _⟩

set_option maxRecDepth 100000 in
set_option maxHeartbeats 2000000 in
theorem right_pair {w : World} {r : Nat} {ns : List Nd} {dr : Int} (h : RefAt w r ns dr) (a b : Int) (h0 : hasB ns a = true) (h1 : hasB ns b = true) :
    Calls Tryd.prog 57 #[.pointer (some ⟨r, 0, none⟩), .agg #[.int .i64 3, .string ⟨#[]⟩, .int .i64 a, .int .i64 b]] w fun e w' => e = .returned (.bool true) ∧ Below w.heap.size w w' := by
  have hb : Below w.heap.size w (w.alloc (.cells #[.int .i64 3, .string ⟨#[]⟩, .int .i64 a, .int .i64 b] 71)) := (Below.refl _ _).alloc (Nat.le_refl _) _
  have hr := h.below hb
  have hqa := fun n => (known_m (hr.below (below_drewN (Below.refl _ _) n)) a)
  have hqb := fun n => (known_m (hr.below (below_drewN (Below.refl _ _) n)) b)
  rw [h0] at hqa
  rw [h1] at hqb
  clear h0 h1
  go_enter Tryd.func57, Tryd.ntmps57
  go_wp2_with fail
  go_quiet (first | (go_at_call_of 51 a; refine Calls.quiet_of_same (hqa _)) | (go_at_call 51; refine Calls.quiet_of_same (hqb _)))
  go_wp2
  go_ret
  exact ⟨rfl, below_drewN hb _⟩

set_option maxRecDepth 100000 in
set_option maxHeartbeats 2000000 in
theorem right_hash {w : World} {r : Nat} {ns : List Nd} {dr : Int} (h : RefAt w r ns dr) (l : ByteArray) (hl : (l.size : Int) ≤ 32) (a : Int) (h0 : hasB ns a = true) :
    Calls Tryd.prog 57 #[.pointer (some ⟨r, 0, none⟩), .agg #[.int .i64 4, .string l, .int .i64 a, .int .i64 0]] w fun e w' => e = .returned (.bool true) ∧ Below w.heap.size w w' := by
  have hb : Below w.heap.size w (w.alloc (.cells #[.int .i64 4, .string l, .int .i64 a, .int .i64 0] 71)) := (Below.refl _ _).alloc (Nat.le_refl _) _
  have hr := h.below hb
  have hqa := fun n => (known_m (hr.below (below_drewN (Below.refl _ _) n)) a)
  have hqb := fun n => (known_m (hr.below (below_drewN (Below.refl _ _) n)) 0)
  rw [h0] at hqa
  clear h0
  go_enter Tryd.func57, Tryd.ntmps57
  go_wp2_with fail
  go_quiet (first | (go_at_call_of 51 a; refine Calls.quiet_of_same (hqa _)) | (go_at_call 51; refine Calls.quiet_of_same (hqb _)))
  go_wp2
  go_ret
  exact ⟨rfl, below_drewN hb _⟩

set_option maxRecDepth 100000 in
set_option maxHeartbeats 2000000 in
theorem find_m {w : World} {r : Nat} {ns : List Nd} {dr : Int} (h : RefAt w r ns dr) (hw : Wf ns) (n : Nd) :
    Calls Tryd.prog 58 #[.pointer (some ⟨r, 0, none⟩), .agg #[.int .i64 n.kind, .string n.label, .int .i64 n.a, .int .i64 n.b]] w fun e w' => e = .returned (.int .i64 (numOf ns n)) ∧ Below w.heap.size w w' := by
  have hb : Below w.heap.size w (w.alloc (.cells #[.int .i64 n.kind, .string n.label, .int .i64 n.a, .int .i64 n.b] 71)) := (Below.refl _ _).alloc (Nat.le_refl _) _
  have hr := h.below hb
  obtain ⟨sl, c, s0, s1, sf, sr, sn, slt⟩ := hr.cells
  have hm := guard27
  have b0 : (w.alloc (.cells #[.int .i64 n.kind, .string n.label, .int .i64 n.a, .int .i64 n.b] 71)).cell? ⟨w.heap.size, 0, none⟩ = some (.int .i64 n.kind) := by go_simp
  have b1 : (w.alloc (.cells #[.int .i64 n.kind, .string n.label, .int .i64 n.a, .int .i64 n.b] 71)).cell? ⟨w.heap.size, 1, none⟩ = some (.string n.label) := by go_simp
  have b2 : (w.alloc (.cells #[.int .i64 n.kind, .string n.label, .int .i64 n.a, .int .i64 n.b] 71)).cell? ⟨w.heap.size, 2, none⟩ = some (.int .i64 n.a) := by go_simp
  have b3 : (w.alloc (.cells #[.int .i64 n.kind, .string n.label, .int .i64 n.a, .int .i64 n.b] 71)).cell? ⟨w.heap.size, 3, none⟩ = some (.int .i64 n.b) := by go_simp
  obtain ⟨W, hW⟩ : ∃ W, w.alloc (.cells #[.int .i64 n.kind, .string n.label, .int .i64 n.a, .int .i64 n.b] 71) = W := ⟨_, rfl⟩
  rw [hW] at hb hr s0 s1 sf sr slt b0 b1 b2 b3
  have HW : Hid (Wf ns) := hw
  clear hw
  go_enter Tryd.func58, Tryd.ntmps58
  go_wp2_with (rw [hW])
  clear hW
  go_loopw [5] (fun k wr => ∃ (i m : Nat), i ≤ ns.length ∧ k = .int .i64 ((i : Int) - 1) ∧ wr = W.drewN m ∧ Hid (∀ j, i ≤ j → ns[j]? ≠ some n)) (fun k _ => ((intOf k) + 1).toNat)
  case atStart => exact ⟨ns.length, 0, Nat.le_refl _, rfl, rfl, fun j hj e => by rw [List.getElem?_eq_none hj] at e; cases e⟩
  case round =>
    obtain ⟨i, m, hi, rfl, rfl, HN⟩ := hrel
    by_cases h0 : i = 0
    · subst h0
      have HR : Hid (numOf ns n = 0) := by
        show _ = _
        have : findN n ns 0 = none := (findN_none n ns 0).2 (fun hmem => by
          obtain ⟨j, hj⟩ := List.mem_iff_getElem?.1 hmem
          exact HN.out j (Nat.zero_le _) hj)
        simp [numOf, this]
      go_wp2_with fail
      go_ret
      rw [HR.out]
      exact ⟨rfl, below_drewN hb _⟩
    · obtain ⟨p, rfl⟩ : ∃ p, i = p + 1 := ⟨i - 1, by omega⟩
      rcases sr.form with ⟨_, _, e⟩ | ⟨nb, rfl, hnb, hl, _⟩
      · rw [e] at hi; simp at hi
      obtain ⟨n0, n1, n2, n3⟩ := sr.cell (i := p) (by omega)
      have hget : Hid (ns[p]? = some (ns.getD p Nd.zero)) := by
        show _ = _
        have : p < ns.length := by omega
        simp [List.getD, this]
      obtain ⟨q, hq0⟩ : ∃ q, ns.getD p Nd.zero = q := ⟨_, rfl⟩
      rw [hq0] at n0 n1 n2 n3 hget
      have hq := fun wx => run_equal27 wx q n 9998
      simp only [Nd.val] at hq
      have i1 : (((p + 1 : Nat) : Int) - 1) = (p : Int) := by omega
      have i2 : (p : Int) < (ns.length : Int) := by omega
      rw [i1]
      cases hbq : q.beq n with
      | true =>
        rw [hbq] at hq
        have HR : Hid (numOf ns n = ((p + 1 : Nat) : Int)) := by
          show _ = _
          have e := (Nd.beq_iff q n).1 hbq
          have hp := hget.out
          rw [e] at hp
          cases hf : findN n ns 0 with
          | none => exact absurd (List.mem_of_getElem? hp) ((findN_none n ns 0).1 hf)
          | some j =>
            have hj := (findN_some n ns 0 j hf).2
            simp at hj
            have := HW.out.inj hp hj
            subst this
            simp [numOf, hf]
        clear hbq hq0 HN
        go_wp2_with fail
        go_quiet (fail)
        go_wp2
        go_ret
        rw [HR.out]
        exact ⟨by simp, by first | exact below_drewN hb _ | exact below_drewN (below_drewN hb _) _⟩
      | false =>
        rw [hbq] at hq
        have HN2 : Hid (∀ j, p ≤ j → ns[j]? ≠ some n) := by
          intro j hj e
          by_cases hjp : j = p
          · subst hjp
            have := hget.out
            rw [e] at this
            simp at this
            rw [(Nd.beq_iff q n).2 this.symm] at hbq
            cases hbq
          · exact HN.out j (by omega) e
        clear hbq hq0 HN
        go_wp2_with fail
        go_quiet (fail)
        go_wp2
        go_roundw
        case rel => exact ⟨p, _, by omega, by go_num, by rfl, HN2⟩
        case measure => simp [intOf]

end Go.Proofs.YtcfmagmhnemhaaaDoor
