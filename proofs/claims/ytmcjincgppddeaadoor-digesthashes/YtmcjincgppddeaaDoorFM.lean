/-
  The nodes of a store, listed.
-/
import Derived.Test.YtmcjincgppddeaaDoorFL
namespace Go.Proofs.YtmcjincgppddeaaDoor
open Go.RowKit
set_option linter.unusedSimpArgs false
set_option linter.unusedVariables false

/-- A store's list is no longer than that. -/
structure Few (n : Nat) : Prop where
  out : n ≤ 262144

theorem StoreAt.few {w : World} {s : Nat} {ns : List Nd} {dr : Int} (h : StoreAt w s ns dr) : ns.length ≤ 262144 := by
  obtain ⟨sl, c, mb, h0, h1, h2, h3⟩ := h
  omega

set_option maxRecDepth 100000 in
set_option maxHeartbeats 4000000 in
theorem nodes_m {w : World} {s : Nat} {ns : List Nd} {dr : Int} (h : StoreAt w s ns dr) :
    Calls Tryd.prog 17 #[.pointer (some ⟨s, 0, none⟩)] w fun e w' => ∃ v, e = .returned v ∧ w'.ownsRow w.heap.size 51 4 v ns.length (flat ns) ∧ Below w.heap.size w w' := by
  have Hfew : Few ns.length := ⟨h.few⟩
  obtain ⟨j0, hi, hz0, hz1, hz2⟩ := info_parts info27
  go_enter Tryd.func17, Tryd.ntmps17
  go_wp2_with fail
  go_loopw [3, 4] (fun v k wr => ∃ i : Nat, i ≤ ns.length ∧ k = .int .i64 ((i : Int) + 1) ∧ wr.ownsRow w.heap.size 51 4 v i (flat (ns.take i)) ∧ Below w.heap.size w wr) (fun _ k _ => ns.length + 1 - (intOf k).toNat)
  case atStart => exact ⟨0, Nat.zero_le _, rfl, by simpa [flat] using World.ownsRow_nil _ _ _ _, Below.refl _ _⟩
  case round =>
    obtain ⟨i, hin, rfl, hO, hB⟩ := hrel
    have hst := h.below hB
    have hsz := hB.size
    by_cases hlt : i < ns.length
    · have l1 : (i : Int) + 1 ≤ (ns.length : Int) := by omega
      have hq : ns[i]? = some (nodeF ns ((i : Int) + 1)) ∧ hasB ns ((i : Int) + 1) = true := by
        have hx : ns[i]? = some ns[i] := List.getElem?_eq_getElem _
        have := nodeF_at hx
        refine ⟨?_, ?_⟩
        · rw [show ((i : Int) + 1) = ((i + 1 : Nat) : Int) by omega, this.1]; exact hx
        · rw [show ((i : Int) + 1) = ((i + 1 : Nat) : Int) by omega]; exact this.2
      have hg := get_any hst ((i : Int) + 1)
      rw [hq.2] at hg
      obtain ⟨q, hqe⟩ : ∃ q, nodeF ns ((i : Int) + 1) = q := ⟨_, rfl⟩
      rw [hqe] at hg hq
      simp only [Nd.val] at hg
      have Hs : Hid (flat (ns.take (i + 1)) = flat (ns.take i) ++ q.cells) := by
        show _ = _
        rw [List.take_add_one, hq.1, flat_append]; simp [flat]
      have HO : Hid (wr.ownsRow w.heap.size 51 4 u3 i (flat (ns.take i))) := hO
      have kw : IntKind.i64.wrap ((i : Int) + 1 + 1) = ((i + 1 : Nat) : Int) + 1 := by
        have := Hfew.out
        rw [show (i : Int) + 1 + 1 = ((i + 1 : Nat) : Int) + 1 by omega]; exact wrap_fit (by omega) (by omega)
      have kw2 : IntKind.i64.wrap ((i : Int) + 2) = ((i + 1 : Nat) : Int) + 1 := by
        have := Hfew.out
        rw [show (i : Int) + 2 = ((i + 1 : Nat) : Int) + 1 by omega]; exact wrap_fit (by omega) (by omega)
      have Hm1 : Hid (i + 1 ≤ maxLen) := by show _ ≤ maxLen; have := Hfew.out; unfold maxLen; omega
      have Hm2 : Hid ((i + 1) * 40 ≤ 140737488355328) := by show _ ≤ _; have := Hfew.out; omega
      have hlen := len_any hst
      clear hq hqe hO
      go_wp2_with (first
        | (go_at_call 45; refine hlen.mono ?_; rintro e w' ⟨rfl, hw2⟩; obtain rfl := hw2.symm)
        | fail)
      refine hg.mono ?_
      rintro e w2 ⟨rfl, b2⟩
      have o2 := row_below HO.out b2
      have s2 : w.heap.size ≤ w2.heap.size := Nat.le_trans hsz b2.size
      have B2 := hB.trans (b2.mono hsz)
      have cn : ∀ (o : Obj) j u, q.cells[j]? = some u → ((w2.alloc o).alloc (.cells #[.int .i64 q.kind, .string q.label, .int .i64 q.a, .int .i64 q.b] 51)).cell? ((⟨w2.heap.size + 1, 0, none⟩ : Addr).add j) = some u := fun o j u hu => by
        have := cells_new q (w2.alloc o) j u hu
        rw [show (w2.alloc o).heap.size = w2.heap.size + 1 by simp] at this
        exact this
      clear hg hlen HO
      go_wp2_with (refine wpList_append_own_at _ rfl (.tmp 19) (.tmp 21) 35 rfl w.heap.size 51 j0 Nd.zero.val 4 40 Tryd.underlying35 hi hz0 hz1 hz2 rfl (by decide) _ i _ rfl ((o2.alloc _).alloc _) ⟨w2.heap.size + 1, 0, none⟩ 1 1 q.cells rfl rfl (cn _) (cells_one q) Hm1.out Hm2.out (by simp; omega) ?_; intro v7 w7 ho7 hg7 hnil7 hl7)
      have HO7 : Hid (w7.ownsRow w.heap.size 51 4 v7 (i + 1) (flat (ns.take (i + 1)))) := by
        show World.ownsRow _ _ _ _ _ _ _
        rw [Hs.out]; exact ho7
      have B7 : Hid (Below w.heap.size w w7) := ((B2.alloc s2 _).alloc (by simp; omega) _).grown hg7 (by simp; omega) (fun k hk => (o2.lt k hk).1)
      clear ho7 hg7 hnil7 hl7
      go_roundw
      case rel => exact ⟨i + 1, by omega, by simp, HO7.out, B7.out⟩
      case measure => simp [intOf]; omega
    · have e : i = ns.length := by omega
      have HO : Hid (wr.ownsRow w.heap.size 51 4 u3 ns.length (flat ns)) := by
        show World.ownsRow _ _ _ _ _ _ _
        have := hO
        rw [e, List.take_length] at this
        exact this
      have hlen := len_any hst
      have l1 : ¬ (i : Int) + 1 ≤ (ns.length : Int) := by omega
      have l2 : decide ((i : Int) + 1 ≤ (ns.length : Int)) = false := by simp; omega
      subst e
      clear hO
      go_wp2_with (first
        | (go_at_call 45; refine hlen.mono ?_; rintro e w' ⟨rfl, hw2⟩; obtain rfl := hw2.symm)
        | fail)
      go_ret
      exact ⟨_, rfl, HO.out, hB⟩

end Go.Proofs.YtmcjincgppddeaaDoor
