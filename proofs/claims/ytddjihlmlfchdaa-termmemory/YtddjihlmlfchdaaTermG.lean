/-
  List: its pairs from the last to the first.
-/
import Derived.Test.YtddjihlmlfchdaaOnce
namespace Go.Proofs.Ytddjihlmlfchdaa
open Go.RowKit
set_option linter.unusedSimpArgs false
set_option linter.unusedVariables false

/-- The pairs of a list, the items from the last to the first. -/
def listGo : List Nd → Int → List Int → Int × List Nd
  | ns, rest, [] => (rest, ns)
  | ns, rest, x :: r => if rest = 0 then (rest, ns) else listGo (makeF ns (nPair x rest)).2.2 (makeF ns (nPair x rest)).1 r

def listF (ns : List Nd) (l : List Int) : Int × List Nd :=
  if l.all (hasB ns) then listGo (makeF ns (nText ⟨#[]⟩)).2.2 (makeF ns (nText ⟨#[]⟩)).1 l.reverse else (0, ns)

theorem IntsAt.moved {w w' : World} {v : Value} {l : List Int} {s : Nat} (h : IntsAt w v l) (hf : ∀ b o sp n c, v = .slice (some ⟨b, o, sp⟩) n c → ¬ Own w s b) (hm : Moved s w w') : IntsAt w' v l := by
  obtain ⟨a, cap, rfl, hl, hc⟩ := h
  refine ⟨a, cap, rfl, hl, fun hne => ?_⟩
  obtain ⟨b, off, rfl, hlt, hcell⟩ := hc hne
  refine ⟨b, off, rfl, Nat.lt_of_lt_of_le hlt hm.size, fun i n hi => ?_⟩
  rw [hm.cell hlt (hf b off none _ _ rfl)]
  exact hcell i n hi

theorem free_moved {w w' : World} {v : Value} {l : List Int} {s : Nat} (h : IntsAt w v l) (hne : l ≠ []) (hf : ∀ b o sp n c, v = .slice (some ⟨b, o, sp⟩) n c → ¬ Own w s b) (hm : Moved s w w') : ∀ b o sp n c, v = .slice (some ⟨b, o, sp⟩) n c → ¬ Own w' s b := by
  intro b o sp n c hv ho
  obtain ⟨a, cap, rfl, hl, hc⟩ := h
  obtain ⟨b', off, rfl, hlt, _⟩ := hc hne
  simp at hv
  obtain ⟨⟨rfl, _⟩, _⟩ := hv
  rcases hm.own _ ho with h1 | h1
  · exact hf _ _ _ _ _ rfl h1
  · omega

set_option maxRecDepth 100000 in
set_option maxHeartbeats 2000000 in
theorem list_any {w : World} {s : Nat} {ns : List Nd} {dr : Int} {v : Value} {l : List Int} (h : StoreAt w s ns dr) (hl : IntsAt w v l) (hf : ∀ b o sp n c, v = .slice (some ⟨b, o, sp⟩) n c → ¬ Own w s b) :
    Calls Try.prog 24 #[.pointer (some ⟨s, 0, none⟩), v] w fun e w' => e = .returned (.int .i64 (listF ns l).1) ∧ StoreAt w' s (listF ns l).2 dr ∧ Moved s w w' := by
  obtain ⟨a, cap, rfl, hlen, hne⟩ := id hl
  have hs := h.lt
  go_enter Try.func24, Try.ntmps24
  go_wp2_with fail
  go_loop [11] (fun i => ∃ k : Nat, k ≤ l.length ∧ i = .int .i64 k ∧ ∀ j x, j < k → l[j]? = some x → hasB ns x = true) (fun i => l.length - (intOf i).toNat)
  case atStart => exact ⟨0, Nat.zero_le _, rfl, fun j x hj => absurd hj (Nat.not_lt_zero _)⟩
  case round =>
    obtain ⟨k, hk, rfl, hall⟩ := hrel
    by_cases hlt : k < l.length
    · obtain ⟨b, off, rfl, hbl, hc⟩ := hne (by rintro rfl; simp at hlt)
      obtain ⟨x, hx⟩ : ∃ x, l[k]? = some x := ⟨l[k], by simp [hlt]⟩
      have d0 := hc k x hx
      have Hx : Hid (l[k]? = some x) := hx
      have Hall : Hid (∀ j x, j < k → l[j]? = some x → hasB ns x = true) := hall
      clear hx hc hall
      have Hh : Hid (StoreAt w s ns dr) := h
      cases hb : hasB ns x
      · have HB : Hid (hasB ns x = false) := hb
        have Hc : Hid (Calls Try.prog 31 #[.pointer (some ⟨s, 0, none⟩), .int .i64 x] w fun e w' => e = .returned (.bool false) ∧ w' = w) := by have := has_any h x; rw [hb] at this; exact this
        clear hb
        go_wp2_with fail
        refine Calls.mono Hc.out ?_
        rintro e w3 ⟨rfl, hw3⟩
        subst hw3
        go_wp2_with fail
        go_ret
        have e0 : listF ns l = (0, ns) := by
          unfold listF
          rw [if_neg]
          intro ha
          rw [List.all_eq_true] at ha
          have := ha x (List.mem_of_getElem? Hx.out)
          rw [HB.out] at this
          cases this
        rw [e0]
        exact ⟨rfl, h, Moved.refl _ _⟩
      · have HB : Hid (hasB ns x = true) := hb
        have Hc : Hid (Calls Try.prog 31 #[.pointer (some ⟨s, 0, none⟩), .int .i64 x] w fun e w' => e = .returned (.bool true) ∧ w' = w) := by have := has_any h x; rw [hb] at this; exact this
        clear hb
        go_wp2_with fail
        refine Calls.mono Hc.out ?_
        rintro e w3 ⟨rfl, hw3⟩
        subst hw3
        go_wp2_with fail
        go_round
        case rel =>
          refine ⟨k + 1, by omega, by go_num, fun j y hj hy => ?_⟩
          by_cases hjk : j < k
          · exact Hall.out j y hjk hy
          · have : j = k := by omega
            subst this
            rw [Hx.out] at hy
            simp at hy
            subst hy
            exact HB.out
        case measure => simp [intOf]; omega
    · have HE : Hid (listF ns l = listGo (makeF ns (nText ⟨#[]⟩)).2.2 (makeF ns (nText ⟨#[]⟩)).1 l.reverse) := by
        unfold listF
        rw [if_pos]
        · rfl
        rw [List.all_eq_true]
        intro x hx
        obtain ⟨j, hj⟩ := List.mem_iff_getElem?.1 hx
        exact hall j x (by have := (List.getElem?_eq_some_iff.1 hj).1; omega) hj
      clear hall
      go_wp2_with fail
      refine (text_any h ⟨#[]⟩).mono ?_
      rintro e w3 ⟨rfl, st3, mv3⟩
      have HE2 : Hid (listGo (makeF ns (nText ⟨#[]⟩)).2.2 (makeF ns (nText ⟨#[]⟩)).1 (l.take l.length).reverse = listF ns l) := by
        rw [List.take_length]; exact HE.out.symm
      have st4 : StoreAt w3 s (makeF ns (nText ⟨#[]⟩)).2.2 dr := st3
      have HR : Hid ((makeF ns ⟨2, ⟨#[]⟩, 0, 0⟩).1 = (makeF ns (nText ⟨#[]⟩)).1) := rfl
      clear st3 HE
      go_wp2_with fail
      go_loopw [7, 8] (fun r i wr => ∃ (j : Nat) (nsj : List Nd) (rest : Int), j ≤ l.length ∧ i = .int .i64 ((j : Int) - 1) ∧ r = .int .i64 rest ∧ StoreAt wr s nsj dr ∧ Moved s w wr ∧ listGo nsj rest (l.take j).reverse = listF ns l) (fun _ i _ => (intOf i + 1).toNat)
      case atStart => exact ⟨l.length, _, _, Nat.le_refl _, rfl, rfl, st4, mv3, HE2.out⟩
      case round =>
        clear HE2 st4 HR mv3
        obtain ⟨j, nsj, rest, hj, rfl, rfl, stj, mvj, hfin⟩ := hrel
        cases j with
        | zero =>
          have Hfin : Hid (listGo nsj rest (l.take 0).reverse = listF ns l) := hfin
          clear hfin
          rw [show ((0 : Nat) : Int) - 1 = -1 from by omega]
          go_wp2_with fail
          go_ret
          rw [← Hfin.out]
          simp only [List.take_zero, List.reverse_nil, listGo]
          exact ⟨rfl, stj, mvj⟩
        | succ q =>
          obtain ⟨x, hx⟩ : ∃ x, l[q]? = some x := ⟨l[q], by simp [show q < l.length by omega]⟩
          have e1 : (l.take (q + 1)).reverse = x :: (l.take q).reverse := by
            rw [List.take_add_one, hx]; simp
          rw [e1] at hfin
          have Hfin : Hid (listGo nsj rest (x :: (l.take q).reverse) = listF ns l) := hfin
          rw [show ((q + 1 : Nat) : Int) - 1 = (q : Int) from by omega]
          clear hfin e1
          by_cases hr : rest = 0
          · subst hr
            go_wp2_with fail
            go_ret
            rw [← Hfin.out]
            simp only [listGo, if_true]
            exact ⟨rfl, stj, mvj⟩
          · have hr' : (rest != 0) = true := by simp [hr]
            have hne2 : l ≠ [] := by rintro rfl; simp at hx
            have hij := hl.moved hf mvj
            obtain ⟨a', cap', hv, _, hc⟩ := hij
            obtain ⟨b, off, ha, hbl, hcell⟩ := hc hne2
            simp at hv
            obtain ⟨rfl, rfl⟩ := hv
            subst ha
            have d0 := hcell q x hx
            clear hcell hx hc hne hl
            go_wp2_with fail
            refine (pair_any stj x rest).mono ?_
            rintro e w5 ⟨rfl, st5, mv5⟩
            have Hf2 : Hid (listGo (makeF nsj (nPair x rest)).2.2 (makeF nsj (nPair x rest)).1 (l.take q).reverse = listF ns l) := by
              have := Hfin.out
              simp only [listGo, if_neg hr] at this
              exact this
            clear Hfin
            go_wp2_with fail
            go_roundw
            case rel => exact ⟨q, _, _, by omega, by go_num, rfl, st5, mvj.trans mv5, Hf2.out⟩
            case measure => simp [intOf]

end Go.Proofs.Ytddjihlmlfchdaa
