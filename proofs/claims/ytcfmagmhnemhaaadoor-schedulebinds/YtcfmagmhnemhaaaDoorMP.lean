/-
  The store, pure: what Make leaves; lists.
-/
import Derived.Test.YtcfmagmhnemhaaaDoorMC
import Derived.Maps.AppendAt
namespace Go.Proofs.YtcfmagmhnemhaaaDoor
open Go.RowKit
set_option linter.unusedSimpArgs false
set_option linter.unusedVariables false

/-- A store that the call itself made: it and all of its blocks are new since w0. -/
structure Mine (w0 : World) (s : Nat) (w : World) (ns : List Nd) (dr : Int) : Prop where
  st : StoreAt w s ns dr
  below : Below w0.heap.size w0 w
  own : ∀ k, Own w s k → w0.heap.size ≤ k

theorem Mine.moved {w0 w w' : World} {s : Nat} {ns ns' : List Nd} {dr dr' : Int} (h : Mine w0 s w ns dr) (hs : StoreAt w' s ns' dr') (hm : Moved s w w') : Mine w0 s w' ns' dr' := by
  have hsz := h.below.size
  refine ⟨hs, h.below.trans ⟨hm.os, hm.tape, hm.output, hm.size, fun k hk => hm.block k (by omega) (fun ho => by have := h.own k ho; omega)⟩, fun k hk => ?_⟩
  rcases hm.own k hk with ho | hge
  · exact h.own k ho
  · omega

def nText (l : ByteArray) : Nd := ⟨2, l, 0, 0⟩

def nPair (a b : Int) : Nd := ⟨3, ⟨#[]⟩, a, b⟩

theorem findN_none (n : Nd) : ∀ (ns : List Nd) (i : Nat), findN n ns i = none ↔ n ∉ ns
  | [], i => by simp [findN]
  | m :: r, i => by
    simp only [findN, List.mem_cons, not_or]
    cases hb : n.beq m
    · simp only [Bool.false_eq_true, if_false]
      rw [findN_none n r (i + 1)]
      have : n ≠ m := fun e => by rw [(Nd.beq_iff n m).2 e] at hb; cases hb
      simp [this]
    · simp [(Nd.beq_iff n m).1 hb]

theorem findN_some (n : Nd) : ∀ (ns : List Nd) (i j : Nat), findN n ns i = some j → i ≤ j ∧ ns[j - i]? = some n
  | [], i, j, h => by simp [findN] at h
  | m :: r, i, j, h => by
    simp only [findN] at h
    cases hb : n.beq m
    · rw [hb] at h
      simp only [Bool.false_eq_true, if_false] at h
      obtain ⟨h1, h2⟩ := findN_some n r (i + 1) j h
      refine ⟨by omega, ?_⟩
      rw [show j - i = (j - (i + 1)) + 1 from by omega]
      simpa using h2
    · rw [hb] at h
      simp at h
      subst h
      simp [(Nd.beq_iff n m).1 hb]

/-- The four ways of Make. -/
theorem makeF_cases (ns : List Nd) (n : Nd) :
    (fitsB ns n = false ∧ makeF ns n = (0, 10, ns)) ∨
    (fitsB ns n = true ∧ ∃ j : Nat, ns[j]? = some n ∧ makeF ns n = (((j + 1 : Nat) : Int), 0, ns)) ∨
    (fitsB ns n = true ∧ n ∉ ns ∧ 262144 ≤ ns.length ∧ makeF ns n = (0, 11, ns)) ∨
    (fitsB ns n = true ∧ n ∉ ns ∧ ns.length < 262144 ∧ makeF ns n = (((ns.length + 1 : Nat) : Int), 0, ns ++ [n])) := by
  unfold makeF
  cases hf : fitsB ns n
  · simp
  · rw [if_pos rfl]
    cases hj : findN n ns 0 with
    | some j =>
      obtain ⟨_, h⟩ := findN_some n ns 0 j hj
      exact Or.inr (Or.inl ⟨rfl, j, by simpa using h, rfl⟩)
    | none =>
      have hn := (findN_none n ns 0).1 hj
      by_cases hl : 262144 ≤ ns.length
      · exact Or.inr (Or.inr (Or.inl ⟨rfl, hn, hl, by simp [hl]⟩))
      · exact Or.inr (Or.inr (Or.inr ⟨rfl, hn, by omega, by simp [hl]⟩))

/-- Every node was made behind those ahead of it. -/
def Wf (ns : List Nd) : Prop := ∀ i n, ns[i]? = some n → fitsB (ns.take i) n = true ∧ n ∉ ns.take i

theorem Wf.nil : Wf [] := fun i n h => by simp at h

theorem Wf.snoc {ns : List Nd} {n : Nd} (h : Wf ns) (hf : fitsB ns n = true) (hn : n ∉ ns) : Wf (ns ++ [n]) := by
  intro i m hm
  by_cases hi : i < ns.length
  · rw [List.getElem?_append_left hi] at hm
    rw [List.take_append_of_le_length (by omega)]
    exact h i m hm
  · rw [List.getElem?_append_right (by omega)] at hm
    have h0 : i - ns.length = 0 := by
      have := (List.getElem?_eq_some_iff.1 hm).1
      simp at this; omega
    rw [h0] at hm
    simp at hm
    subst hm
    rw [List.take_append_of_le_length (by omega), List.take_of_length_le (by omega)]
    exact ⟨hf, hn⟩

theorem Wf.make {ns : List Nd} (h : Wf ns) (n : Nd) : Wf (makeF ns n).2.2 := by
  rcases makeF_cases ns n with ⟨_, e⟩ | ⟨_, j, _, e⟩ | ⟨_, _, _, e⟩ | ⟨hf, hn, _, e⟩ <;> rw [e]
  · exact h
  · exact h
  · exact h
  · exact h.snoc hf hn

theorem hasB_iff (ns : List Nd) (t : Int) : hasB ns t = true ↔ 1 ≤ t ∧ t ≤ ns.length := by simp [hasB]

theorem nodeF_at {ns : List Nd} {i : Nat} {n : Nd} (h : ns[i]? = some n) : nodeF ns ((i + 1 : Nat) : Int) = n ∧ hasB ns ((i + 1 : Nat) : Int) = true := by
  have hi := (List.getElem?_eq_some_iff.1 h).1
  have hb : hasB ns ((i + 1 : Nat) : Int) = true := (hasB_iff _ _).2 (by omega)
  refine ⟨?_, hb⟩
  unfold nodeF
  rw [if_pos hb]
  simp [List.getD, h]

theorem Wf.inj {ns : List Nd} (h : Wf ns) {i j : Nat} {n : Nd} (hi : ns[i]? = some n) (hj : ns[j]? = some n) : i = j := by
  have key : ∀ i j : Nat, i < j → ns[i]? = some n → ns[j]? = some n → False := by
    intro i j hlt hi hj
    refine (h j n hj).2 ?_
    rw [List.mem_iff_getElem?]
    exact ⟨i, by rw [List.getElem?_take, if_pos hlt]; exact hi⟩
  rcases Nat.lt_trichotomy i j with hlt | he | hgt
  · exact (key i j hlt hi hj).elim
  · exact he
  · exact (key j i hgt hj hi).elim

theorem nodeF_inv {ns : List Nd} {t : Int} (h : hasB ns t = true) : ∃ i : Nat, t = (i + 1 : Nat) ∧ ns[i]? = some (nodeF ns t) := by
  obtain ⟨h1, h2⟩ := (hasB_iff _ _).1 h
  refine ⟨t.toNat - 1, by omega, ?_⟩
  unfold nodeF
  rw [if_pos h]
  have : t.toNat - 1 < ns.length := by omega
  simp [List.getD, this]

/-- One node, one number. -/
theorem Wf.number {ns : List Nd} (h : Wf ns) {t u : Int} (ht : hasB ns t = true) (hu : hasB ns u = true) (he : nodeF ns t = nodeF ns u) : t = u := by
  obtain ⟨i, rfl, hi⟩ := nodeF_inv ht
  obtain ⟨j, rfl, hj⟩ := nodeF_inv hu
  rw [he] at hi
  rw [h.inj hi hj]

/-- What is known behind a making that went well. -/
structure Mk1 (ns ns' : List Nd) (t : Int) (n : Nd) : Prop where
  pre : ns <+: ns'
  len : ns'.length ≤ ns.length + 1
  node : nodeF ns' t = n
  has : hasB ns' t = true
  wf : Wf ns'

theorem prefix_keeps {ns ns' : List Nd} (h : ns <+: ns') {t : Int} (ht : hasB ns t = true) : hasB ns' t = true ∧ nodeF ns' t = nodeF ns t := by
  obtain ⟨i, rfl, hi⟩ := nodeF_inv ht
  obtain ⟨r, rfl⟩ := h
  have hil := (List.getElem?_eq_some_iff.1 hi).1
  have h2 : (ns ++ r)[i]? = some (nodeF ns ((i + 1 : Nat) : Int)) := by rw [List.getElem?_append_left hil]; exact hi
  exact ⟨(nodeF_at h2).2, (nodeF_at h2).1⟩

theorem Mk1.keeps {ns ns' : List Nd} {t : Int} {n : Nd} (h : Mk1 ns ns' t n) {u : Int} (hu : hasB ns u = true) : hasB ns' u = true ∧ nodeF ns' u = nodeF ns u := prefix_keeps h.pre hu

theorem makeF_ok {ns : List Nd} {n : Nd} (hw : Wf ns) (hf : fitsB ns n = true) (hl : (ns.length : Int) < 262144) : ∃ t ns', makeF ns n = (t, 0, ns') ∧ Mk1 ns ns' t n := by
  rcases makeF_cases ns n with ⟨h, _⟩ | ⟨_, j, hj, e⟩ | ⟨_, _, h, _⟩ | ⟨_, hn, _, e⟩
  · rw [hf] at h; cases h
  · exact ⟨_, _, e, List.prefix_refl _, by omega, (nodeF_at hj).1, (nodeF_at hj).2, hw⟩
  · omega
  · have hx : (ns ++ [n])[ns.length]? = some n := by simp
    exact ⟨_, _, e, List.prefix_append _ _, by simp, (nodeF_at hx).1, (nodeF_at hx).2, hw.snoc hf hn⟩

theorem emptyB_nil : emptyB ⟨#[]⟩ = true := by simp [emptyB]

theorem emptyB_eq {l : ByteArray} (h : emptyB l = true) : l = ⟨#[]⟩ := by
  unfold emptyB at h
  rw [ByteArray.toList_eq, List.isEmpty_iff] at h
  cases l with | mk d =>
  simp at h
  simp [h]

theorem fits_text (ns : List Nd) {l : ByteArray} (h : l.size ≤ 1024) : fitsB ns (nText l) = true := by simp [fitsB, nText, h]

theorem fits_pair {ns : List Nd} {a b : Int} (h : hasB ns a = true) (h2 : hasB ns b = true) : fitsB ns (nPair a b) = true := by simp [fitsB, nPair, emptyB_nil, h, h2]

theorem fits_atom (ns : List Nd) {a : Int} (h : 1 ≤ a) (h2 : a ≤ 1099511627776) : fitsB ns (atom a) = true := by simp [fitsB, atom, emptyB_nil, h, h2]

/-- A made node of a kind without a label has none. -/
theorem Wf.label {ns : List Nd} (h : Wf ns) {t : Int} (ht : hasB ns t = true) (hk : (nodeF ns t).kind = 9) : (nodeF ns t).label = ⟨#[]⟩ := by
  obtain ⟨i, rfl, hi⟩ := nodeF_inv ht
  have hf := (h i _ hi).1
  unfold fitsB at hf
  rw [hk] at hf
  simp only [show (9 : Int) ≠ 1 from by decide, show (9 : Int) ≠ 2 from by decide, show (9 : Int) ≠ 3 from by decide, show (9 : Int) ≠ 4 from by decide, show (9 : Int) ≠ 5 from by decide, show (9 : Int) ≠ 6 from by decide, show (9 : Int) ≠ 7 from by decide, show (9 : Int) ≠ 8 from by decide, if_false, if_true, Bool.and_eq_true] at hf
  exact emptyB_eq hf.1

structure Side (w0 w : World) (s : Nat) (e size : Nat) (v : Value) (n : Nat) (xs : List Value) : Prop where
  own : w.ownsRow w0.heap.size e size v n xs
  free : ∀ g, v.ownBlock = some g → ¬ Own w s g

theorem Side.nil (w0 w : World) (s e size : Nat) : Side w0 w s e size (.slice none 0 0) 0 [] := ⟨World.ownsRow_nil _ _ _ _, fun g h => by simp [Value.ownBlock] at h⟩

theorem Side.moved {w0 w w' : World} {s e size n : Nat} {v : Value} {xs : List Value} (h : Side w0 w s e size v n xs) (hm : Moved s w w') : Side w0 w' s e size v n xs := by
  refine ⟨⟨h.own.1, ?_⟩, fun g hg ho => ?_⟩
  · rcases h.own.2 with hn | ⟨g, cap, cur, rfl, hb, hgg, rest⟩
    · exact Or.inl hn
    · refine Or.inr ⟨g, cap, cur, rfl, hb, ?_, rest⟩
      rw [hm.block g (Array.getElem?_eq_some_iff.1 hgg).1 (h.free g rfl)]
      exact hgg
  · have hlt := (h.own.lt g hg).2
    rcases hm.own g ho with h1 | h1
    · exact h.free g hg h1
    · omega

theorem Side.form {w0 w : World} {s e size n : Nat} {v : Value} {xs : List Value} (h : Side w0 w s e size v n xs) : ∃ a cap, v = .slice a n cap := by
  rcases h.own.2 with ⟨rfl, rfl⟩ | ⟨g, cap, cur, rfl, _⟩
  · exact ⟨_, _, rfl⟩
  · exact ⟨_, _, rfl⟩

/-- The cells of a node of the law's own slice. -/
theorem Side.node {w0 w : World} {s : Nat} {v : Value} {ns : List Nd} (h : Side w0 w s 71 4 v ns.length (flat ns)) {j : Nat} {n : Nd} (hj : ns[j]? = some n) :
    ∃ g cap, v = .slice (some ⟨g, 0, none⟩) ns.length cap ∧ g < w.heap.size ∧ w.cell? ⟨g, j * 4, none⟩ = some (.int .i64 n.kind) ∧ w.cell? ⟨g, j * 4 + 1, none⟩ = some (.string n.label) ∧ w.cell? ⟨g, j * 4 + 2, none⟩ = some (.int .i64 n.a) ∧ w.cell? ⟨g, j * 4 + 3, none⟩ = some (.int .i64 n.b) := by
  have hjl := (List.getElem?_eq_some_iff.1 hj).1
  rcases h.own.2 with ⟨_, h0⟩ | ⟨g, cap, cur, rfl, hb, hgg, rest⟩
  · omega
  · have c : ∀ r, r < 4 → w.cell? ⟨g, j * 4 + r, none⟩ = n.cells[r]? := fun r hr => by
      rw [World.ownsRow.cellAt h.own _ (by omega), flat_get n ns j hj r hr]
    exact ⟨g, cap, rfl, (Array.getElem?_eq_some_iff.1 hgg).1, c 0 (by omega), c 1 (by omega), c 2 (by omega), c 3 (by omega)⟩

theorem StoreAt.drewN {w : World} {s : Nat} {ns : List Nd} {dr : Int} (h : StoreAt w s ns dr) (n : Nat) : StoreAt (w.drewN n) s ns dr := h

theorem Mine.drewN {w0 w : World} {s : Nat} {ns : List Nd} {dr : Int} (h : Mine w0 s w ns dr) (n : Nat) : Mine w0 s (w.drewN n) ns dr := ⟨h.st, below_drewN h.below n, h.own⟩

theorem Side.drewN {w0 w : World} {s e size n : Nat} {v : Value} {xs : List Value} (h : Side w0 w s e size v n xs) (k : Nat) : Side w0 (w.drewN k) s e size v n xs := ⟨h.own, h.free⟩

theorem Moved.cell {s : Nat} {w w' : World} (h : Moved s w w') {b : Nat} (hb : b < w.heap.size) (hn : ¬ Own w s b) (o : Nat) : w'.cell? ⟨b, o, none⟩ = w.cell? ⟨b, o, none⟩ := World.cell?_of_block (h.block b hb hn)

/-- The pairs of a list, the items from the last to the first. -/
def listGo : List Nd → Int → List Int → Int × List Nd
  | ns, rest, [] => (rest, ns)
  | ns, rest, x :: r => if rest = 0 then (rest, ns) else listGo (makeF ns (nPair x rest)).2.2 (makeF ns (nPair x rest)).1 r

def listF (ns : List Nd) (l : List Int) : Int × List Nd :=
  if l.all (hasB ns) then listGo (makeF ns (nText ⟨#[]⟩)).2.2 (makeF ns (nText ⟨#[]⟩)).1 l.reverse else (0, ns)

theorem IntsAt.moved {w w' : World} {v : Value} {l : List Int} {s : Nat} (h : IntsAt w v l) (hf : ∀ b o sp n c, v = .slice (some ⟨b, o, sp⟩) n c → ¬ Own w s b) (hm : Moved s w w') : IntsAt w' v l := by
  obtain ⟨a, cap, rfl, hl, hc⟩ := h
  refine ⟨a, cap, rfl, hl, fun hne => ?_⟩
  obtain ⟨b, off, rfl, hlt, hcell⟩ := hc hne
  refine ⟨b, off, rfl, Nat.lt_of_lt_of_le hlt hm.size, fun i n hi => ?_⟩
  rw [hm.cell hlt (hf b off none _ _ rfl)]
  exact hcell i n hi

set_option maxRecDepth 100000 in
set_option maxHeartbeats 2000000 in
theorem list_any {w : World} {s : Nat} {ns : List Nd} {dr : Int} {v : Value} {l : List Int} (h : StoreAt w s ns dr) (hl : IntsAt w v l) (hf : ∀ b o sp n c, v = .slice (some ⟨b, o, sp⟩) n c → ¬ Own w s b) :
    Calls Tryd.prog 34 #[.pointer (some ⟨s, 0, none⟩), v] w fun e w' => e = .returned (.int .i64 (listF ns l).1) ∧ StoreAt w' s (listF ns l).2 dr ∧ Moved s w w' := by
  obtain ⟨a, cap, rfl, hlen, hne⟩ := id hl
  have hs := h.lt
  go_enter Tryd.func34, Tryd.ntmps34
  go_wp2_with fail
  go_loop [11] (fun i => ∃ k : Nat, k ≤ l.length ∧ i = .int .i64 k ∧ ∀ j x, j < k → l[j]? = some x → hasB ns x = true) (fun i => l.length - (intOf i).toNat)
  case atStart => exact ⟨0, Nat.zero_le _, rfl, fun j x hj => absurd hj (Nat.not_lt_zero _)⟩
  case round =>
    obtain ⟨k, hk, rfl, hall⟩ := hrel
    by_cases hlt : k < l.length
    · obtain ⟨b, off, rfl, hbl, hc⟩ := hne (by rintro rfl; simp at hlt)
      obtain ⟨x, hx⟩ : ∃ x, l[k]? = some x := ⟨l[k], by simp [hlt]⟩
      have d0 := hc k x hx
      have Hx : Hid (l[k]? = some x) := hx
      have Hall : Hid (∀ j x, j < k → l[j]? = some x → hasB ns x = true) := hall
      clear hx hc hall
      have Hh : Hid (StoreAt w s ns dr) := h
      cases hb : hasB ns x
      · have HB : Hid (hasB ns x = false) := hb
        have Hc : Hid (Calls Tryd.prog 47 #[.pointer (some ⟨s, 0, none⟩), .int .i64 x] w fun e w' => e = .returned (.bool false) ∧ w' = w) := by have := has_any h x; rw [hb] at this; exact this
        clear hb
        go_wp2_with fail
        refine Calls.mono Hc.out ?_
        rintro e w3 ⟨rfl, hw3⟩
        subst hw3
        go_wp2_with fail
        go_ret
        have e0 : listF ns l = (0, ns) := by
          unfold listF
          rw [if_neg]
          intro ha
          rw [List.all_eq_true] at ha
          have := ha x (List.mem_of_getElem? Hx.out)
          rw [HB.out] at this
          cases this
        rw [e0]
        exact ⟨rfl, h, Moved.refl _ _⟩
      · have HB : Hid (hasB ns x = true) := hb
        have Hc : Hid (Calls Tryd.prog 47 #[.pointer (some ⟨s, 0, none⟩), .int .i64 x] w fun e w' => e = .returned (.bool true) ∧ w' = w) := by have := has_any h x; rw [hb] at this; exact this
        clear hb
        go_wp2_with fail
        refine Calls.mono Hc.out ?_
        rintro e w3 ⟨rfl, hw3⟩
        subst hw3
        go_wp2_with fail
        go_round
        case rel =>
          refine ⟨k + 1, by omega, by go_num, fun j y hj hy => ?_⟩
          by_cases hjk : j < k
          · exact Hall.out j y hjk hy
          · have : j = k := by omega
            subst this
            rw [Hx.out] at hy
            simp at hy
            subst hy
            exact HB.out
        case measure => simp [intOf]; omega
    · have HE : Hid (listF ns l = listGo (makeF ns (nText ⟨#[]⟩)).2.2 (makeF ns (nText ⟨#[]⟩)).1 l.reverse) := by
        unfold listF
        rw [if_pos]
        · rfl
        rw [List.all_eq_true]
        intro x hx
        obtain ⟨j, hj⟩ := List.mem_iff_getElem?.1 hx
        exact hall j x (by have := (List.getElem?_eq_some_iff.1 hj).1; omega) hj
      clear hall
      go_wp2_with fail
      refine (text_any h ⟨#[]⟩).mono ?_
      rintro e w3 ⟨rfl, st3, mv3⟩
      have HE2 : Hid (listGo (makeF ns (nText ⟨#[]⟩)).2.2 (makeF ns (nText ⟨#[]⟩)).1 (l.take l.length).reverse = listF ns l) := by
        rw [List.take_length]; exact HE.out.symm
      have st4 : StoreAt w3 s (makeF ns (nText ⟨#[]⟩)).2.2 dr := st3
      have HR : Hid ((makeF ns ⟨2, ⟨#[]⟩, 0, 0⟩).1 = (makeF ns (nText ⟨#[]⟩)).1) := rfl
      clear st3 HE
      go_wp2_with fail
      go_loopw [7, 8] (fun r i wr => ∃ (j : Nat) (nsj : List Nd) (rest : Int), j ≤ l.length ∧ i = .int .i64 ((j : Int) - 1) ∧ r = .int .i64 rest ∧ StoreAt wr s nsj dr ∧ Moved s w wr ∧ listGo nsj rest (l.take j).reverse = listF ns l) (fun _ i _ => (intOf i + 1).toNat)
      case atStart => exact ⟨l.length, _, _, Nat.le_refl _, rfl, rfl, st4, mv3, HE2.out⟩
      case round =>
        clear HE2 st4 HR mv3
        obtain ⟨j, nsj, rest, hj, rfl, rfl, stj, mvj, hfin⟩ := hrel
        cases j with
        | zero =>
          have Hfin : Hid (listGo nsj rest (l.take 0).reverse = listF ns l) := hfin
          clear hfin
          rw [show ((0 : Nat) : Int) - 1 = -1 from by omega]
          go_wp2_with fail
          go_ret
          rw [← Hfin.out]
          simp only [List.take_zero, List.reverse_nil, listGo]
          exact ⟨rfl, stj, mvj⟩
        | succ q =>
          obtain ⟨x, hx⟩ : ∃ x, l[q]? = some x := ⟨l[q], by simp [show q < l.length by omega]⟩
          have e1 : (l.take (q + 1)).reverse = x :: (l.take q).reverse := by
            rw [List.take_add_one, hx]; simp
          rw [e1] at hfin
          have Hfin : Hid (listGo nsj rest (x :: (l.take q).reverse) = listF ns l) := hfin
          rw [show ((q + 1 : Nat) : Int) - 1 = (q : Int) from by omega]
          clear hfin e1
          by_cases hr : rest = 0
          · subst hr
            go_wp2_with fail
            go_ret
            rw [← Hfin.out]
            simp only [listGo, if_true]
            exact ⟨rfl, stj, mvj⟩
          · have hr' : (rest != 0) = true := by simp [hr]
            have hne2 : l ≠ [] := by rintro rfl; simp at hx
            have hij := hl.moved hf mvj
            obtain ⟨a', cap', hv, _, hc⟩ := hij
            obtain ⟨b, off, ha, hbl, hcell⟩ := hc hne2
            simp at hv
            obtain ⟨rfl, rfl⟩ := hv
            subst ha
            have d0 := hcell q x hx
            clear hcell hx hc hne hl
            go_wp2_with fail
            refine (pair_any stj x rest).mono ?_
            rintro e w5 ⟨rfl, st5, mv5⟩
            have Hf2 : Hid (listGo (makeF nsj (nPair x rest)).2.2 (makeF nsj (nPair x rest)).1 (l.take q).reverse = listF ns l) := by
              have := Hfin.out
              simp only [listGo, if_neg hr] at this
              exact this
            clear Hfin
            go_wp2_with fail
            go_roundw
            case rel => exact ⟨q, _, _, by omega, by go_num, rfl, st5, mvj.trans mv5, Hf2.out⟩
            case measure => simp [intOf]

/-- The term t is the list of these. -/
def IsL (ns : List Nd) : Int → List Int → Prop
  | t, [] => hasB ns t = true ∧ nodeF ns t = nText ⟨#[]⟩
  | t, x :: r => hasB ns t = true ∧ ∃ u, nodeF ns t = nPair x u ∧ IsL ns u r

theorem IsL.has {ns : List Nd} {t : Int} {l : List Int} (h : IsL ns t l) : hasB ns t = true := by
  cases l <;> exact h.1

theorem IsL.keeps {ns ns' : List Nd} (hp : ns <+: ns') : ∀ {l : List Int} {t : Int}, IsL ns t l → IsL ns' t l
  | [], t, h => ⟨(prefix_keeps hp h.1).1, (prefix_keeps hp h.1).2.trans h.2⟩
  | x :: r, t, h => by
    obtain ⟨h1, u, h2, h3⟩ := h
    exact ⟨(prefix_keeps hp h1).1, u, (prefix_keeps hp h1).2.trans h2, IsL.keeps hp h3⟩

theorem IsL.inj {ns : List Nd} (hw : Wf ns) : ∀ {l : List Int} {t u : Int}, IsL ns t l → IsL ns u l → t = u
  | [], t, u, h, k => hw.number h.1 k.1 (h.2.trans k.2.symm)
  | x :: r, t, u, h, k => by
    obtain ⟨h1, a, h2, h3⟩ := h
    obtain ⟨k1, b, k2, k3⟩ := k
    have := IsL.inj hw h3 k3
    subst this
    exact hw.number h1 k1 (h2.trans k2.symm)

theorem listGo_ok (xs : List Int) : ∀ (ns : List Nd) (rest : Int) (done : List Int), Wf ns → IsL ns rest done → (∀ x ∈ xs, hasB ns x = true) → (ns.length : Int) + xs.length < 262144 →
    ∃ t ns', listGo ns rest xs = (t, ns') ∧ ns <+: ns' ∧ Wf ns' ∧ IsL ns' t (xs.reverse ++ done) ∧ ns'.length ≤ ns.length + xs.length := by
  induction xs with
  | nil => exact fun ns rest done hw hd _ _ => ⟨rest, ns, rfl, List.prefix_refl _, hw, by simpa using hd, by simp⟩
  | cons x r ih =>
    intro ns rest done hw hd hall hl
    have h0 : rest ≠ 0 := by have := (hasB_iff _ _).1 hd.has; omega
    simp only [List.length_cons] at hl
    obtain ⟨t1, ns1, hk, hm⟩ := makeF_ok hw (fits_pair (hall x (by simp)) hd.has) (by omega)
    have hm2 := hm.len
    obtain ⟨t, ns', e, hp, hw', hL, hlen⟩ := ih ns1 t1 (x :: done) hm.wf ⟨hm.has, rest, hm.node, hd.keeps hm.pre⟩ (fun y hy => (hm.keeps (hall y (by simp [hy]))).1) (by omega)
    refine ⟨t, ns', ?_, hm.pre.trans hp, hw', by simpa using hL, by simp only [List.length_cons]; omega⟩
    simp only [listGo, if_neg h0]
    rw [hk]
    exact e

theorem listF_ok {ns : List Nd} {l : List Int} (hw : Wf ns) (hall : ∀ x ∈ l, hasB ns x = true) (hl : (ns.length : Int) + l.length + 1 < 262144) :
    ∃ t ns', listF ns l = (t, ns') ∧ ns <+: ns' ∧ Wf ns' ∧ IsL ns' t l ∧ ns'.length ≤ ns.length + l.length + 1 := by
  obtain ⟨t1, ns1, hk, hm⟩ := makeF_ok hw (fits_text ns (l := ⟨#[]⟩) (by decide)) (by omega)
  have hm2 := hm.len
  obtain ⟨t, ns', e, hp, hw', hL, hlen⟩ := listGo_ok l.reverse ns1 t1 [] hm.wf ⟨hm.has, hm.node⟩ (fun y hy => (hm.keeps (hall y (by simpa using hy))).1) (by simp; omega)
  refine ⟨t, ns', ?_, hm.pre.trans hp, hw', by simpa using hL, by simp at hlen; omega⟩
  unfold listF
  rw [if_pos (by rw [List.all_eq_true]; exact hall), hk]
  exact e

/-- The k first atoms. -/
def atoms : Nat → List Nd
  | 0 => []
  | k + 1 => atoms k ++ [atom ((k : Int) + 1)]

theorem atoms_length : ∀ k, (atoms k).length = k
  | 0 => rfl
  | k + 1 => by simp [atoms, atoms_length k]

theorem atoms_mem : ∀ (k : Nat) (n : Nd), n ∈ atoms k → ∃ i : Nat, i < k ∧ n = atom ((i : Int) + 1)
  | 0, n, h => by simp [atoms] at h
  | k + 1, n, h => by
    simp [atoms] at h
    rcases h with h | h
    · obtain ⟨i, hi, e⟩ := atoms_mem k n h
      exact ⟨i, by omega, e⟩
    · exact ⟨k, by omega, h⟩

theorem atoms_make (k : Nat) (hk : k ≤ 2000) : makeF (atoms k) (atom ((k : Int) + 1)) = ((k : Int) + 1, 0, atoms (k + 1)) := by
  have hf := fits_atom (atoms k) (a := (k : Int) + 1) (by omega) (by omega)
  have hn : atom ((k : Int) + 1) ∉ atoms k := fun h => by
    obtain ⟨i, hi, e⟩ := atoms_mem k _ h
    simp [atom] at e
    omega
  rcases makeF_cases (atoms k) (atom ((k : Int) + 1)) with ⟨h, _⟩ | ⟨_, j, hj, e⟩ | ⟨_, _, h, _⟩ | ⟨_, _, _, e⟩
  · rw [hf] at h; cases h
  · exact absurd (List.mem_of_getElem? hj) hn
  · rw [atoms_length] at h; omega
  · rw [e, atoms_length]
    simp [atoms]

theorem atoms_wf : ∀ k, k ≤ 2000 → Wf (atoms k)
  | 0, _ => Wf.nil
  | k + 1, hk => by
    have := (atoms_wf k (by omega)).make (atom ((k : Int) + 1))
    rw [atoms_make k (by omega)] at this
    exact this

end Go.Proofs.YtcfmagmhnemhaaaDoor
