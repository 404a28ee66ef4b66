/-
  What Parents asks ahead of its loop, and the iterator that it goes over.
-/
import Derived.Test.YtmcjincgppddeaaDoorEF
import Derived.Test.YtmcjincgppddeaaDoorAK0
import Derived.RangeFuncWrites
namespace Go.Proofs.YtmcjincgppddeaaDoor
open Go.RowKit Go.Shelf
set_option linter.unusedSimpArgs false
set_option linter.unusedVariables false

set_option maxHeartbeats 1000000 in
theorem isLeaf_m {w : World} {v : Value} {t : Tree} (ht : TreeAt w v t) (hs : Sh t) (i : Int) :
    Calls Tryd.prog 52 #[v, .int .i64 i] w fun e w' => e = .returned (.bool (decide (0 ≤ i) && decide (i < (lv t : Int)))) ∧ w' = w := by
  by_cases h0 : 0 ≤ i
  · go_enter Tryd.func52, Tryd.ntmps52
    go_wp2_with (go_at_call 43; refine (Leaves_sh ht hs).mono ?_; rintro e w' ⟨rfl, hw⟩; obtain rfl := hw.symm)
    all_goals go_ret
    all_goals exact ⟨by simp [*] <;> omega, rfl⟩
  · have h0' : decide (0 ≤ i) = false := by simpa using h0
    go_enter Tryd.func52, Tryd.ntmps52
    go_wp2_with (go_at_call 43; refine (Leaves_sh ht hs).mono ?_; rintro e w' ⟨rfl, hw⟩; obtain rfl := hw.symm)
    all_goals go_ret
    all_goals exact ⟨by simp [*] <;> omega, rfl⟩

set_option maxRecDepth 100000 in
set_option maxHeartbeats 4000000 in
theorem pathHasTerms_m {t : Tree} (hf : Fit t) {g : Int → Tm} {w : World} {s : Nat} {ns : List Nd} {dr : Int} {v vc vk : Value} (h : Seat w s ns dr) (ht : TS w s v t) {cs ks : List Int} (hc : IntsAt w vc cs) (hk : IntsAt w vk ks) (hl : ks.length = cs.length)
    (hks : ∀ k ∈ ks, hasB ns k = true) (hkn : ∀ x ∈ cs, ∀ z, underB z x (lv t) = true → Known ns g (vx t z.toNat)) :
    Calls Tryd.prog 53 #[.pointer (some ⟨s, 0, none⟩), v, vc, vk] w fun e w' => e = .returned (.bool true) ∧ Below w.heap.size w w' := by
  have Hc : Hid (IntsAt w vc cs) := hc
  have Hk : Hid (IntsAt w vk ks) := hk
  obtain ⟨ca, ccap, rfl, _, _⟩ := id hc
  obtain ⟨ka, kcap, rfl, hk63, _⟩ := id hk
  have HL : Hid (ks.length = cs.length) := hl
  have HT : Hid (TS w s v t) := ht
  have HS : Hid (Seat w s ns dr) := h
  have H1 : Hid (∀ k ∈ ks, hasB ns k = true) := hks
  have H2 : Hid (∀ x ∈ cs, ∀ z, underB z x (lv t) = true → Known ns g (vx t z.toNat)) := hkn
  have h63 : Hid ((ks.length : Int) ≤ 9223372036854775807) := hk63
  clear hc hk hl ht h hks hkn hk63
  go_enter Tryd.func53, Tryd.ntmps53
  go_wp2_with fail
  go_loopw [12] (fun k wr => ∃ i : Nat, i ≤ ks.length ∧ k = .int .i64 i ∧ Hid (Below w.heap.size w wr)) (fun k _ => ks.length - (intOf k).toNat)
  case atStart => exact ⟨0, Nat.zero_le _, rfl, Below.refl _ _⟩
  case round =>
    obtain ⟨i, hi, rfl, HB⟩ := hrel
    by_cases hlt : i < ks.length
    · obtain ⟨x, hx⟩ : ∃ x, ks[i]? = some x := ⟨ks[i], by simp [hlt]⟩
      obtain ⟨y, hy⟩ : ∃ y, cs[i]? = some y := ⟨cs[i]'(by have := HL.out; omega), by simp⟩
      obtain ⟨b1, o1, cap1, e1, l1, c1, -⟩ := ((Hk.out.below HB.out).p).item hx
      obtain ⟨b2, o2, cap2, e2, l2, c2, -⟩ := ((Hc.out.below HB.out).p).item hy
      cases e1
      cases e2
      have i1 : (i : Int) < (ks.length : Int) := by omega
      have i2 : (i : Int) < (cs.length : Int) := by have := HL.out; omega
      have i0 : (0 : Int) ≤ (i : Int) := by omega
      have hS := HS.out.below HB.out
      have hti := isTerm_m hS.st x
      rw [H1.out x (List.mem_of_getElem? hx)] at hti
      have HS1 : Hid (Seat wr s ns dr) := hS
      have HT1 : Hid (TS wr s v t) := HT.out.below HS.out.st.lt HB.out
      have Hy : Hid (∀ z, underB z y (lv t) = true → Known ns g (vx t z.toNat)) := H2.out y (List.mem_of_getElem? hy)
      have c2' : ∀ w', Below wr.heap.size wr w' → w'.cell? ⟨b2, o2 + i, none⟩ = some (.int .i64 y) := fun w' hb => (hb.cell (p := ⟨b2, o2 + i, none⟩) l2).trans c2
      clear hx hy hS
      go_wp2_with fail
      refine hti.mono ?_
      rintro e w1 ⟨rfl, hb1⟩
      have c3 := c2' w1 hb1
      have htb := termsBelow_m hf (HS1.out.below hb1) (HT1.out.below HS1.out.st.lt hb1) y Hy.out
      have HB1 : Hid (Below w.heap.size w w1) := on HB.out hb1
      have Hb1 : Hid (Below wr.heap.size wr w1) := hb1
      clear c2' hb1 hti
      go_wp2_with fail
      refine htb.mono ?_
      rintro e w2 ⟨rfl, hb2⟩
      have HB2 : Hid (Below w.heap.size w w2) := on HB1.out hb2
      clear htb hb2
      go_wp2_with fail
      go_roundw
      case rel => exact ⟨i + 1, by omega, by have := h63.out; go_num, HB2⟩
      case measure => simp [intOf]; omega
    · have e : ¬ (i : Int) < (ks.length : Int) := by omega
      go_wp2_with fail
      go_ret
      exact ⟨rfl, HB.out⟩

attribute [local go_sem] Oper.semAt_some

theorem backward_any (a : Option Addr) (n c : Nat) (w : World) :
    Calls Tryd.prog 54 #[.slice a n c] w fun e w' => e = .returned (.func (.func 83) #[] #[.pointer (some ⟨w.heap.size, 0, none⟩)]) ∧ w' = w.alloc (.cells #[.slice a n c] 30) := by
  go_enter Tryd.func54, Tryd.ntmps54
  go_wp2
  go_ret
  exact ⟨by simp, rfl⟩

/-- What a round keeps: the blocks of a kind. -/
def KpB (q : Nat → Prop) (W W' : World) : Prop := ∀ b, q b → W'.heap[b]? = W.heap[b]?
theorem KpB.t {q : Nat → Prop} {A B C : World} (h : KpB q A B) (k : KpB q B C) : KpB q A C := fun b hb => (k b hb).trans (h b hb)
theorem KpB.b {q : Nat → Prop} {w : World} (hq : ∀ b, q b → b < w.heap.size) (W : World) (l : Nat) (o o' : Obj) (hl : w.heap.size ≤ l) (h : W.heap[l]? = some o) (h1 : o.isCells = false) (h2 : o.isWalk = false) : KpB q W (W.putObj l o') :=
  fun b hb => World.putObj_heap_other (by have := hq b hb; omega)

/-- An index of a list, and what stands there. -/
abbrev Ix (l : List Int) := { k : Nat // k < l.length }
def Ix.enc {l : List Int} (k : Ix l) : Array Value := #[.int .i64 k.1, .int .i64 (l[k.1]'k.2)]

/-- The list of numbers that is read lies in a block. -/
structure Keys (W : World) (Bk : Nat) (ks : List Int) (a : Option Addr) (cap : Nat) (q : Nat → Prop) : Prop where
  head : W.cell? ⟨Bk, 0, none⟩ = some (.slice a ks.length cap)
  hq : q Bk
  items : ks ≠ [] → ∃ b off, a = some ⟨b, off, none⟩ ∧ q b ∧ ∀ (i : Nat) (x : Int), ks[i]? = some x → W.cell? ⟨b, off + i, none⟩ = some (.int .i64 x)

theorem Keys.kept {W W' : World} {Bk : Nat} {ks : List Int} {a : Option Addr} {cap : Nat} {q : Nat → Prop} (h : Keys W Bk ks a cap q) (hk : KpB q W W') : Keys W' Bk ks a cap q := by
  refine ⟨(World.cell?_of_block (w := W) (a := ⟨Bk, 0, none⟩) (hk Bk h.hq)).trans h.head, h.hq, fun hne => ?_⟩
  obtain ⟨b, off, e, hq, hc⟩ := h.items hne
  exact ⟨b, off, e, hq, fun i x hx => (World.cell?_of_block (w := W) (a := ⟨b, off + i, none⟩) (hk b hq)).trans (hc i x hx)⟩

theorem range_snoc (k : Nat) : (List.range (k + 1)).reverse = k :: (List.range k).reverse := by simp [List.range_succ]

set_option maxRecDepth 100000 in
set_option maxHeartbeats 2000000 in
theorem back1_in (n1 : Nat) (hn1 : 1 ≤ n1) (l Bk : Nat) (ks : List Int) (a : Option Addr) (cap : Nat) (q : Nat → Prop) (J Jx : List (Ix ks) → World → Prop)
    (hY : ∀ pre (x : Ix ks) W, J pre W → pre.length < ks.length → YieldAt Fence.wide (n1 - 1) Tryd.prog l x.enc W fun e W' =>
      (e = .returned (.bool true) ∧ J (pre ++ [x]) W' ∧ KpB q W W') ∨ (e = .returned (.bool false) ∧ Jx (pre ++ [x]) W'))
    (W : World) (hK : Keys W Bk ks a cap q) (hlen : ks.length ≤ 1000) (h0 : J [] W) :
    CallsIn Fence.wide n1 Tryd.prog 83 #[.func (.yield l) #[] #[], .pointer (some ⟨Bk, 0, none⟩)] W fun e W' => (∃ v, e = .returned v) ∧
      ((∃ ys : List (Ix ks), ys.map (·.1) = (List.range ks.length).reverse ∧ J ys W') ∨ (∃ pre : List (Ix ks), True ∧ Jx pre W')) := by
  have hh := hK.head
  have kw : IntKind.i64.wrap ((ks.length : Int) - 1) = (ks.length : Int) - 1 := wrap_at (by omega) (by omega)
  refine callsIn_of_wp Tryd.func83 rfl trivial ?_ rfl
  simp only [Tryd.ntmps83, List.size_toArray, List.length_cons, List.length_nil, Nat.reduceAdd, Nat.reduceSub, Array.replicate_succ, Array.replicate_zero, List.push_toArray, List.append_toArray, List.nil_append, List.cons_append]
  gi_wp2
  gi_loopw [3] (fun p wr => ∃ (pre : List (Ix ks)) (k : Nat), k ≤ ks.length ∧ p = .int .i64 ((k : Int) - 1) ∧ pre.length + k = ks.length ∧ pre.map (·.1) ++ (List.range k).reverse = (List.range ks.length).reverse ∧ KpB q W wr ∧ J pre wr)
    (fun p _ => (intOf p + 1).toNat)
  case atStart => exact ⟨[], ks.length, Nat.le_refl _, rfl, by simp, by simp, fun _ _ => rfl, h0⟩
  case round =>
    obtain ⟨pre, k, hk, rfl, hpl, hpre, hkp, hJ⟩ := hrel
    cases k with
    | zero =>
      have d0 : ¬ (0 : Int) ≤ ((0 : Nat) : Int) - 1 := by omega
      gi_wp2
      go_end0
      exact ⟨⟨_, rfl⟩, .inl ⟨pre, by simpa using hpre, hJ⟩⟩
    | succ k =>
      have hkl : k < ks.length := by omega
      obtain ⟨fn, tmps, assign, body, hy, hR⟩ := hY pre ⟨k, hkl⟩ wr hJ (by omega)
      have hKr := hK.kept hkp
      obtain ⟨b, off, rfl, hqb, hcs⟩ := hKr.items (by rintro e; rw [e] at hkl; simp at hkl)
      have hhr := hKr.head
      have hcr := hcs k (ks[k]'hkl) (by simp [hkl])
      have e1 : (((k + 1 : Nat) : Int) - 1) = (k : Int) := by omega
      have i0 : (0 : Int) ≤ (k : Int) := by omega
      have i1 : (k : Int) < (ks.length : Int) := by omega
      have kw2 : IntKind.i64.wrap ((k : Int) - 1) = (k : Int) - 1 := wrap_at (by omega) (by omega)
      dsimp only [Ix.enc] at hy
      rw [e1]
      gi_wp2
      refine hR.mono ?_
      rintro e W3 (⟨rfl, hJ3, hk3⟩ | ⟨rfl, hJx3⟩)
      · gi_wp2
        go_roundw
        case rel => exact ⟨pre ++ [⟨k, hkl⟩], k, by omega, rfl, by simp; omega, by rw [← hpre, range_snoc]; simp, hkp.t hk3, hJ3⟩
        case measure => simp [intOf]
      · gi_wp2
        refine bodyPost_ret (results_none rfl _ _ _) rfl ?_
        exact ⟨⟨_, rfl⟩, .inr ⟨_, trivial, hJx3⟩⟩

theorem back_stops (n1 : Nat) (hn1 : 1 ≤ n1) (Bk : Nat) (ks : List Int) (a : Option Addr) (cap : Nat) (q : Nat → Prop) (w : World) (hK : Keys w Bk ks a cap q) (hq : ∀ b, q b → b < w.heap.size) (hlen : ks.length ≤ 1000) :
    SeqStopsK Fence.wide n1 Tryd.prog 83 #[.pointer (some ⟨Bk, 0, none⟩)] (fun x : Ix ks => x.enc) (KpB q) (fun ys => ys.map (·.1) = (List.range ks.length).reverse) (fun _ => True) ks.length w := fun l J Jx W hW _ _ hY h0 =>
  back1_in n1 hn1 l Bk ks a cap q J Jx hY W (hK.kept (fun b hb => hW.block b (hq b hb))) hlen h0

end Go.Proofs.YtmcjincgppddeaaDoor
