/-
  Items: a list taken apart; and Ints, the comparison of two lists of numbers.
-/
import Derived.Test.YtddjihlmlfchdaaTermG
namespace Go.Proofs.Ytddjihlmlfchdaa
open Go.RowKit
set_option linter.unusedSimpArgs false
set_option linter.unusedVariables false

/-- Items, by at most as many steps as the number is great. -/
def itemsGo (ns : List Nd) : Nat → Nd → Option (List Int)
  | 0, _ => none
  | f + 1, n => if n.beq (nText ⟨#[]⟩) then some [] else if n.kind = 3 then (itemsGo ns f (nodeF ns n.b)).map (n.a :: ·) else none

/-- How many steps are left: the rest's number. -/
def stepsOf (w : World) (v : Value) : Nat :=
  match v with
  | .pointer (some a) => match w.cell? ⟨a.block, 3, none⟩ with
    | some (.int _ q) => q.toNat
    | _ => 0
  | _ => 0

theorem Wf.lower {ns : List Nd} (h : Wf ns) (t : Int) (ht : 1 ≤ t) : 0 ≤ (nodeF ns t).b ∧ (nodeF ns t).b < t := by
  cases hb : hasB ns t
  · unfold nodeF
    rw [hb]
    simp [Nd.zero]
    omega
  · obtain ⟨i, rfl, hi⟩ := nodeF_inv hb
    have := h.parts hi
    omega

/-- More steps change nothing once there are enough. -/
theorem itemsGo_more (ns : List Nd) (hw : Wf ns) : ∀ (f : Nat) (n : Nd) (m : Nat), 0 ≤ n.b → n.b.toNat < f → f ≤ m → (n.kind = 3 → 1 ≤ n.b) → itemsGo ns m n = itemsGo ns f n
  | 0, n, m, h0, h, _, _ => by omega
  | f + 1, n, m, h0, h, hm, hk => by
    obtain ⟨m', rfl⟩ : ∃ m', m = m' + 1 := ⟨m - 1, by omega⟩
    simp only [itemsGo]
    split
    · rfl
    · split
      · rename_i h3
        have hb1 := hk h3
        have hl := hw.lower n.b hb1
        rw [itemsGo_more ns hw f (nodeF ns n.b) m' hl.1 (by omega) (by omega) (fun e => ?_)]
        have hhas : hasB ns n.b = true := nodeF_kind_has (by rw [e]; decide)
        obtain ⟨i, hi1, hi⟩ := nodeF_inv hhas
        have hf := (hw i _ hi).1
        unfold fitsB at hf
        rw [e] at hf
        simp only [show (3 : Int) ≠ 1 from by decide, show (3 : Int) ≠ 2 from by decide, if_false, if_true, Bool.and_eq_true] at hf
        exact ((hasB_iff _ _).1 hf.2.2).1
      · rfl

def itemsF (ns : List Nd) (t : Int) : Option (List Int) := itemsGo ns (ns.length + 1) (nodeF ns t)

/-- A node as it lies in a variable of its own. -/
structure VarAt (w : World) (g : Nat) (n : Nd) : Prop where
  lt : g < w.heap.size
  c0 : w.cell? ⟨g, 0, none⟩ = some (.int .i64 n.kind)
  c1 : w.cell? ⟨g, 1, none⟩ = some (.string n.label)
  c2 : w.cell? ⟨g, 2, none⟩ = some (.int .i64 n.a)
  c3 : w.cell? ⟨g, 3, none⟩ = some (.int .i64 n.b)

theorem stepsOf_var {w : World} {g : Nat} {n : Nd} (h : VarAt w g n) : stepsOf w (.pointer (some ⟨g, 0, none⟩)) = n.b.toNat := by
  simp [stepsOf, h.c3]

/-- What is known of a node that Items comes to. -/
structure Come (ns : List Nd) (n : Nd) : Prop where
  nonneg : 0 ≤ n.b
  pair : n.kind = 3 → 1 ≤ n.b
  le : n.b ≤ ns.length

theorem Wf.come {ns : List Nd} (hw : Wf ns) (t : Int) : Come ns (nodeF ns t) := by
  cases hb : hasB ns t
  · unfold nodeF
    rw [hb]
    exact ⟨by simp [Nd.zero], by simp [Nd.zero], by simp [Nd.zero]⟩
  · obtain ⟨i, rfl, hi⟩ := nodeF_inv hb
    have hp := hw.parts hi
    have hil := (List.getElem?_eq_some_iff.1 hi).1
    refine ⟨hp.2.2.1, fun e => ?_, by omega⟩
    have hf := (hw i _ hi).1
    unfold fitsB at hf
    rw [e] at hf
    simp only [show (3 : Int) ≠ 1 from by decide, show (3 : Int) ≠ 2 from by decide, if_false, if_true, Bool.and_eq_true] at hf
    exact ((hasB_iff _ _).1 hf.2.2).1

theorem itemsGo_pair {ns : List Nd} (hw : Wf ns) {n : Nd} (hc : Come ns n) (h1 : n.beq (nText ⟨#[]⟩) = false) (h3 : n.kind = 3) :
    itemsGo ns (ns.length + 1) n = (itemsGo ns (ns.length + 1) (nodeF ns n.b)).map (n.a :: ·) := by
  have hb1 := hc.pair h3
  have hl := hw.lower n.b hb1
  have hcn := hw.come n.b
  have hle := hc.le
  rw [show itemsGo ns (ns.length + 1) n = (itemsGo ns ns.length (nodeF ns n.b)).map (n.a :: ·) from by simp [itemsGo, h1, h3]]
  rw [itemsGo_more ns hw ns.length (nodeF ns n.b) (ns.length + 1) hl.1 (by omega) (by omega) hcn.pair]

def itemsPost (w : World) (r : Option (List Int)) (e : Ending) (w' : World) : Prop :=
  match r with
  | some l => ∃ v, e = .returned (.tuple #[v, .bool true]) ∧ w'.ownsRow w.heap.size 3 1 v l.length (l.map (Value.int .i64)) ∧ Below w.heap.size w w'
  | none => e = .returned (.tuple #[.slice none 0 0, .bool false]) ∧ Below w.heap.size w w'

theorem ownsRow_below {w w' : World} {base e size n : Nat} {v : Value} {xs : List Value} (h : w.ownsRow base e size v n xs) (hb : Below w.heap.size w w') : w'.ownsRow base e size v n xs := by
  refine ⟨h.1, ?_⟩
  rcases h.2 with h1 | ⟨g, cap, cur, hv, hg, hh, r⟩
  · exact Or.inl h1
  · exact Or.inr ⟨g, cap, cur, hv, hg, (hb.block g (Array.getElem?_eq_some_iff.1 hh).1).trans hh, r⟩

theorem ownsRow_form {w : World} {base e size n : Nat} {v : Value} {xs : List Value} (h : w.ownsRow base e size v n xs) : ∃ a cap, v = .slice a n cap := by
  rcases h.2 with ⟨rfl, rfl⟩ | ⟨g, cap, cur, rfl, _⟩
  · exact ⟨_, _, rfl⟩
  · exact ⟨_, _, rfl⟩

set_option maxRecDepth 100000 in
set_option maxHeartbeats 2000000 in
theorem items_any {w : World} {s : Nat} {ns : List Nd} {dr : Int} (h : StoreAt w s ns dr) (hw : Wf ns) (t : Int) :
    Calls Try.prog 25 #[.pointer (some ⟨s, 0, none⟩), .int .i64 t] w (itemsPost w (itemsF ns t)) := by
  have hs := h.lt
  have hnl : (ns.length : Int) ≤ 262144 := by obtain ⟨_, _, _, _, _, _, h3⟩ := h; omega
  obtain ⟨k, l, a, b, hn⟩ : ∃ k l a b, nodeF ns t = ⟨k, l, a, b⟩ := ⟨_, _, _, _, rfl⟩
  have Hn : Hid (nodeF ns t = ⟨k, l, a, b⟩) := hn
  have hcome := hw.come t
  rw [hn] at hcome
  have HF : Hid (itemsF ns t = itemsGo ns (ns.length + 1) ⟨k, l, a, b⟩) := by unfold itemsF; rw [hn]; rfl
  clear hn
  generalize itemsF ns t = R at *
  go_enter Try.func25, Try.ntmps25
  go_wp2_with fail
  refine (node_parts h _ Hn.out).mono ?_
  rintro e w1 ⟨rfl, hb1⟩
  go_wp2_with fail
  go_loopw [6, 7] (fun v p wr => ∃ (acc : List Int) (n : Nd) (g : Nat), p = .pointer (some ⟨g, 0, none⟩) ∧ w.heap.size ≤ g ∧ VarAt wr g n ∧ Below w.heap.size w wr ∧ wr.ownsRow w.heap.size 3 1 v acc.length (acc.map (Value.int .i64)) ∧ v.ownBlock ≠ some g ∧ R = (itemsGo ns (ns.length + 1) n).map (acc ++ ·) ∧ Come ns n ∧ (acc.length : Int) + n.b ≤ ns.length) (fun _ p wr => stepsOf wr p)
  case atStart =>
    refine ⟨[], ⟨k, l, a, b⟩, w1.heap.size, rfl, hb1.size, ⟨by simp, by simp, by simp, by simp, by simp⟩, hb1.alloc hb1.size _, World.ownsRow_nil _ _ _ _, by simp [Value.ownBlock], ?_, hcome, ?_⟩
    · rw [HF.out]; simp
    · have := hcome.le; simpa using this
  case round =>
    obtain ⟨acc, n, g, rfl, hg, hv, hbr, hown, hne, hR, hc, hsum⟩ := hrel
    clear hb1 HF hcome Hn
    obtain ⟨c0, c1, c2, c3, hgl⟩ : wr.cell? ⟨g, 0, none⟩ = some (.int .i64 n.kind) ∧ wr.cell? ⟨g, 1, none⟩ = some (.string n.label) ∧ wr.cell? ⟨g, 2, none⟩ = some (.int .i64 n.a) ∧ wr.cell? ⟨g, 3, none⟩ = some (.int .i64 n.b) ∧ g < wr.heap.size := ⟨hv.c0, hv.c1, hv.c2, hv.c3, hv.lt⟩
    have hq := fun wx => run_equal27 wx n ⟨2, ⟨#[]⟩, 0, 0⟩ 9998
    simp only [Nd.val] at hq
    have hgd := guard27
    cases hbq : n.beq ⟨2, ⟨#[]⟩, 0, 0⟩
    · rw [hbq] at hq
      by_cases h3 : n.kind = 3
      · have h3' : (n.kind != 3) = false := by simp [h3]
        have hb1 := hc.pair h3
        have hlow := hw.lower n.b hb1
        have HR : Hid (R = (itemsGo ns (ns.length + 1) (nodeF ns n.b)).map ((acc ++ [n.a]) ++ ·)) := by
          rw [hR, itemsGo_pair hw hc hbq h3]
          cases itemsGo ns (ns.length + 1) (nodeF ns n.b) <;> simp [Hid]
        obtain ⟨k1, l1, a1, b1, hn⟩ : ∃ k l a b, nodeF ns n.b = ⟨k, l, a, b⟩ := ⟨_, _, _, _, rfl⟩
        have hcn := hw.come n.b
        rw [hn] at HR hlow hcn
        have Hn : Hid (nodeF ns n.b = ⟨k1, l1, a1, b1⟩) := hn
        simp only at hlow
        clear hR hbq hn hv h3
        obtain ⟨a6, cap6, rfl⟩ := ownsRow_form hown
        have hrz := hbr.size
        have hown2 := hown.alloc (.cells #[.int .i64 n.a] 3)
        obtain ⟨i0, hi, hz0, hz1, hz2⟩ := info_parts info3
        go_wp2_with (at_builtin; refine wpList_append_own_at _ rfl (.tmp 22) (.tmp 25) 42 rfl w.heap.size 3 i0 (.int .i64 0) 1 8 Try.underlying42 hi hz0 hz1 hz2 rfl (by decide) (.slice a6 acc.length cap6) acc.length (acc.map (Value.int .i64)) rfl hown2 ⟨wr.heap.size, 0, none⟩ 1 1 [.int .i64 n.a] rfl rfl (cell_one_new _ _ _) (ints_oneCell .i64 [n.a]) (by unfold maxLen; omega) (by omega) (by simp; omega) ?_; intro v' w5 hown' hgrow hnil hloc; have e0 := hgrow.cell (a := ⟨g, 0, none⟩) (v := .int .i64 n.kind) (by go_simp) (Ne.symm hne); have e1 := hgrow.cell (a := ⟨g, 1, none⟩) (v := .string n.label) (by go_simp) (Ne.symm hne); have e2 := hgrow.cell (a := ⟨g, 2, none⟩) (v := .int .i64 n.a) (by go_simp) (Ne.symm hne); have e3 := hgrow.cell (a := ⟨g, 3, none⟩) (v := .int .i64 n.b) (by go_simp) (Ne.symm hne); have hg5 : g < w5.heap.size := by have := hgrow.size; simp at this; omega)
        have hb5 : Below w.heap.size w w5 := by
          refine (hbr.alloc hrz (.cells #[.int .i64 n.a] 3)).grown hgrow (by simp; omega) (fun k hk => ?_)
          exact (hown.lt k hk).1
        have hz5 := hb5.size
        have hb6 : Below w.heap.size w (w5.alloc (.cells #[.int .i64 n.kind, .string n.label, .int .i64 n.a, .int .i64 n.b] 27)) := hb5.alloc hz5 _
        refine (node_parts (h.below hb6) _ Hn.out).mono ?_
        rintro e w6 ⟨rfl, hb7⟩
        have hz6 := hb7.size
        simp at hz6
        obtain ⟨hcc, hff⟩ := bcell hb7
        have f0 := hcc w5.heap.size 0 (by simp)
        have f1 := hcc w5.heap.size 1 (by simp)
        have f2 := hcc w5.heap.size 2 (by simp)
        have f3 := hcc w5.heap.size 3 (by simp)
        have g0 := hff w5.heap.size 0 (by simp)
        have g1 := hff w5.heap.size 1 (by simp)
        have g2 := hff w5.heap.size 2 (by simp)
        have g3 := hff w5.heap.size 3 (by simp)
        simp at f0 f1 f2 f3 g0 g1 g2 g3
        clear hcc hff
        have hb8 : Below w5.heap.size w5 w6 := ((Below.refl _ w5).alloc (Nat.le_refl _) _).trans (hb7.mono (by simp))
        have hown8 := ownsRow_below hown' ((((hb8.setCell (p := ⟨w5.heap.size, 0, none⟩) (Nat.le_refl _) (.int .i64 k1)).setCell (p := ⟨w5.heap.size, 1, none⟩) (Nat.le_refl _) (.string l1)).setCell (p := ⟨w5.heap.size, 2, none⟩) (Nat.le_refl _) (.int .i64 a1)).setCell (p := ⟨w5.heap.size, 3, none⟩) (Nat.le_refl _) (.int .i64 b1))
        have hbF := hb5.trans ((((((hb8.setCell (p := ⟨w5.heap.size, 0, none⟩) (Nat.le_refl _) (.int .i64 k1)).setCell (p := ⟨w5.heap.size, 1, none⟩) (Nat.le_refl _) (.string l1)).setCell (p := ⟨w5.heap.size, 2, none⟩) (Nat.le_refl _) (.int .i64 a1)).setCell (p := ⟨w5.heap.size, 3, none⟩) (Nat.le_refl _) (.int .i64 b1))).mono hz5)
        have hlt5 := hown'.lt
        clear hown' hgrow hnil hb6 hb7 hb8 hb5 hbr hown hown2
        have hst : stepsOf wr (.pointer (some ⟨g, 0, none⟩)) = n.b.toNat := by simp [stepsOf, c3]
        go_wp2_with fail
        go_roundw
        case rel =>
          refine ⟨acc ++ [n.a], ⟨k1, l1, a1, b1⟩, w5.heap.size, rfl, hz5, ⟨?_, ?_, ?_, ?_, ?_⟩, hbF, by simpa using hown8, ?_, HR.out, hcn, ?_⟩
          · simp [World.setCell]; omega
          · go_simp
          · go_simp
          · go_simp
          · go_simp
          · intro e
            have := (hlt5 _ e).2
            omega
          · simp; omega
        case measure =>
          rw [hst]
          have : stepsOf ((((w6.setCell ⟨w5.heap.size, 0, none⟩ (.int .i64 k1)).setCell ⟨w5.heap.size, 1, none⟩ (.string l1)).setCell ⟨w5.heap.size, 2, none⟩ (.int .i64 a1)).setCell ⟨w5.heap.size, 3, none⟩ (.int .i64 b1)) (.pointer (some ⟨w5.heap.size, 0, none⟩)) = b1.toNat := by
            simp only [stepsOf]
            have : ((((w6.setCell ⟨w5.heap.size, 0, none⟩ (.int .i64 k1)).setCell ⟨w5.heap.size, 1, none⟩ (.string l1)).setCell ⟨w5.heap.size, 2, none⟩ (.int .i64 a1)).setCell ⟨w5.heap.size, 3, none⟩ (.int .i64 b1)).cell? ⟨w5.heap.size, 3, none⟩ = some (.int .i64 b1) := by go_simp
            rw [this]
          rw [this]
          omega
      · have h3' : (n.kind != 3) = true := by simp [h3]
        have HR : Hid (R = none) := by
          rw [hR]
          have : n.beq (nText ⟨#[]⟩) = false := hbq
          simp [Hid, itemsGo, this, h3]
        clear hR hbq hown
        go_wp2_with fail
        go_ret2
        rw [HR.out]
        exact ⟨rfl, hbr⟩
    · rw [hbq] at hq
      have HR : Hid (R = some acc) := by
        rw [hR]
        have : n.beq (nText ⟨#[]⟩) = true := hbq
        simp [Hid, itemsGo, this]
      clear hR hbq
      go_wp2_with fail
      go_ret2
      rw [HR.out]
      exact ⟨_, rfl, hown, hbr⟩

end Go.Proofs.Ytddjihlmlfchdaa
