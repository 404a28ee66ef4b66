/-
  grown: the tree that a script makes.
-/
import Derived.Test.YtdnopkpoepdihaaDoorSB
import Derived.Test.YtdnopkpoepdihaaDoorAr
namespace Go.Proofs.YtdnopkpoepdihaaDoor
open Go.RowKit
set_option linter.unusedSimpArgs false
set_option linter.unusedVariables false

def ScriptAt (W : World) (v : Value) (l : List (POp × Value)) : Prop :=
  ∃ a cap, v = .slice a l.length cap ∧ (l.length : Int) ≤ 9223372036854775807 ∧ (l ≠ [] → ∃ b off, a = some ⟨b, off, none⟩ ∧ b < W.heap.size ∧ ∀ (j : Nat) (o : POp) (h : Value), l[j]? = some (o, h) → IntsAt W h o.leaf.late ∧ ∀ (r : Nat) (c : Value), (opCells o h)[r]? = some c → W.cell? ⟨b, off + j * 9 + r, none⟩ = some c)

theorem ScriptAt.get {W : World} {v : Value} {l : List (POp × Value)} (k : ScriptAt W v l) {j : Nat} {o : POp} {h : Value} (hj : l[j]? = some (o, h)) : ∃ b off cap, v = .slice (some ⟨b, off, none⟩) l.length cap ∧ b < W.heap.size ∧ IntsAt W h o.leaf.late ∧ ∀ (r : Nat) (c : Value), (opCells o h)[r]? = some c → W.cell? ⟨b, off + j * 9 + r, none⟩ = some c := by
  obtain ⟨a, cap, rfl, _, hc⟩ := k
  obtain ⟨b, off, rfl, hb, hx⟩ := hc (by rintro rfl; simp at hj)
  obtain ⟨h1, h2⟩ := hx j o h hj
  exact ⟨b, off, cap, rfl, hb, h1, h2⟩

theorem op_cells {W : World} {b k : Nat} {o : POp} {h : Value} (hx : ∀ (r : Nat) (c : Value), (opCells o h)[r]? = some c → W.cell? ⟨b, k + r, none⟩ = some c) :
    W.cell? ⟨b, k, none⟩ = some (.int .i64 o.kind) ∧ W.cell? ⟨b, k + 1, none⟩ = some (.int .i64 o.i) ∧ W.cell? ⟨b, k + 2, none⟩ = some (.bool o.leaf.full) ∧ W.cell? ⟨b, k + 3, none⟩ = some (.int .i64 o.leaf.key) ∧ W.cell? ⟨b, k + 4, none⟩ = some (.int .i64 o.leaf.client) ∧ W.cell? ⟨b, k + 5, none⟩ = some (.int .i64 o.leaf.sig) ∧ W.cell? ⟨b, k + 6, none⟩ = some (.int .i64 o.leaf.hash) ∧ W.cell? ⟨b, k + 7, none⟩ = some h ∧ W.cell? ⟨b, k + 8, none⟩ = some (.int .i64 o.more) :=
  ⟨hx 0 _ rfl, hx 1 _ rfl, hx 2 _ rfl, hx 3 _ rfl, hx 4 _ rfl, hx 5 _ rfl, hx 6 _ rfl, hx 7 _ rfl, hx 8 _ rfl⟩

theorem ScriptAt.below {W W' : World} {v : Value} {l : List (POp × Value)} (k : ScriptAt W v l) (hb : Below W.heap.size W W') : ScriptAt W' v l := by
  obtain ⟨a, cap, rfl, hl, hc⟩ := k
  refine ⟨a, cap, rfl, hl, fun hne => ?_⟩
  obtain ⟨b, off, rfl, hlt, hx⟩ := hc hne
  have hsz := hb.size
  refine ⟨b, off, rfl, by omega, fun j o h hj => ?_⟩
  obtain ⟨h1, h2⟩ := hx j o h hj
  exact ⟨h1.below hb, fun r c hrc => (hb.cell (p := ⟨b, _, none⟩) hlt).trans (h2 r c hrc)⟩

def grownTo (u : PV) (l : List (POp × Value)) (j : Nat) : Tree := ((l.take j).map (·.1)).foldl stepG [leafV u]

theorem grownTo_good (u : PV) (l : List (POp × Value)) (j : Nat) : Good (grownTo u l j) := Good.steps _ (Good.one u)
theorem grownTo_succ (u : PV) {l : List (POp × Value)} {j : Nat} {o : POp} {h : Value} (hj : l[j]? = some (o, h)) : grownTo u l (j + 1) = stepG (grownTo u l j) o := by
  unfold grownTo
  rw [List.take_add_one, hj]
  simp [List.foldl_append]
theorem grownTo_end (u : PV) {l : List (POp × Value)} {j : Nat} (h : j = l.length ∧ j ≤ 300 ∨ j = 300) : grownTo u l j = grownF u (l.map (·.1)) := by
  unfold grownTo grownF
  rw [← List.map_take]
  rcases h with ⟨rfl, h⟩ | rfl
  · rw [List.take_of_length_le (Nat.le_refl _), List.take_of_length_le h]
  · rfl

/-- What a step answers: the tree behind it, or nothing where it is refused. -/
def StepTo (B : Nat) (P : Tree) (o : POp) (w : World) (v : Value) : Prop := TreeP (fun b => B ≤ b) w v (stepG P o) ∨ v = .slice none 0 0 ∧ stepG P o = P

theorem refAdd_step {P : Tree} (hG : Good P) {v : Value} {w : World} (ht : TreeAt w v P) (o : POp) (hk : o.kind = 1) (h : Value) :
    Calls Tryd.prog 39 #[v, o.leaf.val h] w fun e w' => ∃ v' i f, e = .returned (.tuple #[v', i, f]) ∧ StepTo w.heap.size P o w' v' ∧ Below w.heap.size w w' := by
  by_cases hr : least P = lv P ∧ lv P = 32
  · have e : stepG P o = P := by simp [stepG, hk, full32, hr]
    refine (refAdd_no hG.fit ht o.leaf h hr.1 hr.2).mono ?_
    rintro _ w' ⟨rfl, hb⟩
    exact ⟨_, _, _, rfl, .inr ⟨rfl, e⟩, hb⟩
  · have e : stepG P o = addF P o.leaf := by simp [stepG, hk, full32, hr]
    refine (refAdd_new hG.fit ht o.leaf h hr (hG.add hr o.leaf).fit).mono ?_
    rintro _ w' ⟨v', rfl, t', hb⟩
    exact ⟨_, _, _, rfl, .inl (by rw [e]; exact t'), hb⟩

theorem refUpdate_step {P : Tree} (hG : Good P) {v : Value} {w : World} (ht : TreeAt w v P) (o : POp) (hk : o.kind = 2) (h : Value) :
    Calls Tryd.prog 44 #[v, .int .i64 o.i, o.leaf.val h] w fun e w' => ∃ v' f, e = .returned (.tuple #[v', f]) ∧ StepTo w.heap.size P o w' v' ∧ Below w.heap.size w w' := by
  cases hr : fullB P o.i with
  | false =>
    have e : stepG P o = P := by simp [stepG, hk, hr]
    refine (refUpdate_no hG.fit ht o.i hr o.leaf h).mono ?_
    rintro _ w' ⟨rfl, hb⟩
    exact ⟨_, _, rfl, .inr ⟨rfl, e⟩, hb⟩
  | true =>
    have e : stepG P o = putF P o.i (leafV o.leaf) := by simp [stepG, hk, hr]
    refine (refUpdate_new hG.fit ht o.i hr o.leaf h).mono ?_
    rintro _ w' ⟨v', rfl, t', hb⟩
    exact ⟨_, _, rfl, .inl (by rw [e]; exact t'), hb⟩

theorem refRemove_step {P : Tree} (hG : Good P) {v : Value} {w : World} (ht : TreeAt w v P) (o : POp) (hk : o.kind = 3) :
    Calls Tryd.prog 45 #[v, .int .i64 o.i] w fun e w' => ∃ v' f, e = .returned (.tuple #[v', f]) ∧ StepTo w.heap.size P o w' v' ∧ Below w.heap.size w w' := by
  by_cases hr : fullB P o.i = true ∧ 2 ≤ (members P).length
  · have e : stepG P o = remF P o.i := by simp [stepG, hk, hr]
    refine (refRemove_new hG.fit ht o.i hr.1 (by omega)).mono ?_
    rintro _ w' ⟨v', rfl, t', hb⟩
    exact ⟨_, _, rfl, .inl (by rw [e]; exact t'), hb⟩
  · have e : stepG P o = P := by
      simp only [stepG, hk]
      rw [if_neg (by decide), if_neg (by decide), if_pos trivial, if_neg]
      simpa using hr
    refine (refRemove_no hG.fit ht o.i (by
      cases h1 : fullB P o.i
      · exact .inl rfl
      · right
        rw [h1] at hr
        simp at hr
        exact hr)).mono ?_
    rintro _ w' ⟨rfl, hb⟩
    exact ⟨_, _, rfl, .inr ⟨rfl, e⟩, hb⟩

theorem keysF_zero (P : Tree) (o : POp) : keysF P { o with more := 0 } = List.replicate (filt P o.i).length o.leaf.key := by
  simp [keysF, extra]

theorem refMerge_step {P : Tree} (hG : Good P) {v : Value} {w : World} (ht : TreeAt w v P) (o : POp) (hk : o.kind = 4) (h : Value) {vk : Value} (hks : IntsAt w vk (keysF P { o with more := 0 })) :
    Calls Tryd.prog 46 #[v, .int .i64 o.i, o.leaf.val h, vk, vk] w fun e w' => ∃ v' f, e = .returned (.tuple #[v', f]) ∧ StepTo w.heap.size P o w' v' ∧ Below w.heap.size w w' := by
  rw [keysF_zero] at hks
  cases hr : fullB P o.i with
  | false =>
    have e : stepG P o = P := by simp [stepG, hk, hr]
    refine (refMerge_no hG.fit ht o.i hr o.leaf h vk vk).mono ?_
    rintro _ w' ⟨rfl, hb⟩
    exact ⟨_, _, rfl, .inr ⟨rfl, e⟩, hb⟩
  | true =>
    have e : stepG P o = mergeF P o.i o.leaf (List.replicate (filt P o.i).length o.leaf.key) (List.replicate (filt P o.i).length o.leaf.key) := by simp [stepG, hk, hr]
    refine (refMerge_new hG.fit ht o.i hr o.leaf h hks hks (by simp) (by simp)).mono ?_
    rintro _ w' ⟨v', rfl, t', hb⟩
    exact ⟨_, _, rfl, .inl (by rw [e]; exact t'), hb⟩

theorem treeN_one (w : World) (u : PV) (hu : u.late = []) : TreeP (fun b => w.heap.size ≤ b) (w.alloc (.cells #[.bool u.full, .int .i64 u.key, .int .i64 u.client, .int .i64 u.sig, .int .i64 u.hash, .slice none 0 0] 24)) (.slice (some ⟨w.heap.size, 0, none⟩) 1 1) [u] := by
  refine ⟨_, 1, rfl, by simp, fun _ => ⟨w.heap.size, 0, rfl, Nat.le_refl _, by simp, fun x u' hx => ?_⟩⟩
  obtain ⟨rfl, rfl⟩ : x = 0 ∧ u' = u := by
    cases x with
    | zero => simp at hx; exact ⟨rfl, hx.symm⟩
    | succ k => simp at hx
  refine ⟨.slice none 0 0, ?_, ?_⟩
  · constructor
    all_goals first | (rw [hu]; exact intsAt_nil _) | go_simp
  · rw [hu]; exact ⟨none, 0, rfl, by simp, fun h => absurd rfl h⟩

set_option maxHeartbeats 8000000 in
set_option maxRecDepth 100000 in
theorem grown_made (u : PV) (h : Value) {w : World} {vs : Value} {l : List (POp × Value)} (hs : ScriptAt w vs l) :
    Calls Tryd.prog 30 #[u.val h, vs] w fun e w' => ∃ v', e = .returned v' ∧ TreeP (fun b => w.heap.size ≤ b) w' v' (grownF u (l.map (·.1))) ∧ Below w.heap.size w w' := by
  have hfl : ∀ W, Calls Tryd.prog 15 #[u.val h] W fun e w' => e = .returned ((leafV u).val (.slice none 0 0)) ∧ Below W.heap.size W w' := fun W => refLeaf_any u h W
  have Hg := fun j => grownTo_good u l j
  unfold PV.val at *
  obtain ⟨w0, hw0⟩ : ∃ w0, w.alloc (.cells (leafCells u h) 24) = w0 := ⟨_, rfl⟩
  have b0 : Below w.heap.size w w0 := by rw [← hw0]; exact (Below.refl _ _).alloc (Nat.le_refl _) _
  have bc : ∀ r, w0.cell? ⟨w.heap.size, r, none⟩ = (leafCells u h)[r]? := fun r => by rw [← hw0]; simp
  have c0 := bc 0
  have c1 := bc 1
  have c2 := bc 2
  have c3 := bc 3
  have c4 := bc 4
  have c5 := bc 5
  simp [leafCells] at c0 c1 c2 c3 c4 c5
  unfold leafCells at hw0
  clear bc
  go_enter Tryd.func30, Tryd.ntmps30
  go_wp2_with (rw [hw0])
  clear hw0
  refine (hfl w0).mono ?_
  rintro e w1 ⟨rfl, b1⟩
  have b01 := on b0 b1
  have h1t := treeN_one w1 (leafV u) rfl
  obtain ⟨w2, hw2⟩ : ∃ w2, w1.alloc (.cells #[.bool (leafV u).full, .int .i64 (leafV u).key, .int .i64 (leafV u).client, .int .i64 (leafV u).sig, .int .i64 (leafV u).hash, .slice none 0 0] 24) = w2 := ⟨_, rfl⟩
  rw [hw2] at h1t
  replace h1t : TreeP (fun b => w.heap.size ≤ b) w2 _ _ := h1t.imp (fun b _ hb => Nat.le_trans b01.size hb)
  have b2 : Below w1.heap.size w1 w2 := by rw [← hw2]; exact (Below.refl _ _).alloc (Nat.le_refl _) _
  have b02 := on b01 b2
  have hs2 := hs.below b02
  obtain ⟨sa, scap, rfl, hsl, _⟩ := id hs2
  go_wp2_with (rw [hw2])
  clear hw2 c0 c1 c2 c3 c4 c5 hfl
  go_loopw [5, 15] (fun r k wr => ∃ j : Nat, j ≤ l.length ∧ j ≤ 300 ∧ k = .int .i64 j ∧ TreeP (fun b => w.heap.size ≤ b) wr r (grownTo u l j) ∧ Below w2.heap.size w2 wr) (fun _ k _ => l.length - (intOf k).toNat)
  case atStart => exact ⟨0, Nat.zero_le _, by omega, rfl, h1t, Below.refl _ _⟩
  case round =>
    obtain ⟨j, hj, hj3, rfl, htr, hB⟩ := hrel
    have hsz := hB.size
    by_cases hlt : j < l.length
    · by_cases h3 : j < 300
      · obtain ⟨o, oh, ho⟩ : ∃ o oh, l[j]? = some (o, oh) := ⟨l[j].1, l[j].2, by simp [hlt]⟩
        obtain ⟨sb, soff, _, hsv, hsbl, hoh, hoc⟩ := (hs2.below hB).get ho
        obtain ⟨la, lcap, rfl, _⟩ := id hoh
        simp only [Value.slice.injEq] at hsv
        obtain ⟨rfl, -, -⟩ := hsv
        obtain ⟨c0, c1, c2, c3, c4, c5, c6, c7, c8⟩ := op_cells hoc
        have Hs : Hid (grownTo u l (j + 1) = stepG (grownTo u l j) o) := grownTo_succ u ho
        have hG := Hg j
        clear Hg hoc hoh ho
        obtain ⟨P, hP⟩ : ∃ P, grownTo u l j = P := ⟨_, rfl⟩
        rw [hP] at hG Hs htr
        clear hP
        have i1 : (j : Int) < (l.length : Int) := by omega
        have i3 : (j : Int) < 300 := by omega
        have HJ : Hid (j + 1 ≤ l.length ∧ j + 1 ≤ 300) := by constructor <;> omega
        clear hj hj3 hlt h3
        obtain ⟨w3, hw3⟩ : ∃ w3, wr.alloc (.cells (opCells o (.slice la o.leaf.late.length lcap)) 31) = w3 := ⟨_, rfl⟩
        have b3 : Below wr.heap.size wr w3 := by rw [← hw3]; exact (Below.refl _ _).alloc (Nat.le_refl _) _
        have hlt3 : wr.heap.size < w3.heap.size := by rw [← hw3]; simp
        have htr3 := htr.below b3
        have hB3 : Below w2.heap.size w2 w3 := on hB b3
        have hpos : (0 : Int) < ((stepG P o).length : Int) := by
          have := (hG.step o).sh.bounds
          omega
        have hle : ((stepG P o).length : Int) ≤ 63 := by
          have := (hG.step o).sh.bounds
          omega
        have q27 : ∀ (w : World) (a : Option Addr) (n c : Nat), (Builtin.len_ #[27] 3 #[.slice a n c]).run Tryd.prog w = .ok (goInt n) w := fun w a n c => run_len_slice w _ _ _ _ _ Tryd.underlying27
        unfold opCells at hw3
        have Hw3 : Hid (_ = w3) := hw3
        clear hw3
        by_cases k1 : o.kind = 1
        · have e1 : (o.kind == 1) = true := by simp [k1]
          have hc := refAdd_step hG htr3.tree o k1 (.slice la o.leaf.late.length lcap)
          unfold PV.val at hc
          clear k1
          go_wp2_with (go_at_call 39; rw [Hw3.out]; refine hc.mono ?_; rintro e w4 ⟨v4, i4, f4, rfl, s4, b4⟩)
          have hB4 := on hB3 b4
          rcases s4 with t4 | ⟨rfl, e4⟩
          · replace t4 := t4.imp (r := fun b => w.heap.size ≤ b) (fun b _ hb => Nat.le_trans (by have := (on b02 hB3).size; omega) hb)
            obtain ⟨va, vcap, rfl, _⟩ := id t4
            clear hc Hw3
            go_wp2_with (rw [q27])
            go_roundw
            case rel => exact ⟨j + 1, HJ.out.1, HJ.out.2, by go_num, by rw [Hs.out]; exact t4, hB4⟩
            case measure => have := HJ.out; simp [intOf]; omega
          · have HT : Hid (TreeP (fun b => w.heap.size ≤ b) w4 u5 (grownTo u l (j + 1))) := by rw [Hs.out, e4]; exact htr3.below b4
            clear hc Hw3 e4
            go_wp2_with (rw [q27])
            go_roundw
            case rel => exact ⟨j + 1, HJ.out.1, HJ.out.2, by go_num, HT.out, hB4⟩
            case measure => have := HJ.out; simp [intOf]; omega
        · have e1 : (o.kind == 1) = false := by simp [k1]
          by_cases k2 : o.kind = 2
          · have e2 : (o.kind == 2) = true := by simp [k2]
            have hc := refUpdate_step hG htr3.tree o k2 (.slice la o.leaf.late.length lcap)
            unfold PV.val at hc
            clear k1 k2
            go_wp2_with (go_at_call 44; rw [Hw3.out]; refine hc.mono ?_; rintro e w4 ⟨v4, f4, rfl, s4, b4⟩)
            have hB4 := on hB3 b4
            rcases s4 with t4 | ⟨rfl, e4⟩
            · replace t4 := t4.imp (r := fun b => w.heap.size ≤ b) (fun b _ hb => Nat.le_trans (by have := (on b02 hB3).size; omega) hb)
              obtain ⟨va, vcap, rfl, _⟩ := id t4
              clear hc Hw3
              go_wp2_with (rw [q27])
              go_roundw
              case rel => exact ⟨j + 1, HJ.out.1, HJ.out.2, by go_num, by rw [Hs.out]; exact t4, hB4⟩
              case measure => have := HJ.out; simp [intOf]; omega
            · have HT : Hid (TreeP (fun b => w.heap.size ≤ b) w4 u5 (grownTo u l (j + 1))) := by rw [Hs.out, e4]; exact htr3.below b4
              clear hc Hw3 e4
              go_wp2_with (rw [q27])
              go_roundw
              case rel => exact ⟨j + 1, HJ.out.1, HJ.out.2, by go_num, HT.out, hB4⟩
              case measure => have := HJ.out; simp [intOf]; omega
          · have e2 : (o.kind == 2) = false := by simp [k2]
            by_cases k3 : o.kind = 3
            · have e3 : (o.kind == 3) = true := by simp [k3]
              have hc := refRemove_step hG htr3.tree o k3
              clear k1 k2 k3
              go_wp2_with (go_at_call 45; rw [Hw3.out]; refine hc.mono ?_; rintro e w4 ⟨v4, f4, rfl, s4, b4⟩)
              have hB4 := on hB3 b4
              rcases s4 with t4 | ⟨rfl, e4⟩
              · replace t4 := t4.imp (r := fun b => w.heap.size ≤ b) (fun b _ hb => Nat.le_trans (by have := (on b02 hB3).size; omega) hb)
                obtain ⟨va, vcap, rfl, _⟩ := id t4
                clear hc Hw3
                go_wp2_with (rw [q27])
                go_roundw
                case rel => exact ⟨j + 1, HJ.out.1, HJ.out.2, by go_num, by rw [Hs.out]; exact t4, hB4⟩
                case measure => have := HJ.out; simp [intOf]; omega
              · have HT : Hid (TreeP (fun b => w.heap.size ≤ b) w4 u5 (grownTo u l (j + 1))) := by rw [Hs.out, e4]; exact htr3.below b4
                clear hc Hw3 e4
                go_wp2_with (rw [q27])
                go_roundw
                case rel => exact ⟨j + 1, HJ.out.1, HJ.out.2, by go_num, HT.out, hB4⟩
                case measure => have := HJ.out; simp [intOf]; omega
            · have e3 : (o.kind == 3) = false := by simp [k3]
              by_cases k4 : o.kind = 4
              · have e4 : (o.kind == 4) = true := by simp [k4]
                obtain ⟨w5, hw5⟩ : ∃ w5, wr.alloc (.cells (opCells { o with more := 0 } (.slice la o.leaf.late.length lcap)) 31) = w5 := ⟨_, rfl⟩
                have b5 : Below wr.heap.size wr w5 := by rw [← hw5]; exact (Below.refl _ _).alloc (Nat.le_refl _) _
                have hlt5 : wr.heap.size < w5.heap.size := by rw [← hw5]; simp
                have htr5 := htr.below b5
                have hk := keys_any hG.fit htr5.tree { o with more := 0 } (.slice la o.leaf.late.length lcap)
                have hd : ∀ (r : Nat) (c : Value), (opCells { o with more := 0 } (.slice la o.leaf.late.length lcap))[r]? = some c → w5.cell? ⟨wr.heap.size, 0 + r, none⟩ = some c := by
                  intro r c hc
                  rw [← hw5]
                  simpa using hc
                obtain ⟨d0, d1, d2, d3, d4, d5, d6, d7, d8⟩ := op_cells hd
                simp only [Nat.zero_add] at d1 d2 d3 d4 d5 d6 d7 d8
                unfold POp.val at hk
                unfold opCells at hw5
                simp only at hk hw5
                have Hw5 : Hid (_ = w5) := hw5
                have Hk4 : Hid (o.kind = 4) := k4
                clear hd hw5 k1 k2 k3 k4
                have Hk5 : Hid (∀ w6, Below w5.heap.size w5 w6 → w6.cell? ⟨wr.heap.size, 1, none⟩ = some (.int .i64 o.i) ∧ w6.cell? ⟨wr.heap.size, 2, none⟩ = some (.bool o.leaf.full) ∧ w6.cell? ⟨wr.heap.size, 3, none⟩ = some (.int .i64 o.leaf.key) ∧ w6.cell? ⟨wr.heap.size, 4, none⟩ = some (.int .i64 o.leaf.client) ∧ w6.cell? ⟨wr.heap.size, 5, none⟩ = some (.int .i64 o.leaf.sig) ∧ w6.cell? ⟨wr.heap.size, 6, none⟩ = some (.int .i64 o.leaf.hash) ∧ w6.cell? ⟨wr.heap.size, 7, none⟩ = some (.slice la o.leaf.late.length lcap)) := fun w6 b6 =>
                  ⟨(b6.cell (p := ⟨wr.heap.size, 1, none⟩) hlt5).trans d1, (b6.cell (p := ⟨wr.heap.size, 2, none⟩) hlt5).trans d2, (b6.cell (p := ⟨wr.heap.size, 3, none⟩) hlt5).trans d3, (b6.cell (p := ⟨wr.heap.size, 4, none⟩) hlt5).trans d4, (b6.cell (p := ⟨wr.heap.size, 5, none⟩) hlt5).trans d5, (b6.cell (p := ⟨wr.heap.size, 6, none⟩) hlt5).trans d6, (b6.cell (p := ⟨wr.heap.size, 7, none⟩) hlt5).trans d7⟩
                have hkl : ((keysF P { o with more := 0 }).length : Int) ≤ 9223372036854775807 := by rw [keysF_zero]; have := filt_len P o.i; simp; omega
                have Hkl : Hid (((keysF P { o with more := 0 }).length : Int) ≤ 9223372036854775807) := hkl
                clear d0 d1 d2 d3 d4 d5 d6 d7 d8 hkl
                go_wp2_with first
                  | (go_at_call 36; rw [Hw5.out]; refine hk.mono ?_; rintro e w6 ⟨v6, rfl, o6, b6⟩; obtain ⟨m1, m2, m3, m4, m5, m6, m7⟩ := Hk5.out w6 b6; have hks := ownsRow_ints o6 Hkl.out; obtain ⟨ka, kcap, rfl, _⟩ := id hks; clear o6)
                  | (go_at_call 46; have hc := refMerge_step hG (htr5.below b6).tree o Hk4.out (.slice la o.leaf.late.length lcap) hks; unfold PV.val at hc; refine hc.mono ?_; clear hc; rintro e w4 ⟨v4, f4, rfl, s4, b4⟩)
                have htr3 := htr5.below b6
                have hB6 : Below w2.heap.size w2 w6 := on hB (on b5 b6)
                have hB4 := on hB6 b4
                rcases s4 with t4 | ⟨rfl, e4'⟩
                · replace t4 := t4.imp (r := fun b => w.heap.size ≤ b) (fun b _ hb => Nat.le_trans (by have := (on b02 hB6).size; omega) hb)
                  obtain ⟨va, vcap, rfl, _⟩ := id t4
                  clear Hw3 Hw5
                  go_wp2_with (rw [q27])
                  go_roundw
                  case rel => exact ⟨j + 1, HJ.out.1, HJ.out.2, by go_num, by rw [Hs.out]; exact t4, hB4⟩
                  case measure => have := HJ.out; simp [intOf]; omega
                · have HT : Hid (TreeP (fun b => w.heap.size ≤ b) w4 u5 (grownTo u l (j + 1))) := by rw [Hs.out, e4']; exact htr3.below b4
                  clear Hw3 Hw5 e4'
                  go_wp2_with (rw [q27])
                  go_roundw
                  case rel => exact ⟨j + 1, HJ.out.1, HJ.out.2, by go_num, HT.out, hB4⟩
                  case measure => have := HJ.out; simp [intOf]; omega
              · have e4 : (o.kind == 4) = false := by simp [k4]
                have HT : Hid (TreeP (fun b => w.heap.size ≤ b) w3 u5 (grownTo u l (j + 1))) := by
                  rw [Hs.out]
                  have e : stepG P o = P := by simp [stepG, k1, k2, k3, k4]
                  rw [e]; exact htr3
                clear k1 k2 k3 k4
                go_wp2_with (rw [q27])
                rw [Hw3.out]
                go_roundw
                case rel => exact ⟨j + 1, HJ.out.1, HJ.out.2, by go_num, HT.out, hB3⟩
                case measure => have := HJ.out; simp [intOf]; omega
      · have e : j = 300 := by omega
        obtain ⟨o, oh, ho⟩ : ∃ o oh, l[j]? = some (o, oh) := ⟨l[j].1, l[j].2, by simp [hlt]⟩
        obtain ⟨sb, soff, _, hsv, hsbl, hoh, hoc⟩ := (hs2.below hB).get ho
        obtain ⟨la, lcap, rfl, _⟩ := id hoh
        simp only [Value.slice.injEq] at hsv
        obtain ⟨rfl, -, -⟩ := hsv
        obtain ⟨c0, c1, c2, c3, c4, c5, c6, c7, c8⟩ := op_cells hoc
        obtain ⟨w3, hw3⟩ : ∃ w3, wr.alloc (.cells (opCells o (.slice la o.leaf.late.length lcap)) 31) = w3 := ⟨_, rfl⟩
        have b3 : Below wr.heap.size wr w3 := by rw [← hw3]; exact (Below.refl _ _).alloc (Nat.le_refl _) _
        have HT : Hid (TreeP (fun b => w.heap.size ≤ b) w3 u5 (grownF u (l.map (·.1))) ∧ Below w.heap.size w w3) := by
          rw [← grownTo_end u (.inr e)]
          exact ⟨htr.below b3, on b02 (on hB b3)⟩
        unfold opCells at hw3
        have Hw3 : Hid (_ = w3) := hw3
        have i1 : (j : Int) < (l.length : Int) := by omega
        have i3 : ¬ (j : Int) < 300 := by omega
        have i4 : (300 : Int) ≤ j := by omega
        clear Hg hoc hoh ho hw3 e hj hj3 hlt h3
        go_wp2_with fail
        rw [Hw3.out]
        go_ret
        exact ⟨_, rfl, HT.out⟩
    · have e : j = l.length := by omega
      have HT : Hid (TreeP (fun b => w.heap.size ≤ b) wr u5 (grownF u (l.map (·.1))) ∧ Below w.heap.size w wr) := by
        rw [← grownTo_end u (.inl ⟨e, hj3⟩)]
        exact ⟨htr, on b02 hB⟩
      have i1 : ¬ ((j : Int) < (l.length : Int)) := by omega
      clear Hg hj hj3 hlt e
      go_wp2_with fail
      go_ret
      exact ⟨_, rfl, HT.out⟩

theorem grown_any (u : PV) (h : Value) {w : World} {vs : Value} {l : List (POp × Value)} (hs : ScriptAt w vs l) :
    Calls Tryd.prog 30 #[u.val h, vs] w fun e w' => ∃ v', e = .returned v' ∧ TreeAt w' v' (grownF u (l.map (·.1))) ∧ Below w.heap.size w w' :=
  (grown_made u h hs).mono fun e w' ⟨v', h1, h2, h3⟩ => ⟨v', h1, h2.tree, h3⟩

end Go.Proofs.YtdnopkpoepdihaaDoor
