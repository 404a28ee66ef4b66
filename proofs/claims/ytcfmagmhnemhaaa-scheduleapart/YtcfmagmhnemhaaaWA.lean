/-
  ScheduleChain: what is shared beforehand is one term just if the secrets are the same ones in the same order.
-/
import Derived.Test.YtcfmagmhnemhaaaVG
namespace Go.Proofs.Ytcfmagmhnemhaaa
open Go.RowKit
set_option linter.unusedSimpArgs false
set_option linter.unusedVariables false

theorem atoms_mean2 {k : Nat} : ∀ {l : List Int}, (∀ x ∈ l, 1 ≤ x ∧ x ≤ (k : Int)) → Mean2 (atoms k) l (l.map Tm.atom)
  | [], _ => .nil
  | x :: l, h => .cons (atoms_means (h x (by simp)).1 (h x (by simp)).2) (atoms_mean2 fun y hy => h y (by simp [hy]))

theorem map_atom_inj : ∀ {l m : List Int}, l.map Tm.atom = m.map Tm.atom → l = m
  | [], [], _ => rfl
  | [], b :: m, h => by simp at h
  | a :: l, [], h => by simp at h
  | a :: l, b :: m, h => by
    simp only [List.map_cons, List.cons.injEq, Tm.atom.injEq] at h
    rw [h.1, map_atom_inj h.2]

theorem arg_off {w w1 w3 : World} {s : Nat} {a : Option Addr} {m cap : Nat} {l : List Int} (hb : Below w.heap.size w w1) (ha : IntsAt w (.slice a m cap) l) (hnew : ∀ k, Own w3 s k → w1.heap.size ≤ k) :
    l ≠ [] → ∀ b o sp n c, Value.slice a m cap = .slice (some ⟨b, o, sp⟩) n c → ¬ Own w3 s b := fun hn b o sp n c e ho => by
  obtain ⟨a', cap', e', _, h2⟩ := ha
  cases e'
  cases e
  obtain ⟨b', o', e2, hlt, _⟩ := h2 hn
  cases e2
  have := hnew b ho
  have := hb.size
  omega

set_option maxRecDepth 100000 in
set_option maxHeartbeats 4000000 in
theorem chain_law {va vb : Value} {a b : List Int} {w : World} (ha : IntsAt w va a) (hb : IntsAt w vb b) :
    Calls Try.prog 5 #[va, vb] w fun e w' => e = .returned (.bool true) ∧ Below w.heap.size w w' := by
  have hL : Laid0 w := trivial
  obtain ⟨a1, cap1, rfl, hl1, _⟩ := id ha
  obtain ⟨a2, cap2, rfl, hl2, _⟩ := id hb
  have HA : Hid (∀ w', Below w.heap.size w w' → Calls Try.prog 7 #[.slice a1 a.length cap1, .int .i64 9] w' fun e w2 => e = .returned (.bool (rightB a 9)) ∧ w2 = w') := fun w' hw => right_m (ha.below hw) 9
  have HB : Hid (∀ w', Below w.heap.size w w' → Calls Try.prog 7 #[.slice a2 b.length cap2, .int .i64 9] w' fun e w2 => e = .returned (.bool (rightB b 9)) ∧ w2 = w') := fun w' hw => right_m (hb.below hw) 9
  have Ha : Hid (IntsAt w (.slice a1 a.length cap1) a) := ha
  have Hb : Hid (IntsAt w (.slice a2 b.length cap2) b) := hb
  clear ha hb hl1 hl2
  cases ra : rightB a 9
  · rw [ra] at HA
    clear ra HB Ha Hb
    go_enter Try.func5, Try.ntmps5
    go_wp2_with fail
    refine (anchor_m hL).mono ?_
    rintro e w1 ⟨rfl, b1⟩
    go_wp2_with (go_at_call 7; refine Calls.mono (HA.out _ b1) ?_; rintro e w2 ⟨rfl, rfl⟩)
    go_ret
    exact ⟨rfl, b1⟩
  cases rb : rightB b 9
  · rw [ra] at HA
    rw [rb] at HB
    clear ra rb Ha Hb
    go_enter Try.func5, Try.ntmps5
    go_wp2_with fail
    refine (anchor_m hL).mono ?_
    rintro e w1 ⟨rfl, b1⟩
    go_wp2_with fail
    refine Calls.mono (HA.out _ b1) ?_; rintro e w2 ⟨rfl, rfl⟩
    go_wp2_with fail
    refine Calls.mono (HB.out _ b1) ?_; rintro e w2 ⟨rfl, rfl⟩
    go_wp2_with fail
    go_ret
    exact ⟨rfl, b1⟩
  have MA : Hid (Mean2 (atoms 9) a (a.map Tm.atom)) := atoms_mean2 (k := 9) fun x hx => rightB_mem ra x hx
  have MB : Hid (Mean2 (atoms 9) b (b.map Tm.atom)) := atoms_mean2 (k := 9) fun x hx => rightB_mem rb x hx
  rw [ra] at HA
  rw [rb] at HB
  clear ra rb
  by_cases la : (200 : Int) < (a.length : Int)
  · go_enter Try.func5, Try.ntmps5
    go_wp2_with fail
    refine (anchor_m hL).mono ?_
    rintro e w1 ⟨rfl, b1⟩
    go_wp2_with fail
    refine Calls.mono (HA.out _ b1) ?_; rintro e w2 ⟨rfl, rfl⟩
    go_wp2_with fail
    refine Calls.mono (HB.out _ b1) ?_; rintro e w2 ⟨rfl, rfl⟩
    go_wp2_with fail
    go_ret
    exact ⟨rfl, b1⟩
  by_cases lb : (200 : Int) < (b.length : Int)
  · have pa : ((200 : Int) < (a.length : Int)) = False := eq_false la
    clear la
    go_enter Try.func5, Try.ntmps5
    go_wp2_with fail
    refine (anchor_m hL).mono ?_
    rintro e w1 ⟨rfl, b1⟩
    go_wp2_with fail
    refine Calls.mono (HA.out _ b1) ?_; rintro e w2 ⟨rfl, rfl⟩
    go_wp2_with fail
    refine Calls.mono (HB.out _ b1) ?_; rintro e w2 ⟨rfl, rfl⟩
    go_wp2_with fail
    go_ret
    exact ⟨rfl, b1⟩
  have La : Hid (a.length ≤ 200) := by unfold Hid; omega
  have Lb : Hid (b.length ≤ 200) := by unfold Hid; omega
  have pa : ((200 : Int) < (a.length : Int)) = False := eq_false la
  have pb : ((200 : Int) < (b.length : Int)) = False := eq_false lb
  clear la lb
  go_enter Try.func5, Try.ntmps5
  go_wp2_with fail
  refine (anchor_m hL).mono ?_
  rintro e w1 ⟨rfl, b1⟩
  go_wp2_with fail
  refine Calls.mono (HA.out _ b1) ?_; rintro e w2 ⟨rfl, rfl⟩
  go_wp2_with fail
  refine Calls.mono (HB.out _ b1) ?_; rintro e w2 ⟨rfl, rfl⟩
  go_wp2_with fail
  refine (stores_m (hL.low hL.big (fun k hk => b1.block k hk)) 9 (by decide)).mono ?_
  rintro e w3 ⟨s, r, rfl, hT⟩
  have l0 := atoms_length 9
  have i0 := Ha.out.below (b1.trans (hT.low.mono b1.size))
  have j0 := Hb.out.below (b1.trans (hT.low.mono b1.size))
  have f0 := arg_off b1 Ha.out hT.newS
  have hlow := b1.trans (hT.low.mono b1.size)
  go_wp2_with fail
  refine (shared_m hT.seat i0 f0 MA.out (by rw [l0]; have := La.out; omega)).mono ?_
  rintro e w4 ⟨t4, ns4, rfl, r4, m4⟩
  have hT4 := hT.run r4
  have g0 := arg_off b1 Hb.out hT4.newS
  have j1 := Hb.out.below (b1.trans (hT4.low.mono b1.size))
  have i1 := Ha.out.below (b1.trans (hT4.low.mono b1.size))
  have l4 := r4.st.len
  rw [l0] at l4
  have sh := shared_m hT4.seat j1 g0 (MB.out.keeps r4.st.pre) (by have := La.out; have := Lb.out; omega)
  clear i0 j0 f0 hlow l4 r4 hT g0
  go_wp2_with fail
  refine sh.mono ?_
  rintro e w5 ⟨t5, ns5, rfl, r5, m5⟩
  have hT5 := hT4.run r5
  have i5 := Ha.out.below (b1.trans (hT5.low.mono b1.size))
  have j5 := Hb.out.below (b1.trans (hT5.low.mono b1.size))
  have hin := ints_any i5 j5
  have hq : (t4 == t5) = decide (a = b) := by
    have e := Means.eq_iff hT5.seat.wf (m4.keeps r5.st.pre) m5
    by_cases hab : a = b
    · have := e.2 (by rw [hab])
      simp [this, hab]
    · have h1 : ¬ t4 = t5 := fun h => hab (map_atom_inj (sharedT_inj (e.1 h)))
      simp [h1, hab]
  have n4 : (t4 != 0) = true := by have := (hasB_iff _ _).1 m4.has; simp; omega
  have n5 : (t5 != 0) = true := by have := (hasB_iff _ _).1 m5.has; simp; omega
  obtain ⟨Q, hQ⟩ : ∃ Q, decide (a = b) = Q := ⟨_, rfl⟩
  rw [hQ] at hq hin
  have hqq : (Q == Q) = true := by simp
  have HLo : Hid (Below w.heap.size w w5) := b1.trans (hT5.low.mono b1.size)
  clear hQ m4 m5 i5 j5 sh hT4 r5 i1 j1 hT5
  go_wp2_with fail
  refine hin.mono ?_
  rintro e w6 ⟨rfl, b6⟩
  go_wp2_with fail
  go_ret
  exact ⟨by simp, HLo.out.trans (b6.mono HLo.out.size)⟩

end Go.Proofs.Ytcfmagmhnemhaaa
