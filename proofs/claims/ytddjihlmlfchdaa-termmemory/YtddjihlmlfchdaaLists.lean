/-
  conclavelaw01.TermLists answers true for every input.
-/
import Derived.Test.YtddjihlmlfchdaaAppI
namespace Go.Proofs.Ytddjihlmlfchdaa
open Go.RowKit
set_option linter.unusedSimpArgs false
set_option linter.unusedVariables false

theorem Side.made {w0 w : World} {s : Nat} {ns : List Nd} {dr : Int} (h : Mine w0 s w ns dr) (cap : Nat) (cs : Array Value) (hc : cs.size = cap) (hm : cap ≤ maxLen) : Side w0 (w.alloc (.cells cs 3)) s 3 1 (.slice (some ⟨w.heap.size, 0, none⟩) 0 cap) 0 [] := by
  refine ⟨World.ownsRow_made w cs cap h.below.size hm (by omega), fun g hg ho => ?_⟩
  simp [Value.ownBlock] at hg
  subst hg
  have := h.st.own_lt ((own_below h.st.lt ((Below.refl _ w).alloc (Nat.le_refl _) _) _).1 ho)
  omega

theorem Side.notOwn {w0 w : World} {s e size n : Nat} {v : Value} {xs : List Value} (h : Side w0 w s e size v n xs) : ∀ b o sp n c, v = .slice (some ⟨b, o, sp⟩) n c → ¬ Own w s b := by
  intro b o sp n' c hv
  exact h.free b (by rw [hv]; rfl)

theorem list_mine {w0 w : World} {s n : Nat} {ns ns' : List Nd} {dr t : Int} {v : Value} {l : List Int} (h : Mine w0 s w ns dr) (hd : Side w0 w s 3 1 v l.length (l.map (Value.int .i64))) (hl : (l.length : Int) ≤ 9223372036854775807) (hk : listF ns l = (t, ns')) :
    Calls Try.prog 24 #[.pointer (some ⟨s, 0, none⟩), v] w fun e w' => e = .returned (.int .i64 t) ∧ Mine w0 s w' ns' dr ∧ Moved s w w' := by
  refine (list_any h.st (ownsRow_ints hd.own hl) hd.notOwn).mono ?_
  rw [hk]
  rintro e w' ⟨rfl, hst, hmv⟩
  exact ⟨rfl, h.moved hst hmv, hmv⟩

theorem items_mine {w0 w : World} {s : Nat} {ns : List Nd} {dr : Int} (h : Mine w0 s w ns dr) (hw : Wf ns) (t : Int) {l : List Int} (hk : itemsF ns t = some l) :
    Calls Try.prog 25 #[.pointer (some ⟨s, 0, none⟩), .int .i64 t] w fun e w' => ∃ v, e = .returned (.tuple #[v, .bool true]) ∧ w'.ownsRow w.heap.size 3 1 v l.length (l.map (Value.int .i64)) ∧ Below w.heap.size w w' := by
  refine (items_any h.st hw t).mono ?_
  rw [hk]
  rintro e w' ⟨v, h1, h2⟩
  exact ⟨v, h1, h2⟩

def inR (x : Int) : Bool := decide (1 ≤ x) && decide (x ≤ 20)

theorem has_atoms (x : Int) (h : inR x = true) : hasB (atoms 20) x = true := by
  simp [inR] at h
  rw [hasB_iff, atoms_length]
  omega

set_option maxRecDepth 100000 in
set_option maxHeartbeats 4000000 in
theorem lists_walk {v1 : Value} {l : List Int} {w : World} (hl : IntsAt w v1 l) {v2 : Value} {m : List Int} (hm : IntsAt w v2 m) :
    Calls Try.prog 5 #[v1, v2] w fun e w' => e = .returned (.bool true) ∧ Below w.heap.size w w' := by
  obtain ⟨a1, cap1, rfl, hl1, _⟩ := id hl
  obtain ⟨a2, cap2, rfl, hl2, _⟩ := id hm
  by_cases h1 : (1000 : Int) < l.length
  · go_enter Try.func5, Try.ntmps5
    go_wp2_with fail
    refine (anchor_any w).mono ?_
    rintro e w1 ⟨rfl, hb⟩
    go_wp2_with fail
    go_ret
    exact ⟨rfl, hb⟩
  have h1' : decide ((1000 : Int) < l.length) = false := dec_false h1
  by_cases h2 : (1000 : Int) < m.length
  · go_enter Try.func5, Try.ntmps5
    go_wp2_with fail
    refine (anchor_any w).mono ?_
    rintro e w1 ⟨rfl, hb⟩
    go_wp2_with fail
    go_ret
    exact ⟨rfl, hb⟩
  have h2' : decide ((1000 : Int) < m.length) = false := dec_false h2
  go_enter Try.func5, Try.ntmps5
  go_wp2_with fail
  refine (anchor_any w).mono ?_
  rintro e w1 ⟨rfl, hb⟩
  go_wp2_with fail
  refine (new_mine w w1 hb).mono ?_
  rintro e w2 ⟨s, rfl, m2⟩
  clear hb
  go_wp2_with fail
  go_loopw [6] (fun i wr => ∃ k : Nat, k ≤ 20 ∧ i = .int .i64 k ∧ Mine w s wr (atoms k) k) (fun i _ => 20 - (intOf i).toNat)
  case atStart => exact ⟨0, by omega, rfl, m2⟩
  case round =>
    obtain ⟨k, hk, rfl, mr⟩ := hrel
    clear m2
    by_cases hlt : (k : Int) < 20
    · go_wp2_with fail
      refine (fresh_mine mr (by omega) (by omega) (atoms_make k (by omega))).mono ?_
      rw [if_neg (show ¬ (k : Int) + 1 = 0 from by omega)]
      rintro e w3 ⟨rfl, m3⟩
      go_wp2_with fail
      go_roundw
      case rel => exact ⟨k + 1, by omega, by go_num, by simpa using m3⟩
      case measure => simp [intOf]; omega
    · have hk20 : k = 20 := by omega
      subst hk20
      clear hlt hk
      have hsz := mr.below.size
      have m3 := mr.grow ((Below.refl _ wr).alloc (Nat.le_refl _) (.cells #[] 3))
      have s3 := Side.made mr 0 #[] rfl (by unfold maxLen; omega)
      have i3 := hl.below m3.below
      have j3 := hm.below m3.below
      go_wp2_with (first
        | (at_builtin; refine wpList_append_ints _ rfl (.tmp 35) (.tmp 36) rfl w.heap.size (.slice (some ⟨wr.heap.size, 0, none⟩) 0 0) 0 [] rfl s3.own (.slice a1 l.length cap1) l rfl i3 (by unfold maxLen; omega) (by omega) (by simp; omega) ?_; intro v4 w4 hown4 hg4 hloc4; obtain ⟨m4, s4⟩ := m3.appended s3 hg4 hown4 hloc4; have j4 := hm.below m4.below; have hz4 := m4.below.size)
        | (at_builtin; refine wpList_append_ints _ rfl (.tmp 37) (.tmp 38) rfl w.heap.size v4 _ _ rfl s4.own (.slice a2 m.length cap2) m rfl j4 (by unfold maxLen; omega) (by omega) (by omega) ?_; intro v5 w5 hown5 hg5 hloc5; obtain ⟨m5, s5⟩ := m4.appended s4 hg5 hown5 hloc5; obtain ⟨a5, cap5, hv5⟩ := s5.form; rw [hv5]))
      subst hv5
      have s5' : Side w w5 s 3 1 (.slice a5 (l.length + m.length) cap5) (l ++ m).length ((l ++ m).map (Value.int .i64)) := by
        have e1 : (l ++ m).length = 0 + l.length + m.length := by simp
        have e2 : (l ++ m).map (Value.int .i64) = [] ++ l.map (Value.int .i64) ++ m.map (Value.int .i64) := by simp
        rw [e1, e2]
        have e3 : 0 + l.length + m.length = l.length + m.length := by omega
        rw [e3] at s5 ⊢
        exact s5
      have hcl : (l ++ m).length = l.length + m.length := by simp
      generalize hcc : l ++ m = c at *
      have Hcc : Hid (l ++ m = c) := hcc
      have Hcl : Hid (c.length = l.length + m.length) := hcl
      clear s5 hown4 hg4 hloc4 hown5 hg5 hloc5 m4 s4 j4 m3 s3 i3 mr hcc hcl
      go_loop [7, 41] (fun r i => ∃ k : Nat, k ≤ l.length + m.length ∧ i = .int .i64 k ∧ r = .bool ((c.take k).all inR)) (fun _ i => l.length + m.length - (intOf i).toNat)
      case atStart => exact ⟨0, Nat.zero_le _, rfl, by simp⟩
      case round =>
        obtain ⟨k, hk, rfl, rfl⟩ := hrel
        by_cases hlt : k < l.length + m.length
        · have hkc : k < c.length := by have := Hcl.out; omega
          obtain ⟨g, cp, hv, hg, hcell⟩ := s5'.ints hkc
          simp at hv
          obtain ⟨rfl, _, rfl⟩ := hv
          have hdd : c[k]? = some (c.getD k 0) := by simp [List.getD, hkc]
          generalize c.getD k 0 = x at *
          have Ht : Hid ((c.take (k + 1)).all inR = ((c.take k).all inR && inR x)) := by
            rw [List.take_add_one, hdd]; simp [Hid]
          clear hdd
          generalize (c.take k).all inR = b0 at *
          cases b0
          · go_wp2_with fail
            go_round
            case rel => exact ⟨k + 1, by omega, by go_num, by rw [Ht.out]; rfl⟩
            case measure => simp [intOf]; omega
          · by_cases x1 : 1 ≤ x
            · have x2 : inR x = decide (x ≤ 20) := by simp [inR, x1]
              have X2 : Hid (inR x = decide (x ≤ 20)) := x2
              clear x2
              go_wp2_with fail
              go_round
              case rel => exact ⟨k + 1, by omega, by go_num, by rw [Ht.out, X2.out]; rfl⟩
              case measure => simp [intOf]; omega
            · have x1' : decide (1 ≤ x) = false := dec_false x1
              have X2 : Hid (inR x = false) := by simp only [Hid, inR, x1', Bool.false_and]
              go_wp2_with fail
              go_round
              case rel => exact ⟨k + 1, by omega, by go_num, by rw [Ht.out, X2.out]; rfl⟩
              case measure => simp [intOf]; omega
        · have Ht : Hid ((c.take k).all inR = c.all inR) := by
            rw [List.take_of_length_le (by have := Hcl.out; omega)]; exact rfl
          rw [Ht.out]
          cases hright : c.all inR
          · clear hright
            go_wp2_with fail
            go_ret
            exact ⟨rfl, m5.below⟩
          · rw [List.all_eq_true] at hright
            have Hin : Hid (∀ x ∈ l ++ m, hasB (atoms 20) x = true) := fun x hx => has_atoms x (hright x (by rw [← Hcc.out]; exact hx))
            clear hright Ht s5'
            obtain ⟨t1, N1, hk1, hp1, hw1, hL1, hlen1⟩ := listF_ok (l := l) (atoms_wf 20 (by omega)) (fun x hx => Hin.out x (by simp [hx])) (by rw [atoms_length]; omega)
            rw [atoms_length] at hlen1
            obtain ⟨t2, N2, hk2, hp2, hw2, hL2, hlen2⟩ := listF_ok (ns := N1) (l := m) hw1 (fun x hx => (prefix_keeps hp1 (Hin.out x (by simp [hx]))).1) (by omega)
            have K1 : Hid (listF (atoms 20) l = (t1, N1)) := hk1
            have K2 : Hid (listF N1 m = (t2, N2)) := hk2
            have I1 : Hid (itemsF N2 t1 = some l) := (hL1.keeps hp2).items hw2
            have I2 : Hid (itemsF N2 t2 = some m) := hL2.items hw2
            have hEq : (t1 == t2) = decide (l = m) := by
              rw [Bool.eq_iff_iff]
              simp only [beq_iff_eq, decide_eq_true_eq]
              constructor
              · intro e
                have h1 := I1.out
                rw [e, I2.out] at h1
                simpa using h1.symm
              · intro e
                subst e
                exact (hL1.keeps hp2).inj hw2 hL2
            clear hk1 hk2 hL1 hL2 hp1 hp2
            have hz5 := m5.below.size
            have m6 := m5.grow ((Below.refl _ w5).alloc (Nat.le_refl _) (.cells #[] 3))
            have s6 := Side.made m5 0 #[] rfl (by unfold maxLen; omega)
            have i6 := hl.below m6.below
            go_wp2_with (at_builtin; refine wpList_append_ints _ rfl (.tmp 58) (.tmp 59) rfl w.heap.size (.slice (some ⟨w5.heap.size, 0, none⟩) 0 0) 0 [] rfl s6.own (.slice a1 l.length cap1) l rfl i6 (by unfold maxLen; omega) (by omega) (by simp; omega) ?_; intro v7 w7 hown7 hg7 hloc7)
            obtain ⟨m7, s7⟩ := m6.appended s6 hg7 hown7 hloc7
            rw [Nat.zero_add, List.nil_append] at s7
            refine (list_mine (n := 0) m7 s7 hl1 K1.out).mono ?_
            rintro e w8 ⟨rfl, m8, _⟩
            clear hown7 hg7 hloc7 m7 s7 m6 s6 i6
            have hz8 := m8.below.size
            have m9 := m8.grow ((Below.refl _ w8).alloc (Nat.le_refl _) (.cells #[] 3))
            have s9 := Side.made m8 0 #[] rfl (by unfold maxLen; omega)
            have i9 := hm.below m9.below
            go_wp2_with (at_builtin; refine wpList_append_ints _ rfl (.tmp 63) (.tmp 64) rfl w.heap.size (.slice (some ⟨w8.heap.size, 0, none⟩) 0 0) 0 [] rfl s9.own (.slice a2 m.length cap2) m rfl i9 (by unfold maxLen; omega) (by omega) (by simp; omega) ?_; intro v10 w10 hown10 hg10 hloc10)
            obtain ⟨m10, s10⟩ := m9.appended s9 hg10 hown10 hloc10
            rw [Nat.zero_add, List.nil_append] at s10
            refine (list_mine (n := 0) m10 s10 hl2 K2.out).mono ?_
            rintro e w11 ⟨rfl, m11, _⟩
            clear hown10 hg10 hloc10 m10 s10 m9 s9 i9 m8 m5
            go_wp2_with fail
            refine (items_mine m11 hw2 t1 I1.out).mono ?_
            rintro e w12 ⟨vx, rfl, ox, bx⟩
            have m12 := m11.grow bx
            go_wp2_with fail
            refine (items_mine m12 hw2 t2 I2.out).mono ?_
            rintro e w13 ⟨vy, rfl, oy, by_⟩
            have m13 := m12.grow by_
            have ix := ownsRow_ints (ownsRow_below ox by_) hl1
            have iy := ownsRow_ints oy hl2
            have il := hl.below m13.below
            have im := hm.below m13.below
            obtain ⟨ax, cx, rfl⟩ := ownsRow_form ox
            obtain ⟨ay, cy, rfl⟩ := ownsRow_form oy
            clear m11 m12 ox oy bx by_ K1 K2 I1 I2 hl hm
            go_wp2_with fail
            refine (ints_any ix il).mono ?_
            rintro e w14 ⟨rfl, n14, rfl⟩
            go_wp2_with fail
            refine (ints_any (iy.below (below_drewN (Below.refl _ _) _)) (im.below (below_drewN (Below.refl _ _) _))).mono ?_
            rintro e w15 ⟨rfl, n15, rfl⟩
            go_wp2_with fail
            refine (ints_any (w := w13.drewN (n14 + n15)) il im).mono ?_
            rintro e w16 ⟨rfl, n16, rfl⟩
            go_wp2_with fail
            go_ret
            exact ⟨by simp [hEq], below_drewN m13.below _⟩

end Go.Proofs.Ytddjihlmlfchdaa
