/-
  The document's example; right trees whose numbers are terms; and that two numbers have one term just if they are one.
-/
import Derived.Test.YtmcjincgppddeaaDoorEF
import Derived.Test.YtmcjincgppddeaaDoorFC
import Derived.Test.YtmcjincgppddeaaDoorL
namespace Go.Proofs.YtmcjincgppddeaaDoor
open Go.RowKit
set_option linter.unusedSimpArgs false
set_option linter.unusedVariables false

theorem treeS_one {w : World} {s : Nat} {ns : List Nd} {dr : Int} (h : StoreAt w s ns dr) (u : PV) (hu : u.late = []) : TS (w.alloc (.cells #[.bool u.full, .int .i64 u.key, .int .i64 u.client, .int .i64 u.sig, .int .i64 u.hash, .slice none 0 0] 47)) s (.slice (some ⟨w.heap.size, 0, none⟩) 1 1) [u] := by
  refine ⟨_, 1, rfl, by simp, fun _ => ⟨w.heap.size, 0, rfl, free_new h _, by simp, fun x u' hx => ?_⟩⟩
  obtain ⟨rfl, rfl⟩ : x = 0 ∧ u' = u := by
    cases x with
    | zero => simp at hx; exact ⟨rfl, hx.symm⟩
    | succ k => simp at hx
  refine ⟨.slice none 0 0, ?_, ?_⟩
  · constructor
    all_goals first | (rw [hu]; exact ⟨none, 0, rfl, by simp, fun h => absurd rfl h⟩) | go_simp
  · rw [hu]; exact ⟨none, 0, rfl, by simp, fun h => absurd rfl h⟩

def exU : PV := ⟨true, 1, 3, 2, 0, []⟩
theorem ex_fit : Fit [exU] := by
  refine ⟨⟨by decide, by decide⟩, fun x u hx => ?_⟩
  cases x with
  | zero => simp at hx; subst hx; exact ⟨by decide, List.Pairwise.nil, fun i hi => by cases hi⟩
  | succ k => simp at hx

theorem itoa0 : Lib.itoa 0 = [48] := by simp [Lib.itoa, Lib.decDigits]
theorem itoa3 : Lib.itoa 3 = [51] := by simp [Lib.itoa, Lib.decDigits]
theorem itoa12 : Lib.itoa (-12) = [45, 49, 50] := by simp [Lib.itoa, Lib.decDigits]

theorem ex_tree : treeT Tm.atom [exU] = .hash lLeaf (listT [.text ⟨#[48]⟩, .text ⟨#[51]⟩, .atom 1, .atom 2, .text ⟨#[]⟩]) := by
  have e : (lv [exU] : Int) - 1 = 0 := by decide
  have l0 : lev 0 = 0 := by decide
  unfold treeT
  rw [e]
  simp [hashT, l0, leafT, vx, exU, numT, noneT, itoa0, itoa3]

theorem atoms_means {k : Nat} {t : Int} (h1 : 1 ≤ t) (h2 : t ≤ k) : Means (atoms k) t (.atom t) := by
  have key : ∀ (k i : Nat), i < k → (atoms k)[i]? = some (atom ((i : Int) + 1)) := by
    intro k
    induction k with
    | zero => intro i hi; omega
    | succ k ih =>
      intro i hi
      simp only [atoms]
      by_cases hik : i < k
      · rw [List.getElem?_append_left (by rw [atoms_length]; exact hik)]
        exact ih i hik
      · have : i = k := by omega
        subst this
        rw [List.getElem?_append_right (by rw [atoms_length]; exact Nat.le_refl _), atoms_length]
        simp
  obtain ⟨i, rfl⟩ : ∃ i : Nat, t = (i + 1 : Nat) := ⟨t.toNat - 1, by omega⟩
  have hg := nodeF_at (key k i (by omega))
  refine ⟨hg.2, ?_⟩
  rw [hg.1]
  simp [atom]

theorem atoms_has {k : Nat} {t : Int} (h1 : 0 ≤ t) (h2 : t ≤ k) : Has (atoms k) Tm.atom t := fun h => atoms_means (by omega) h2

set_option maxRecDepth 100000 in
set_option maxHeartbeats 4000000 in
theorem anchor_any {w : World} (hT : Tab w ∧ Pow w) :
    Calls Tryd.prog 9 #[] w fun e w' => e = .returned (.bool true) ∧ Below w.heap.size w w' := by
  go_enter Tryd.func9, Tryd.ntmps9
  go_wp2_with fail
  refine (stores_m hT.1 hT.2 2 (by decide)).mono ?_
  rintro e w1 ⟨s, r, rfl, hTw⟩
  have hal : Below w1.heap.size w1 (w1.alloc (.cells #[.bool true, .int .i64 1, .int .i64 3, .int .i64 2, .int .i64 0, .slice none 0 0] 47)) := (Below.refl _ _).alloc (Nat.le_refl _) _
  have hts := treeS_one hTw.seat.st exU rfl
  simp only [exU] at hts
  have hTw1 := hTw.below hal
  have htm := Tree_m (g := Tm.atom) ex_fit hTw1.seat hts (fun z hz => by
    obtain ⟨k, rfl, hk⟩ := in_place ex_fit.sh hz
    have : k = 0 := by simp at hk; omega
    subst this
    exact ⟨atoms_has (by decide) (by decide), atoms_has (by decide) (by decide), atoms_has (by decide) (by decide), by decide, by decide⟩) (by rw [atoms_length]; decide)
  rw [ex_tree] at htm
  clear hts hal
  go_wp2_with fail
  refine htm.mono ?_
  rintro e w2 ⟨t2, ns2, rfl, r2, m2⟩
  have hTw2 := hTw1.run r2
  have l2 := r2.st.len
  rw [atoms_length] at l2
  have hp2 : (t2 != 0) = true := by have := m2.pos; simp; omega
  clear htm
  go_wp2_with fail
  refine (text_m hTw2.seat ⟨#[48]⟩ (by decide) (by omega)).mono ?_
  rintro e w3 ⟨t3, ns3, rfl, r3, m3⟩
  have hTw3 := hTw2.run r3
  have l3 := r3.st.len
  go_wp2_with fail
  refine (text_m hTw3.seat ⟨#[51]⟩ (by decide) (by omega)).mono ?_
  rintro e w4 ⟨t4, ns4, rfl, r4, m4⟩
  have hTw4 := hTw3.run r4
  have l4 := r4.st.len
  go_wp2_with fail
  refine (text_m hTw4.seat ⟨#[]⟩ (by decide) (by omega)).mono ?_
  rintro e w5 ⟨t5, ns5, rfl, r5, m5⟩
  have hTw5 := hTw4.run r5
  have l5 := r5.st.len
  have hpre : atoms 2 <+: ns5 := r2.st.pre.trans (r3.st.pre.trans (r4.st.pre.trans r5.st.pre))
  have hM : Mean2 ns5 [t3, t4, 1, 2, t5] [.text ⟨#[48]⟩, .text ⟨#[51]⟩, .atom 1, .atom 2, .text ⟨#[]⟩] :=
    .cons (m3.keeps (r4.st.pre.trans r5.st.pre)) (.cons (m4.keeps r5.st.pre) (.cons ((atoms_means (by decide) (by decide)).keeps hpre) (.cons ((atoms_means (by decide) (by decide)).keeps hpre) (.cons m5 .nil))))
  have hln := list_new hTw5.seat [t3, t4, 1, 2, t5] hM (by simp; omega)
  go_wp2_with fail
  refine hln.mono ?_
  rintro e w6 ⟨t6, ns6, rfl, r6, m6⟩
  have hTw6 := hTw5.run r6
  have l6 := r6.st.len
  simp only [List.length_cons, List.length_nil] at l6
  go_wp2_with fail
  refine (hash_m hTw6.seat lLeaf (by decide) (by omega) m6).mono ?_
  rintro e w7 ⟨t7, ns7, rfl, r7, m7⟩
  have hTw7 := hTw6.run r7
  have l7 := r7.st.len
  have e7 : t2 = t7 := (m2.keeps (r3.st.pre.trans (r4.st.pre.trans (r5.st.pre.trans (r6.st.pre.trans r7.st.pre))))).inj hTw7.seat.wf m7
  have hq7 : (t2 == t7) = true := by simp [e7]
  clear e7 hln hM
  go_wp2_with fail
  refine (number_m hTw7.seat (-12) (by decide) (by decide) (by omega)).mono ?_
  rintro e w8 ⟨t8, ns8, rfl, r8, m8⟩
  have hTw8 := hTw7.run r8
  have l8 := r8.st.len
  go_wp2_with fail
  refine (text_m hTw8.seat ⟨#[45, 49, 50]⟩ (by decide) (by omega)).mono ?_
  rintro e w9 ⟨t9, ns9, rfl, r9, m9⟩
  have hTw9 := hTw8.run r9
  have e9 : t8 = t9 := by
    have h8 : Means ns9 t8 (.text ⟨#[45, 49, 50]⟩) := by
      have := m8.keeps r9.st.pre
      unfold numT at this
      rw [itoa12] at this
      exact this
    exact h8.inj hTw9.seat.wf m9
  have hq9 : (t8 == t9) = true := by simp [e9]
  clear e9
  go_wp2_with fail
  go_ret
  exact ⟨rfl, hTw9.low⟩

theorem Tabs.below {w w' : World} (h : Tab w ∧ Pow w) (hb : Below w.heap.size w w') : Tab w' ∧ Pow w' := ⟨h.1.below hb h.1.size, h.2.block (hb.block 0 h.2.size)⟩

theorem int_range {a : Int} (h : (Lit.int .i64 a).wf = true) : -9223372036854775808 ≤ a ∧ a ≤ 9223372036854775807 := by
  have h1 : IntKind.i64.min = -9223372036854775808 := by decide
  have h2 : IntKind.i64.max = 9223372036854775807 := by decide
  simp only [Lit.wf, h1, h2, Bool.and_eq_true, decide_eq_true_eq] at h
  exact h

set_option maxRecDepth 100000 in
set_option maxHeartbeats 4000000 in
theorem numbers_law (a : Int) (ha : (Lit.int .i64 a).wf = true) (b : Int) (hb : (Lit.int .i64 b).wf = true) {w : World} (hT : Tab w ∧ Pow w) :
    Calls Tryd.prog 6 #[.int .i64 a, .int .i64 b] w fun e w' => e = .returned (.bool true) ∧ Below w.heap.size w w' := by
  have ra := int_range ha
  have rb := int_range hb
  have Ra : Hid (-9223372036854775808 ≤ a ∧ a ≤ 9223372036854775807) := ra
  have Rb : Hid (-9223372036854775808 ≤ b ∧ b ≤ 9223372036854775807) := rb
  clear ra rb ha hb
  go_enter Tryd.func6, Tryd.ntmps6
  go_wp2_with fail
  refine (anchor_any hT).mono ?_
  rintro e w0 ⟨rfl, b0⟩
  have hT0 := Tabs.below hT b0
  go_wp2_with fail
  refine (stores_m hT0.1 hT0.2 1 (by decide)).mono ?_
  rintro e w1 ⟨s, r, rfl, hTw⟩
  have l1 := atoms_length 1
  go_wp2_with fail
  refine (number_m hTw.seat a Ra.out.1 Ra.out.2 (by omega)).mono ?_
  rintro e w2 ⟨t2, ns2, rfl, r2, m2⟩
  have hTw2 := hTw.run r2
  have l2 := r2.st.len
  go_wp2_with fail
  refine (number_m hTw2.seat b Rb.out.1 Rb.out.2 (by omega)).mono ?_
  rintro e w3 ⟨t3, ns3, rfl, r3, m3⟩
  have hTw3 := hTw2.run r3
  have m2' := m2.keeps r3.st.pre
  have hp3 : (t3 != 0) = true := by have := m3.pos; simp; omega
  have hg := get_any hTw3.seat.st t2
  rw [m2'.2, m2'.1] at hg
  unfold Nd.val at hg
  have hq : (t2 == t3) = (a == b) := by
    have := Means.eq_iff hTw3.seat.wf m2' m3
    by_cases hab : a = b
    · have h1 := this.2 (by rw [hab])
      rw [h1, hab]; simp
    · have h1 : ¬ t2 = t3 := fun e => hab (numT_inj (this.1 e))
      rw [beq_eq_false_iff_ne.2 h1, beq_eq_false_iff_ne.2 hab]
  obtain ⟨Q, hQ⟩ : ∃ Q, (a == b) = Q := ⟨_, rfl⟩
  rw [hQ] at hq
  have hqq : (Q == Q) = true := by simp
  clear m2 m2' m3
  go_wp2_with fail
  refine hg.mono ?_
  rintro e w4 ⟨rfl, b4⟩
  have hTw4 := hTw3.below b4
  have hlow := hTw4.low
  go_wp2_with fail
  go_ret
  refine ⟨?_, b0.trans (?_)⟩
  · simp
  · exact (hlow.alloc hlow.size _).mono b0.size

end Go.Proofs.YtmcjincgppddeaaDoor
