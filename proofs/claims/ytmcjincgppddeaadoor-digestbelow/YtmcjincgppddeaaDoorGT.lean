/-
  Lists of vertices that come in, with what their numbers fit; trees hash alike just if they are one.
-/
import Derived.Test.YtmcjincgppddeaaDoorGB
namespace Go.Proofs.YtmcjincgppddeaaDoor
open Go.RowKit Go.WideShapes Go.ChangeShapes Go.Deep Go.Joins
set_option linter.unusedSimpArgs false
set_option linter.unusedVariables false

/-- A list of vertices that came in: its clients are Go's numbers. -/
def TreeIn5 (W : World) (v : Value) (t : Tree) : Prop := TreeIn W v t ∧ ∀ (x : Nat) (u : PV), t[x]? = some u → -9223372036854775808 ≤ u.client ∧ u.client ≤ 9223372036854775807

set_option maxRecDepth 100000 in
theorem client_of {H : Type} {enc : TypeId × Value → H} {W : World} {c0 c1 c3 c4 c5 : Value} {cl : Int} {fuel : Nat} {y : DataW H × List MemPlace} (hf : DataW.trod enc Tryd.prog W 0 (fun _ => true) true fuel 47 [c0, c1, .int .i64 cl, c3, c4, c5] = some y) : -9223372036854775808 ≤ cl ∧ cl ≤ 9223372036854775807 := by
  obtain ⟨xs, n, _, rfl, hl, hlen, hfs⟩ := DataW.trod_struct Tryd.underlying47 hf
  match xs, hlen with
  | [y0, y1, y2, y3, y4, y5], _ =>
    have t2 := hfs 2 _ rfl
    simp [cells3, cells4, cells22] at t2
    obtain ⟨x2, q2, _, hw⟩ := DataW.trod_int Tryd.underlying3 t2
    simp at q2
    subst q2
    exact int_range hw

set_option maxRecDepth 100000 in
theorem open_tree5 {H : Type} {enc : TypeId × Value → H} {W : World} {r : Reach} {base : Nat} {v : Value} {d : DataW H} {p : List MemPlace} (hv : Value.okWide Tryd.prog W r base 22 v) (h : DataW.Trod enc Tryd.prog W 0 (fun _ => true) true 22 v d p) (hw : ∀ n ∈ d.weights Tryd.prog 22, n ≤ reachBytes) : ∃ t, TreeIn5 W v t := by
  obtain ⟨a0, len, cap, rfl⟩ := okWide_slice Tryd.underlying22 hv
  obtain ⟨fuel, hf⟩ := h
  obtain ⟨t, ht⟩ := open_tree hv ⟨fuel, hf⟩ hw
  refine ⟨t, ht, fun x u hu => ?_⟩
  obtain ⟨hta, _⟩ := ht
  obtain ⟨b, off, cap', hd, e, hbl, hv'⟩ := hta.get hu
  have hx := (List.getElem?_eq_some_iff.1 hu).1
  rcases open_slice Tryd.underlying22 hf with ⟨hcs, _⟩ | ⟨a, len', cap'', m, n, D, Pl, hcs, _, hl, hm, hmm, hxx, hel⟩
  · simp [Value.cells] at hcs
    cases e
    simp at hcs
  · simp [Value.cells] at hcs
    obtain ⟨rfl, rfl, rfl⟩ := hcs
    cases e
    rw [cells24] at hel
    simp only [if_true] at hmm
    obtain ⟨cs', hc, ht'⟩ := hel x (by omega)
    obtain ⟨_, hlen, hcell⟩ := World.cells?_some hc
    obtain ⟨c0, c1, c2, c3, c4, c5, rfl⟩ := list6 hlen
    have ad : ∀ j o, (⟨b, o, none⟩ : Addr).add j = ⟨b, o + j, none⟩ := fun j o => by unfold Addr.add; split <;> simp_all
    have h2 := hcell 2 (by simp)
    rw [ad, ad, hv'.c2] at h2
    simp at h2
    subst h2
    exact client_of ht'

theorem known_all {t : Tree} (hg : Good t) (hr : Rng t 90) (hc : ∀ (x : Nat) (u : PV), t[x]? = some u → -9223372036854775808 ≤ u.client ∧ u.client ≤ 9223372036854775807) {ns : List Nd} (hp : atoms 90 <+: ns) : ∀ z, inB z (lv t) = true → Known ns Tm.atom (vx t z.toNat) := fun z hz => by
  obtain ⟨k, rfl, hk⟩ := in_place hg.sh hz
  have hget := vx_some (t := t) hk
  simp only [Int.toNat_natCast]
  obtain ⟨⟨a1, a2⟩, ⟨a3, a4⟩, ⟨a5, a6⟩⟩ := hr k _ hget
  obtain ⟨c1, c2⟩ := hc k _ hget
  exact Known.keeps ⟨atoms_has a1 a2, atoms_has a3 a4, atoms_has a5 a6, c1, c2⟩ hp

set_option maxRecDepth 100000 in
set_option maxHeartbeats 4000000 in
theorem tells_law {w : World} {v1 v2 : Value} {t u : Tree} (h1 : TreeIn5 w v1 t) (h2 : TreeIn5 w v2 u) (hT : Tab w ∧ Pow w) :
    Calls Tryd.prog 4 #[v1, v2] w fun e w' => e = .returned (.bool true) ∧ Below w.heap.size w w' := by
  obtain ⟨⟨ht, _⟩, hct⟩ := h1
  obtain ⟨⟨hu, _⟩, hcu⟩ := h2
  have Hct : Hid (∀ (x : Nat) (a : PV), t[x]? = some a → -9223372036854775808 ≤ a.client ∧ a.client ≤ 9223372036854775807) := hct
  have Hcu : Hid (∀ (x : Nat) (a : PV), u[x]? = some a → -9223372036854775808 ≤ a.client ∧ a.client ≤ 9223372036854775807) := hcu
  clear hct hcu
  go_enter Tryd.func4, Tryd.ntmps4
  go_wp2_with fail
  refine (anchor_any hT).mono ?_
  rintro e w0 ⟨rfl, b0⟩
  have hT0 := Tabs.below hT b0
  have ht0 := ht.below b0
  have hu0 := hu.below b0
  go_wp2_with fail
  refine (rightN_m ht0 90).mono ?_
  rintro e w1 ⟨bt, rfl, hbt, b1⟩
  have hT1 := Tabs.below hT0 b1
  have ht1 := ht0.below b1
  have hu1 := hu0.below b1
  cases bt with
  | false =>
    go_wp2_with fail
    go_ret
    exact ⟨rfl, on b0 b1⟩
  | true =>
    have HT : Hid (Good t ∧ Rng t 90) := hbt rfl
    clear hbt
    go_wp2_with fail
    refine (rightN_m hu1 90).mono ?_
    rintro e w2 ⟨bu, rfl, hbu, b2⟩
    have hT2 := Tabs.below hT1 b2
    have ht2 := ht1.below b2
    have hu2 := hu1.below b2
    have b02 := on b0 (on b1 b2)
    cases bu with
    | false =>
      go_wp2_with fail
      go_ret
      exact ⟨rfl, b02⟩
    | true =>
      have HU : Hid (Good u ∧ Rng u 90) := hbu rfl
      clear hbu
      go_wp2_with fail
      refine (stores_m hT2.1 hT2.2 90 (by decide)).mono ?_
      rintro e w3 ⟨s, r, rfl, hTw⟩
      have hst := hTw.tree ht2
      have hsu := hTw.tree hu2
      have htm := Tree_m (g := Tm.atom) HT.out.1.fit hTw.seat hst (known_all HT.out.1 HT.out.2 Hct.out (List.prefix_refl _)) (by rw [atoms_length]; decide)
      go_wp2_with fail
      refine htm.mono ?_
      rintro e w4 ⟨t4, ns4, rfl, r4, m4⟩
      have hTw4 := hTw.run r4
      have l4 := r4.st.len
      rw [atoms_length] at l4
      have hum := Tree_m (g := Tm.atom) HU.out.1.fit hTw4.seat (hsu.moved r4.mv) (known_all HU.out.1 HU.out.2 Hcu.out r4.st.pre) (by omega)
      go_wp2_with fail
      refine hum.mono ?_
      rintro e w5 ⟨t5, ns5, rfl, r5, m5⟩
      have hTw5 := hTw4.run r5
      have m4' := m4.keeps r5.st.pre
      have hp4 : (t4 != 0) = true := by have := m4'.pos; simp; omega
      have hp5 : (t5 != 0) = true := by have := m5.pos; simp; omega
      have heq := Means.eq_iff hTw5.seat.wf m4' m5
      have hsm := same_m (hTw5.tree ht2).tree (hTw5.tree hu2).tree
      obtain ⟨Q, hQ⟩ : ∃ Q, (t4 == t5) = Q := ⟨_, rfl⟩
      have HQ : Hid (Q = true ↔ t = u) := by
        show _ ↔ _
        rw [← hQ, beq_iff_eq, heq]
        exact ⟨fun e => treeT_inj apt_atom HT.out.1 HU.out.1 e, fun e => by rw [e]⟩
      clear heq m4 m4' m5 htm hum
      go_wp2_with fail
      refine hsm.mono ?_
      rintro e w6 ⟨bs, rfl, hbs, b6⟩
      have hqs : (Q == bs) = true := by
        have h3 := HQ.out
        cases Q <;> cases bs <;> simp_all
      have hlow := (hTw5.below b6).low
      clear hbs
      go_wp2_with fail
      go_ret
      exact ⟨rfl, on b02 hlow⟩

end Go.Proofs.YtmcjincgppddeaaDoor
