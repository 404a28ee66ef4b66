/-
  The hash of a place, by the program; whether its numbers are terms.
-/
import Derived.Test.YtmcjincgppddeaaDoorED
import Derived.Deep.RegionHeld3
import Derived.Deep.DrawnRows
namespace Go.Proofs.YtmcjincgppddeaaDoor
open Go.RowKit
set_option linter.unusedSimpArgs false
set_option linter.unusedVariables false
attribute [local go_sem ↓] Go.wp_at_zero Go.wp_at_succ

/-- What the hash of a place of this height may cost. -/
def cst (x : Int) : Nat := 92 * 2 ^ (lev x).toNat - 80

theorem cst_leaf {x : Int} (h : lev x = 0) : cst x = 12 := by simp [cst, h]
theorem cst_node {x y z : Int} (h0 : lev x ≠ 0) (h1 : 0 ≤ lev x) (hy : lev y = lev x - 1) (hz : lev z = lev x - 1) : cst x = cst y + cst z + 80 := by
  unfold cst
  rw [hy, hz]
  obtain ⟨k, hk⟩ : ∃ k : Nat, lev x = (k : Int) + 1 := ⟨(lev x - 1).toNat, by omega⟩
  rw [hk]
  have e1 : ((k : Int) + 1).toNat = k + 1 := by omega
  have e2 : ((k : Int) + 1 - 1).toNat = k := by omega
  have hp : 0 < 2 ^ k := Nat.pow_pos (by decide)
  rw [e1, e2, Nat.pow_succ]
  omega

theorem fit_late {t : Tree} (hf : Fit t) {x : Nat} {u : PV} (hx : t[x]? = some u) : u.late.length ≤ 32 ∧ ∀ i ∈ u.late, 0 ≤ i ∧ i < 64 := by
  have hs := hf.small x u hx
  have hb := hf.sh.bounds
  exact ⟨hs.1, fun i hi => by have := hs.2.2 i hi; omega⟩

set_option maxRecDepth 100000 in
set_option maxHeartbeats 8000000 in
theorem hashOf_m {t : Tree} (hf : Fit t) {g : Int → Tm} {s : Nat} {dr : Int} {v : Value} : ∀ (f : Nat) (x : Int) (w : World) (ns : List Nd), Seat w s ns dr → TS w s v t → inB x (lv t) = true → lev x < f → (∀ z ∈ places f x, Known ns g (vx t z.toNat)) → (ns.length : Int) + cst x + 300 < 262144 →
    Calls Tryd.prog 41 #[.pointer (some ⟨s, 0, none⟩), v, .int .i64 x] w fun e w' => ∃ t' ns', e = .returned (.int .i64 t') ∧ Run s w w' ns ns' dr (cst x) ∧ Means ns' t' (hashT g t f x) := by
  intro f
  induction f with
  | zero => intro x w ns h ht hx hl hk hr; have := lev_nn hx; omega
  | succ f ih =>
    intro x w ns h ht hx hl hk hr
    have hs := hf.sh
    have hbd := hs.bounds
    have hlv := lev_nn hx
    have hkx := hk x (places_self _ _)
    obtain ⟨k, rfl, hkl⟩ := in_place hs hx
    have hget := vx_some (t := t) hkl
    have hsm := fit_late hf hget
    have ht0 := ht
    obtain ⟨b, off, cap, hd, rfl, hbl, hfr, hv, hlt⟩ := ht.get hget
    have hta := ht0.tree
    obtain ⟨c0, c1, c2, c3, c4, c5, _⟩ := hv
    have i0 : (0 : Int) ≤ (k : Int) := by omega
    have i1 : (k : Int) < (t.length : Int) := by omega
    simp only [Int.toNat_natCast] at hkx
    cases hz : (lev (k : Int) == 0) with
    | true =>
      have hz' : lev (k : Int) = 0 := by simpa using hz
      have er : hashT g t (f + 1) (k : Int) = leafT g ((k : Int) / 2) (vx t k) := by simp [hashT, hz']
      have hin : innerB (k : Int) (lv t) = false := by simp [innerB, hz']
      have hlf := leafHash_m h ((k : Int) / 2) (by omega) hlt hkx (by omega)
      rw [er, cst_leaf hz']
      simp only [PV.val] at hlf
      clear hz hz' hk hl hlv er
      go_enter Tryd.func41, Tryd.ntmps41
      go_wp2_with first
        | (go_at_call 43; refine (Leaves_sh hta hs).mono ?_; rintro e w' ⟨rfl, hw⟩; obtain rfl := hw.symm)
        | (go_at_call 70; refine (Children_any _ _ h.tab).mono ?_; rintro e w' ⟨rfl, hw⟩; obtain rfl := hw.symm; rw [hin]; try simp only [errIf])
      refine hlf.mono ?_
      rintro e w1 ⟨t1, ns1, rfl, r1, m1⟩
      go_wp2_with fail
      go_ret
      exact ⟨t1, ns1, rfl, r1, m1⟩
    | false =>
      have hz' : lev (k : Int) ≠ 0 := by simpa using hz
      have er : hashT g t (f + 1) (k : Int) = nodeT g (vx t k) (hashT g t f ((k : Int) - halfI k)) (hashT g t f ((k : Int) + halfI k)) := by simp [hashT, hz']
      have hin : innerB (k : Int) (lv t) = true := by simp [innerB, hx]; exact hz'
      obtain ⟨k1, k2, k3, k4⟩ := kids hx hz'
      have hcs := cst_node hz' hlv.1 k3 k4
      have hp1 : ∀ z ∈ places f ((k : Int) - halfI k), Known ns g (vx t z.toNat) := fun z hz => hk z (by simp [places, hz', hz])
      have hp2 : ∀ z ∈ places f ((k : Int) + halfI k), Known ns g (vx t z.toNat) := fun z hz => hk z (by simp [places, hz', hz])
      have hA := ih ((k : Int) - halfI k)
      have hB := ih ((k : Int) + halfI k)
      rw [er]
      obtain ⟨X1, hX1⟩ : ∃ X1, (k : Int) - halfI k = X1 := ⟨_, rfl⟩
      obtain ⟨X2, hX2⟩ : ∃ X2, (k : Int) + halfI k = X2 := ⟨_, rfl⟩
      rw [hX1] at hA k1 k3 hcs hp1
      rw [hX2] at hB k2 k4 hcs hp2
      rw [hX1, hX2]
      have hA' : Hid (∀ (w : World) (ns : List Nd), Seat w s ns dr → TS w s (.slice (some ⟨b, off, none⟩) t.length cap) t → (∀ z ∈ places f X1, Known ns g (vx t z.toNat)) → (ns.length : Int) + cst X1 + 300 < 262144 → Calls Tryd.prog 41 #[.pointer (some ⟨s, 0, none⟩), .slice (some ⟨b, off, none⟩) t.length cap, .int .i64 X1] w fun e w' => ∃ t' ns', e = .returned (.int .i64 t') ∧ Run s w w' ns ns' dr (cst X1) ∧ Means ns' t' (hashT g t f X1)) := fun w ns a b c d => hA w ns a b k1 (by omega) c d
      have hB' : Hid (∀ (w : World) (ns : List Nd), Seat w s ns dr → TS w s (.slice (some ⟨b, off, none⟩) t.length cap) t → (∀ z ∈ places f X2, Known ns g (vx t z.toNat)) → (ns.length : Int) + cst X2 + 300 < 262144 → Calls Tryd.prog 41 #[.pointer (some ⟨s, 0, none⟩), .slice (some ⟨b, off, none⟩) t.length cap, .int .i64 X2] w fun e w' => ∃ t' ns', e = .returned (.int .i64 t') ∧ Run s w w' ns ns' dr (cst X2) ∧ Means ns' t' (hashT g t f X2)) := fun w ns a b c d => hB w ns a b k2 (by omega) c d
      obtain ⟨C, hC⟩ : ∃ C, cst (k : Int) = C := ⟨_, rfl⟩
      rw [hC] at hcs hr
      rw [hC]
      obtain ⟨T1, hT1⟩ : ∃ T1, hashT g t f X1 = T1 := ⟨_, rfl⟩
      obtain ⟨T2, hT2⟩ : ∃ T2, hashT g t f X2 = T2 := ⟨_, rfl⟩
      rw [hT1] at hA'
      rw [hT2] at hB'
      rw [hT1, hT2]
      have Hcs : Hid (C = cst X1 + cst X2 + 80) := hcs
      have Hp1 : Hid (∀ z ∈ places f X1, Known ns g (vx t z.toNat)) := hp1
      have Hp2 : Hid (∀ z ∈ places f X2, Known ns g (vx t z.toNat)) := hp2
      clear ih hA hB hz hz' hk hl hlv er hcs hp1 hp2 k1 k2 k3 k4 hC hT1 hT2 hget
      obtain ⟨hd1, hd2, hd3, hd4⟩ : ∃ a c : _, hd = .slice a (vx t k).late.length c ∧ True := by
        obtain ⟨a, c, e, _⟩ := hlt
        exact ⟨a, c, e, trivial⟩
      subst hd3
      have e0 : w.drew.cell? ⟨b, off + k * 6, none⟩ = some (.bool (vx t k).full) := c0
      have e1 : w.drew.cell? ⟨b, off + k * 6 + 1, none⟩ = some (.int .i64 (vx t k).key) := c1
      have e2 : w.drew.cell? ⟨b, off + k * 6 + 2, none⟩ = some (.int .i64 (vx t k).client) := c2
      have e3 : w.drew.cell? ⟨b, off + k * 6 + 3, none⟩ = some (.int .i64 (vx t k).sig) := c3
      have e4 : w.drew.cell? ⟨b, off + k * 6 + 4, none⟩ = some (.int .i64 (vx t k).hash) := c4
      have e5 : w.drew.cell? ⟨b, off + k * 6 + 5, none⟩ = some (.slice hd1 (vx t k).late.length hd2) := c5
      have hbd0 : Below w.heap.size w w.drew := (Below.refl _ _).drew
      have hR := Run.ofBelow h hbd0
      have hQ : b < w.drew.heap.size ∧ ¬ Own w.drew s b := ⟨hbl, hR.mv.free hbl hfr⟩
      have hIS := hlt.moved hR.mv
      have hTS := ht0.moved hR.mv
      have hph : Hid (∀ (w : World) (ns' : List Nd) (l r : Int), ns <+: ns' → Seat w s ns' dr → IS w s (.slice hd1 (vx t k).late.length hd2) (vx t k).late → Means ns' l T1 → Means ns' r T2 → (ns'.length : Int) + 200 < 262144 → Calls Tryd.prog 72 #[.pointer (some ⟨s, 0, none⟩), .agg #[.bool (vx t k).full, .int .i64 (vx t k).key, .int .i64 (vx t k).client, .int .i64 (vx t k).sig, .int .i64 (vx t k).hash, .slice hd1 (vx t k).late.length hd2], .int .i64 l, .int .i64 r] w fun e w' => ∃ t' ns'', e = .returned (.int .i64 t') ∧ Run s w w' ns' ns'' dr 80 ∧ Means ns'' t' (nodeT g (vx t k) T1 T2)) := fun w ns' l r p a b c d q => parentHash_m a b hsm.1 hsm.2 (hkx.keeps p) c d q
      clear c0 c1 c2 c3 c4 c5 hkx hsm hlt ht0 hbl hfr hbd0
      go_enter Tryd.func41, Tryd.ntmps41
      go_wp2_with first
        | (go_at_call 43; refine (Leaves_sh hta hs).mono ?_; rintro e w' ⟨rfl, hw⟩; obtain rfl := hw.symm)
        | (go_at_call 70; refine (Children_any _ _ h.tab).mono ?_; rintro e w' ⟨rfl, hw⟩; obtain rfl := hw.symm; rw [hin]; simp only [errIf, if_true, hX1, hX2])
      go_region_held3 (fun w' => w'.cell? ⟨b, off + k * 6, none⟩ = some (.bool (vx t k).full) ∧ w'.cell? ⟨b, off + k * 6 + 1, none⟩ = some (.int .i64 (vx t k).key) ∧ w'.cell? ⟨b, off + k * 6 + 2, none⟩ = some (.int .i64 (vx t k).client) ∧ w'.cell? ⟨b, off + k * 6 + 3, none⟩ = some (.int .i64 (vx t k).sig) ∧ w'.cell? ⟨b, off + k * 6 + 4, none⟩ = some (.int .i64 (vx t k).hash) ∧ w'.cell? ⟨b, off + k * 6 + 5, none⟩ = some (.slice hd1 (vx t k).late.length hd2))
        (first | exact ⟨e0, e1, e2, e3, e4, e5⟩ | fail)
        (first
          | (go_at_call_of 41 X1; refine (hA'.out _ _ hR.seat hTS (fun z hz => (Hp1.out z hz).keeps hR.st.pre) ?_).mono ?_; (have := hR.st.len; have := Hcs.out; omega); rintro e w3 ⟨t3, ns3, rfl, r3, m3⟩; have z := fun o => r3.cell hQ.1 hQ.2 o; replace e0 := (z _).trans e0; replace e1 := (z _).trans e1; replace e2 := (z _).trans e2; replace e3 := (z _).trans e3; replace e4 := (z _).trans e4; replace e5 := (z _).trans e5; replace hIS := hIS.moved r3.mv; replace hTS := hTS.moved r3.mv; replace hQ := And.intro (Nat.lt_of_lt_of_le hQ.1 r3.mv.size) (r3.mv.free hQ.1 hQ.2); replace hR := hR.trans r3)
          | (go_at_call_of 41 X2; refine (hB'.out _ _ hR.seat hTS (fun z hz => (Hp2.out z hz).keeps hR.st.pre) ?_).mono ?_; (have := hR.st.len; have := Hcs.out; omega); rintro e w4 ⟨t4, ns4, rfl, r4, m4⟩; have z := fun o => r4.cell hQ.1 hQ.2 o; replace e0 := (z _).trans e0; replace e1 := (z _).trans e1; replace e2 := (z _).trans e2; replace e3 := (z _).trans e3; replace e4 := (z _).trans e4; replace e5 := (z _).trans e5; replace hIS := hIS.moved r4.mv; replace hTS := hTS.moved r4.mv; replace hQ := And.intro (Nat.lt_of_lt_of_le hQ.1 r4.mv.size) (r4.mv.free hQ.1 hQ.2); replace hR := hR.trans r4)
          | (go_at_call 72; refine (hph.out _ _ _ _ hR.st.pre hR.seat hIS (m3.keeps r4.st.pre) m4 ?_).mono ?_; (have := hR.st.len; have := Hcs.out; omega); rintro e w5 ⟨t5, ns5, rfl, r5, m5⟩; have z := fun o => r5.cell hQ.1 hQ.2 o; replace e0 := (z _).trans e0; replace e1 := (z _).trans e1; replace e2 := (z _).trans e2; replace e3 := (z _).trans e3; replace e4 := (z _).trans e4; replace e5 := (z _).trans e5; replace hR := hR.trans r5)
          | fail)
      go_wp2_with fail
      go_ret
      exact ⟨t5, ns5, rfl, hR.mono (by have := Hcs.out; omega), m5⟩

end Go.Proofs.YtmcjincgppddeaaDoor
