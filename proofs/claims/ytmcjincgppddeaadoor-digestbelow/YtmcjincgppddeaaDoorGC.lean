/-
  Another key at a leaf: what becomes of the tree and of its hashes.
-/
import Derived.Test.YtmcjincgppddeaaDoorGT
namespace Go.Proofs.YtmcjincgppddeaaDoor
open Go.RowKit
set_option linter.unusedSimpArgs false
set_option linter.unusedVariables false

/-- The tree with another key at a place. -/
def rekey (t : Tree) (x : Nat) (key : Int) : Tree := t.set x { vx t x with key := key }

theorem rekey_len (t : Tree) (x : Nat) (key : Int) : (rekey t x key).length = t.length := by simp [rekey]
theorem rekey_lv (t : Tree) (x : Nat) (key : Int) : lv (rekey t x key) = lv t := by simp [lv, rekey]
theorem rekey_vx {t : Tree} {x : Nat} (hx : x < t.length) (key : Int) (y : Nat) : vx (rekey t x key) y = if y = x then { vx t x with key := key } else vx t y := by
  unfold rekey
  by_cases h : y = x
  · subst h
    rw [if_pos rfl]
    simp [vx, hx]
  · rw [if_neg h]
    simp [vx, List.getElem?_set_ne (Ne.symm h)]
theorem rekey_get {t : Tree} {x : Nat} (hx : x < t.length) (key : Int) {y : Nat} {u : PV} (hu : (rekey t x key)[y]? = some u) : ∃ a, t[y]? = some a ∧ u.full = a.full ∧ u.client = a.client ∧ u.sig = a.sig ∧ u.hash = a.hash ∧ u.late = a.late ∧ (u.key = a.key ∨ y = x ∧ u.key = key) := by
  have hy : y < t.length := by have := (List.getElem?_eq_some_iff.1 hu).1; rw [rekey_len] at this; exact this
  refine ⟨vx t y, vx_some hy, ?_⟩
  have e := vx_get hu
  rw [rekey_vx hx] at e
  by_cases h : y = x
  · subst h
    rw [if_pos rfl] at e
    subst e
    exact ⟨rfl, rfl, rfl, rfl, rfl, .inr ⟨rfl, rfl⟩⟩
  · rw [if_neg h] at e
    subst e
    exact ⟨rfl, rfl, rfl, rfl, rfl, .inl rfl⟩

theorem rekey_fullB {t : Tree} {x : Nat} (hx : x < t.length) (key : Int) (i : Int) : fullB (rekey t x key) i = fullB t i := by
  unfold fullB
  rw [rekey_lv, rekey_vx hx]
  split
  · rename_i h; rw [h]
  · rfl

/-- It is a right tree too. -/
theorem Good.rekey {t : Tree} (h : Good t) {k : Nat} (hk : fullB t k = true) (key : Int) : Good (rekey t (2 * k) key) := by
  have hb := h.sh.bounds
  have hkr := fullB_range hk
  have hx : 2 * k < t.length := by omega
  refine ⟨⟨by rw [rekey_lv]; exact h.sh.1, by rw [rekey_lv, rekey_len]; exact h.sh.2⟩, fun y u hu => ?_, ?_⟩
  · obtain ⟨a, ha, e0, e1, e2, e3, e4, e5⟩ := rekey_get hx key hu
    have hv := h.vert y a ha
    refine ⟨fun hf => ?_, fun hf hl => ?_, fun hf hl => ?_⟩
    · rw [e0] at hf
      have hbk := hv.blank hf
      rcases e5 with e5 | ⟨rfl, e5⟩
      · subst hbk
        cases u
        simp_all [PV.blank]
      · exfalso
        have : (vx t (2 * k)).full = true := by
          have := hk
          simp only [fullB, Bool.and_eq_true, Int.toNat_natCast] at this
          exact this.2
        rw [vx_get ha] at this
        rw [this] at hf
        cases hf
    · rw [e4]; exact hv.leaf (e0 ▸ hf) hl
    · obtain ⟨p1, p2, p3, p4⟩ := hv.par (e0 ▸ hf) hl
      refine ⟨by rw [e1]; exact p1, by rw [e2]; exact p2, ?_, ?_⟩
      · rw [e4]; exact p3
      · rw [e4]
        intro i hi
        rw [rekey_fullB hx, rekey_lv]
        exact p4 i hi
  · obtain ⟨i, i1, i2, i3⟩ := h.tight
    refine ⟨i, by rw [rekey_lv]; exact i1, by rw [rekey_lv]; exact i2, ?_⟩
    rw [rekey_vx hx]
    split
    · rename_i e; rw [e] at i3; exact i3
    · exact i3

theorem rekey_rng {t : Tree} {x : Nat} (hx : x < t.length) {key n : Int} (h : Rng t n) (h0 : 0 ≤ key) (h1 : key ≤ n) : Rng (rekey t x key) n := fun y u hu => by
  obtain ⟨a, ha, _, _, e2, e3, _, e5⟩ := rekey_get hx key hu
  obtain ⟨p1, p2, p3⟩ := h y a ha
  rw [e2, e3]
  refine ⟨?_, p2, p3⟩
  rcases e5 with e5 | ⟨_, e5⟩ <;> rw [e5]
  · exact p1
  · exact ⟨h0, h1⟩

theorem rekey_client {t : Tree} {x : Nat} (hx : x < t.length) {key : Int} (h : ∀ (x : Nat) (a : PV), t[x]? = some a → -9223372036854775808 ≤ a.client ∧ a.client ≤ 9223372036854775807) : ∀ (y : Nat) (a : PV), (rekey t x key)[y]? = some a → -9223372036854775808 ≤ a.client ∧ a.client ≤ 9223372036854775807 := fun y u hu => by
  obtain ⟨a, ha, _, e1, _⟩ := rekey_get hx key hu
  rw [e1]
  exact h y a ha

/-- Its hashes differ just above the leaf. -/
theorem rekey_hash {t : Tree} (h : Good t) {k : Nat} (hk : fullB t k = true) {key : Int} (hne : key ≠ (vx t (2 * k)).key) {y : Int} (hy : inB y (lv t) = true) :
    hashT Tm.atom t 6 y = hashT Tm.atom (rekey t (2 * k) key) 6 y ↔ underB (2 * k) y (lv t) = false := by
  have hb := h.sh.bounds
  have hkr := fullB_range hk
  have hx : 2 * k < t.length := by omega
  have hz : inB ((2 * k : Nat) : Int) (lv t) = true := place_in h.sh hx
  have hl := lev_nn hy
  have h2 := (h.rekey hk key).vok
  rw [rekey_lv] at h2
  have hcast : ((2 * k : Nat) : Int) = 2 * (k : Int) := by omega
  rw [hcast] at hz
  constructor
  · intro e
    cases hu : underB (2 * k) y (lv t) with
    | false => rfl
    | true =>
      exfalso
      have := hashT_inj apt_atom h.vok h2 6 y hy (by omega) e (2 * k) ((places_under hz hy).2 hu)
      have e2 : ((2 : Int) * (k : Int)).toNat = 2 * k := by omega
      rw [e2, rekey_vx hx, if_pos rfl] at this
      exact hne (congrArg PV.key this).symm
  · intro hu
    refine hashT_same 6 y (fun z hzz => ?_)
    have hzin := places_in 6 y hy (by omega) z hzz
    rw [rekey_vx hx]
    split
    · rename_i e
      exfalso
      have hz0 := (inB_bounds hzin).1
      have e3 : z = 2 * (k : Int) := by omega
      subst e3
      rw [(places_under hzin hy).1 hzz] at hu
      cases hu
    · rfl

theorem flatV_set1 (key : Int) : ∀ (t : Tree) (hs : List Value) (x : Nat), x < t.length → hs.length = t.length → (flatV t hs).set (x * 6 + 1) (.int .i64 key) = flatV (rekey t x key) hs
  | [], hs, x, h1, h2 => by simp at h1
  | u :: t, [], x, h1, h2 => by simp at h2
  | u :: t, a :: hs, 0, h1, h2 => by simp [flatV, vcells, rekey, vx]
  | u :: t, a :: hs, x + 1, h1, h2 => by
    have := flatV_set1 key t hs x (by simpa using h1) (by simpa using h2)
    have e : rekey (u :: t) (x + 1) key = u :: rekey t x key := by simp [rekey, vx]
    rw [e]
    simp only [flatV]
    rw [show (x + 1) * 6 + 1 = (vcells u a).length + (x * 6 + 1) by simp [vcells]; omega, List.set_append_right _ _ (by omega), show (vcells u a).length + (x * 6 + 1) - (vcells u a).length = x * 6 + 1 by omega, this]

theorem OwnT.rekeyed {B : Nat} {w : World} {g cap : Nat} {t : Tree} {hs : List Value} (h : OwnT B w (.slice (some ⟨g, 0, none⟩) t.length cap) t hs t.length) {x : Nat} (hx : x < t.length) (key : Int) :
    OwnT B (w.setCell ⟨g, x * 6 + 1, none⟩ (.int .i64 key)) (.slice (some ⟨g, 0, none⟩) t.length cap) (rekey t x key) hs t.length := by
  obtain ⟨h1, h2⟩ := h.row.stored (x * 6 + 1) (.int .i64 key)
  rw [flatV_set1 key t hs x hx h.len] at h1
  refine ⟨by rw [rekey_len]; exact h.len, by rw [rekey_len]; exact h1, fun y u a hy hu ha => ?_, h.apart⟩
  obtain ⟨u0, hu0, _, _, _, _, e4, _⟩ := rekey_get hx key hu
  rw [OwnI, e4]
  refine (h.late y u0 a hy hu0 ha).kept h2 ?_
  cases ho : a.ownBlock with
  | none => exact .inl rfl
  | some k => exact .inr (fun e => (h.apart y a k hy ha ho).1 (by cases e; rfl))

/-- What the hashes of the first places may cost. -/
def sumC : Nat → Nat
  | 0 => 0
  | y + 1 => sumC y + cst y
theorem sumC_le {y : Nat} (h : y ≤ 63) : sumC y ≤ 20000 := by
  have := (List.all_eq_true.1 (show ((List.range 64).all fun y => decide (sumC y ≤ 20000)) = true by decide +kernel)) y (List.mem_range.2 (by omega))
  simpa using this

theorem Two.own {w0 w w' : World} {s r : Nat} {ns ms : List Nd} {dn dm : Int} (h : Two w0 s r w ns dn ms dm) (hb : Below w.heap.size w w') {v : Value} {t : Tree} (ht : TreeP (fun b => w.heap.size ≤ b) w' v t) : TS w' s v t :=
  TreeP.imp ht (fun b _ hq ho => by
    have h1 := (own_below1 h.seat.st.lt hb b).1 ho
    have := h.seat.st.own_lt h1
    omega)

set_option maxRecDepth 100000 in
set_option maxHeartbeats 8000000 in
theorem change_law {w : World} {v : Value} {t : Tree} (h1 : TreeIn5 w v t) (i : Int) (hi : (Lit.int .i64 i).wf = true) (key : Int) (hkey : (Lit.int .i64 key).wf = true) (hT : Tab w ∧ Pow w) :
    Calls Tryd.prog 7 #[v, .int .i64 i, .int .i64 key] w fun e w' => e = .returned (.bool true) ∧ Below w.heap.size w w' := by
  obtain ⟨⟨ht, hlate⟩, hct⟩ := h1
  obtain ⟨va, vcap, rfl, _⟩ := id ht
  have Hct : Hid (∀ (x : Nat) (a : PV), t[x]? = some a → -9223372036854775808 ≤ a.client ∧ a.client ≤ 9223372036854775807) := hct
  have Hlate : Hid (∀ (x : Nat) (u : PV), t[x]? = some u → u.late.length * 8 ≤ 140737488355328) := hlate
  have q27 : ∀ (w : World) (a : Option Addr) (n c : Nat), (Builtin.len_ #[22] 3 #[.slice a n c]).run Tryd.prog w = .ok (goInt n) w := fun w a n c => run_len_slice w _ _ _ _ _ Tryd.underlying22
  clear hct hlate hi hkey
  go_enter Tryd.func7, Tryd.ntmps7
  go_wp2_with fail
  refine (anchor_any hT).mono ?_
  rintro e w0 ⟨rfl, b0⟩
  have hT0 := Tabs.below hT b0
  have ht0 := ht.below b0
  go_wp2_with fail
  refine (rightN_m ht0 90).mono ?_
  rintro e w1 ⟨bt, rfl, hbt, b1⟩
  have hT1 := Tabs.below hT0 b1
  have ht1 := ht0.below b1
  have b01 := on b0 b1
  cases bt with
  | false =>
    go_wp2_with fail
    go_ret
    exact ⟨rfl, b01⟩
  | true =>
    have HT : Hid (Good t ∧ Rng t 90) := hbt rfl
    clear hbt
    have hff := refFull_any ht1 HT.out.1.sh i
    cases hfl : fullB t i with
    | false =>
      rw [hfl] at hff
      clear hfl
      go_wp2_with (go_at_call 23; refine hff.mono ?_; rintro e w' ⟨rfl, hw⟩; obtain rfl := hw.symm)
      go_ret
      exact ⟨rfl, b01⟩
    | true =>
      rw [hfl] at hff
      have hir := fullB_range hfl
      obtain ⟨k, rfl⟩ : ∃ k : Nat, i = k := ⟨i.toNat, by omega⟩
      have hb := HT.out.1.sh.bounds
      have hxl : 2 * k < t.length := by omega
      have Hfl : Hid (fullB t k = true) := hfl
      obtain ⟨b, off, cap, hd, e1, hbl, hv⟩ := ht1.get (vx_some (t := t) (x := 2 * k) hxl)
      cases e1
      have c1 := hv.c1
      have i2 : 2 * (k : Int) < (t.length : Int) := by omega
      clear hfl hv
      by_cases g1 : key < 1
      · go_wp2_with (go_at_call 23; refine hff.mono ?_; rintro e w' ⟨rfl, hw⟩; obtain rfl := hw.symm)
        go_ret
        exact ⟨rfl, b01⟩
      · by_cases g2 : 90 < key
        · go_wp2_with (go_at_call 23; refine hff.mono ?_; rintro e w' ⟨rfl, hw⟩; obtain rfl := hw.symm)
          go_ret
          exact ⟨rfl, b01⟩
        · by_cases g3 : key = (vx t (2 * k)).key
          · have g3b : (key == (vx t (2 * k)).key) = true := by simp [g3]
            have g1b : decide (key < 1) = false := by simpa using g1
            have g2b : decide (90 < key) = false := by simpa using g2
            clear g3
            go_wp2_with (go_at_call 23; refine hff.mono ?_; rintro e w' ⟨rfl, hw⟩; obtain rfl := hw.symm)
            go_ret
            exact ⟨rfl, b01⟩
          · have g3b : (key == (vx t (2 * k)).key) = false := by simp [g3]
            have Hne : Hid (key ≠ (vx t (2 * k)).key) := g3
            have Hrk : Hid (0 ≤ key ∧ key ≤ 90) := ⟨by omega, by omega⟩
            have g1b : decide (key < 1) = false := by simpa using g1
            have g2b : decide (90 < key) = false := by simpa using g2
            clear g3
            go_wp2_with (go_at_call 23; refine hff.mono ?_; rintro e w' ⟨rfl, hw⟩; obtain rfl := hw.symm)
            clear g3b c1
            refine (stores_m hT1.1 hT1.2 90 (by decide)).mono ?_
            rintro e w3 ⟨s, r, rfl, hTw⟩
            have ht3 := ht1.below hTw.low
            have hcp := refCopy_any ht3 (by omega) Hlate.out
            go_wp2_with fail
            refine hcp.mono ?_
            rintro e w4 ⟨v4, hs4, rfl, o4, b4⟩
            obtain ⟨g, cap4, rfl, hgB, hgl⟩ := o4.form (by omega)
            have hvt := o4.vat (vx_some (t := t) (x := 2 * k) hxl) (List.getElem?_eq_getElem (by rw [o4.len]; exact hxl))
            have d1 := hvt.2.1
            have hcapl : (t.length : Int) ≤ (cap4 : Int) := by
              rcases o4.row.2 with ⟨h', _⟩ | ⟨g', cap', cur, h', _, _, hnc, _⟩
              · simp at h'
              · cases h'; omega
            have hfz : ∀ o, w4.frozen? ⟨g, o, none⟩ = false := by
              rcases o4.row.2 with ⟨h', _⟩ | ⟨g', cap', cur, h', _, hgg, _⟩
              · simp at h'
              · cases h'; exact fun o => frozen_of_heap hgg o
            have hGu := HT.out.1.rekey Hfl.out key
            have ho5 := o4.rekeyed hxl key
            have hb5 : Below w3.heap.size w3 (w4.setCell ⟨g, 2 * k * 6 + 1, none⟩ (.int .i64 key)) := b4.setCell hgB _
            have hTw5 := hTw.below hb5
            have htp := OwnT.p (by rw [rekey_len]; exact ho5) hGu.fit
            have hsu := hTw.own hb5 htp
            have Hku : Hid (∀ ns, atoms 90 <+: ns → ∀ z, inB z (lv (rekey t (2 * k) key)) = true → Known ns Tm.atom (vx (rekey t (2 * k) key) z.toNat)) := fun ns hp => known_all hGu (rekey_rng hxl HT.out.2 Hrk.out.1 Hrk.out.2) (rekey_client hxl Hct.out) hp
            have Hkt : Hid (∀ ns, atoms 90 <+: ns → ∀ z, inB z (lv t) = true → Known ns Tm.atom (vx t z.toNat)) := fun ns hp => known_all HT.out.1 HT.out.2 Hct.out hp
            have HGu : Hid (Good (rekey t (2 * k) key)) := hGu
            have HTS : Hid (TS (w4.setCell ⟨g, 2 * k * 6 + 1, none⟩ (.int .i64 key)) s (.slice (some ⟨g, 0, none⟩) t.length cap4) (rekey t (2 * k) key)) := hsu
            have HTw5 : Hid (Two w1 s r (w4.setCell ⟨g, 2 * k * 6 + 1, none⟩ (.int .i64 key)) (atoms 90) 90 (atoms 90) 90) := hTw5
            have hcc : ∃ u, w4.cell? ⟨g, 2 * k * 6 + 1, none⟩ = some u := ⟨_, d1⟩
            obtain ⟨u0, hcu⟩ := hcc
            clear hvt d1 ho5 htp hsu hTw5 hTw hb5 o4 hGu hcp
            go_wp2_with (rw [q27])
            obtain ⟨W5, hW5⟩ : ∃ W5, w4.setCell ⟨g, 2 * k * 6 + 1, none⟩ (.int .i64 key) = W5 := ⟨_, rfl⟩
            rw [hW5] at HTS HTw5
            try rw [hW5]
            go_loopw [58] (fun q wr => ∃ (y : Nat) (ns : List Nd), y ≤ t.length ∧ q = .int .i64 y ∧ Two w1 s r wr ns 90 (atoms 90) 90 ∧ TS wr s (.slice (some ⟨g, 0, none⟩) t.length cap4) (rekey t (2 * k) key) ∧ atoms 90 <+: ns ∧ ns.length ≤ 90 + 2 * sumC y) (fun q _ => t.length - (intOf q).toNat)
            case atStart => exact ⟨0, atoms 90, Nat.zero_le _, rfl, HTw5.out, HTS.out, List.prefix_refl _, by rw [atoms_length]; exact Nat.le_refl _⟩
            case round =>
              obtain ⟨y, ns, hy, rfl, hTwr, hTSr, hpre, hlen⟩ := hrel
              by_cases hlt : y < t.length
              · have i3 : (y : Int) < (t.length : Int) := by omega
                have hyin := place_in HT.out.1.sh hlt
                have hyin2 : inB (y : Int) (lv (rekey t (2 * k) key)) = true := by rw [rekey_lv]; exact hyin
                have hc := cst_le hyin
                have hsum := sumC_le (y := y) (by omega)
                have hsum2 : sumC (y + 1) = sumC y + cst y := rfl
                have hst := hTwr.tree ht1
                have hH1 := Hash_m (g := Tm.atom) HT.out.1.fit hTwr.seat hst y hyin (fun z hz => Hkt.out _ hpre z (under_in hz).1) (by omega)
                have Hc : Hid (cst (y : Int) ≤ 2944 ∧ sumC y ≤ 20000 ∧ sumC (y + 1) = sumC y + cst y) := ⟨hc, hsum, hsum2⟩
                clear hc hsum hsum2
                go_wp2_with fail
                refine hH1.mono ?_
                rintro e w6 ⟨t6, ns6, rfl, r6, m6⟩
                have hTw6 := hTwr.run r6
                have l6 := r6.st.len
                have hH2 := Hash_m (g := Tm.atom) HGu.out.fit hTw6.seat (hTSr.moved r6.mv) y hyin2 (fun z hz => Hku.out _ (hpre.trans r6.st.pre) z (under_in hz).1) (by have := Hc.out; omega)
                go_wp2_with fail
                refine hH2.mono ?_
                rintro e w7 ⟨t7, ns7, rfl, r7, m7⟩
                have hTw7 := hTw6.run r7
                have l7 := r7.st.len
                have m6' := m6.keeps r7.st.pre
                have hp6 : (t6 == 0) = false := by have := m6'.pos; simp; omega
                have hp7 : (t7 == 0) = false := by have := m7.pos; simp; omega
                have heq := Means.eq_iff hTw7.seat.wf m6' m7
                have hrh := rekey_hash HT.out.1 Hfl.out Hne.out hyin
                have hq : (t6 != t7) = underB (2 * k) y (lv t) := by
                  cases hu : underB (2 * k) y (lv t) with
                  | false => rw [bne_eq_false_iff_eq, heq, hrh, hu]
                  | true =>
                    rw [bne_iff_ne]
                    intro e
                    rw [heq, hrh, hu] at e
                    cases e
                have hta7 := (hTw7.tree ht1).tree
                obtain ⟨Q, hQ⟩ : ∃ Q, underB (2 * k) y (lv t) = Q := ⟨_, rfl⟩
                have hun := fun W => refUnder_any (w := W) (2 * (k : Int)) (y : Int) (lv t)
                rw [hQ] at hq
                rw [hQ] at hun
                have hqq : (Q != Q) = false := by simp
                have Hnew : Hid (ns7.length ≤ 90 + 2 * sumC (y + 1)) := by
                  have := Hc.out
                  show _ ≤ _
                  omega
                have hTS7 := (hTSr.moved r6.mv).moved r7.mv
                clear hH1 hH2 m6 m7 m6' heq hrh hQ
                cases Q with
                | true =>
                  go_wp2_with first
                    | (go_at_call 29; refine (refLeaves_any hta7).mono ?_; rintro e w' ⟨rfl, hw⟩; obtain rfl := hw.symm)
                    | (go_at_call 28; refine (hun _).mono ?_; rintro e w' ⟨rfl, hw⟩; obtain rfl := hw.symm)
                  go_roundw
                  case rel => exact ⟨y + 1, ns7, by omega, by go_num, hTw7, hTS7, hpre.trans (r6.st.pre.trans r7.st.pre), Hnew.out⟩
                  case measure => simp [intOf]; omega
                | false =>
                  go_wp2_with first
                    | (go_at_call 29; refine (refLeaves_any hta7).mono ?_; rintro e w' ⟨rfl, hw⟩; obtain rfl := hw.symm)
                    | (go_at_call 28; refine (hun _).mono ?_; rintro e w' ⟨rfl, hw⟩; obtain rfl := hw.symm)
                  go_roundw
                  case rel => exact ⟨y + 1, ns7, by omega, by go_num, hTw7, hTS7, hpre.trans (r6.st.pre.trans r7.st.pre), Hnew.out⟩
                  case measure => simp [intOf]; omega
              · go_wp2_with fail
                go_ret
                exact ⟨rfl, on b01 hTwr.low⟩

end Go.Proofs.YtmcjincgppddeaaDoor
