/-
  Trees and lists by the blocks that they lie in; what Remove answers lies in new blocks.
-/
import Derived.Test.YtdnopkpoepdihaaDoorTV
namespace Go.Proofs.YtdnopkpoepdihaaDoor
open Go.RowKit
set_option linter.unusedSimpArgs false
set_option linter.unusedVariables false

/-- A list whose block, if it has one, is one of those. -/
def IntsP (q : Nat → Prop) (w : World) (v : Value) (l : List Int) : Prop :=
  ∃ a cap, v = .slice a l.length cap ∧ (l.length : Int) ≤ 9223372036854775807 ∧
    (l ≠ [] → ∃ b off, a = some ⟨b, off, none⟩ ∧ q b ∧ b < w.heap.size ∧ ∀ (i : Nat) (x : Int), l[i]? = some x → w.cell? ⟨b, off + i, none⟩ = some (.int .i64 x))

structure VP (q : Nat → Prop) (w : World) (b o : Nat) (u : PV) (h : Value) : Prop where
  at_ : VAt w b o u h
  late : IntsP q w h u.late

def TreeP (q : Nat → Prop) (w : World) (v : Value) (t : Tree) : Prop :=
  ∃ a cap, v = .slice a t.length cap ∧ (t.length : Int) ≤ 9223372036854775806 ∧ (t ≠ [] → ∃ b off, a = some ⟨b, off, none⟩ ∧ q b ∧ b < w.heap.size ∧ ∀ (x : Nat) (u : PV), t[x]? = some u → ∃ h, VP q w b (off + x * 6) u h)

theorem IntsP.ints {q : Nat → Prop} {w : World} {v : Value} {l : List Int} (h : IntsP q w v l) : IntsAt w v l := by
  obtain ⟨a, cap, e, hl, hc⟩ := h
  exact ⟨a, cap, e, hl, fun hne => by obtain ⟨b, off, h1, _, h2, h3⟩ := hc hne; exact ⟨b, off, h1, h2, h3⟩⟩
theorem IntsAt.p {w : World} {v : Value} {l : List Int} (h : IntsAt w v l) : IntsP (fun b => b < w.heap.size) w v l := by
  obtain ⟨a, cap, e, hl, hc⟩ := h
  exact ⟨a, cap, e, hl, fun hne => by obtain ⟨b, off, h1, h2, h3⟩ := hc hne; exact ⟨b, off, h1, h2, h2, h3⟩⟩
theorem IntsP.imp {q r : Nat → Prop} {w : World} {v : Value} {l : List Int} (h : IntsP q w v l) (hi : ∀ b, b < w.heap.size → q b → r b) : IntsP r w v l := by
  obtain ⟨a, cap, e, hl, hc⟩ := h
  exact ⟨a, cap, e, hl, fun hne => by obtain ⟨b, off, h1, h0, h2, h3⟩ := hc hne; exact ⟨b, off, h1, hi b h2 h0, h2, h3⟩⟩
theorem IntsP.agree {q : Nat → Prop} {w w' : World} {v : Value} {l : List Int} (h : IntsP q w v l) (hs : w.heap.size ≤ w'.heap.size) (hb : ∀ b, b < w.heap.size → q b → w'.heap[b]? = w.heap[b]?) : IntsP q w' v l := by
  obtain ⟨a, cap, e, hl, hc⟩ := h
  refine ⟨a, cap, e, hl, fun hne => ?_⟩
  obtain ⟨b, off, h1, h0, h2, h3⟩ := hc hne
  exact ⟨b, off, h1, h0, by omega, fun i x hx => (World.cell?_of_block (a := ⟨b, off + i, none⟩) (hb b h2 h0)).trans (h3 i x hx)⟩

theorem TreeP.tree {q : Nat → Prop} {w : World} {v : Value} {t : Tree} (h : TreeP q w v t) : TreeAt w v t := by
  obtain ⟨a, cap, e, hl, hc⟩ := h
  exact ⟨a, cap, e, hl, fun hne => by
    obtain ⟨b, off, h1, _, h2, h3⟩ := hc hne
    exact ⟨b, off, h1, h2, fun x u hu => by obtain ⟨hd, k⟩ := h3 x u hu; exact ⟨hd, k.at_⟩⟩⟩
theorem TreeAt.p {w : World} {v : Value} {t : Tree} (h : TreeAt w v t) : TreeP (fun b => b < w.heap.size) w v t := by
  obtain ⟨a, cap, e, hl, hc⟩ := h
  exact ⟨a, cap, e, hl, fun hne => by
    obtain ⟨b, off, h1, h2⟩ := hc hne
    exact ⟨b, off, h1, h2.lt, h2.lt, fun x u hu => by obtain ⟨hd, k⟩ := h2.at_ x u hu; exact ⟨hd, k, k.late.p⟩⟩⟩
theorem TreeP.imp {q r : Nat → Prop} {w : World} {v : Value} {t : Tree} (h : TreeP q w v t) (hi : ∀ b, b < w.heap.size → q b → r b) : TreeP r w v t := by
  obtain ⟨a, cap, e, hl, hc⟩ := h
  exact ⟨a, cap, e, hl, fun hne => by
    obtain ⟨b, off, h1, h0, h2, h3⟩ := hc hne
    exact ⟨b, off, h1, hi b h2 h0, h2, fun x u hu => by obtain ⟨hd, k⟩ := h3 x u hu; exact ⟨hd, k.at_, k.late.imp hi⟩⟩⟩
theorem TreeP.agree {q : Nat → Prop} {w w' : World} {v : Value} {t : Tree} (h : TreeP q w v t) (hs : w.heap.size ≤ w'.heap.size) (hb : ∀ b, b < w.heap.size → q b → w'.heap[b]? = w.heap[b]?) : TreeP q w' v t := by
  obtain ⟨a, cap, e, hl, hc⟩ := h
  refine ⟨a, cap, e, hl, fun hne => ?_⟩
  obtain ⟨b, off, h1, h0, h2, h3⟩ := hc hne
  refine ⟨b, off, h1, h0, by omega, fun x u hu => ?_⟩
  obtain ⟨hd, k⟩ := h3 x u hu
  have hl2 := k.late.agree hs hb
  obtain ⟨c0, c1, c2, c3, c4, c5, _⟩ := k.at_
  have cc : ∀ o, w'.cell? ⟨b, o, none⟩ = w.cell? ⟨b, o, none⟩ := fun o => World.cell?_of_block (a := ⟨b, o, none⟩) (hb b h2 h0)
  exact ⟨hd, ⟨(cc _).trans c0, (cc _).trans c1, (cc _).trans c2, (cc _).trans c3, (cc _).trans c4, (cc _).trans c5, hl2.ints⟩, hl2⟩
theorem TreeP.below {q : Nat → Prop} {w w' : World} {v : Value} {t : Tree} (h : TreeP q w v t) (hb : Below w.heap.size w w') : TreeP q w' v t :=
  h.agree hb.size (fun b hlt _ => hb.block b hlt)
/-- A block that is none of the tree's may turn. -/
theorem TreeP.set {q : Nat → Prop} {w : World} {v : Value} {t : Tree} (h : TreeP q w v t) {p : Addr} (hq : ¬ q p.block) (x : Value) : TreeP q (w.setCell p x) v t := by
  refine h.agree (by simp) (fun b hlt hqb => ?_)
  exact Below.heap_setCell _ _ _ b (fun e => hq (e ▸ hqb))

theorem TreeP.take {q : Nat → Prop} {w : World} {a : Option Addr} {cap : Nat} {t : Tree} (h : TreeP q w (.slice a t.length cap) t) (k c : Nat) (hk : k ≤ t.length) : TreeP q w (.slice a k c) (t.take k) := by
  obtain ⟨a', cap', e, hl, hc⟩ := h
  cases e
  refine ⟨a, c, by simp [Nat.min_eq_left hk], by simp; omega, fun hne => ?_⟩
  obtain ⟨b, off, rfl, h0, h2, h3⟩ := hc (by rintro rfl; simp at hne)
  refine ⟨b, off, rfl, h0, h2, fun x u hu => h3 x u ?_⟩
  rw [List.getElem?_take] at hu
  split at hu
  · exact hu
  · cases hu

theorem ownI_p {B : Nat} {w : World} {v : Value} {l : List Int} (h : OwnI B w v l) (hl : (l.length : Int) ≤ 9223372036854775807) : IntsP (fun b => B ≤ b) w v l := by
  rcases h.2 with ⟨rfl, h0⟩ | ⟨g, cap, cur, rfl, hb, hgg, r1, r2, r3, r4⟩
  · have : l = [] := List.eq_nil_of_length_eq_zero h0
    subst this
    exact ⟨none, 0, rfl, by simp, fun h => absurd rfl h⟩
  · refine ⟨_, cap, rfl, hl, fun _ => ⟨g, 0, rfl, hb, (Array.getElem?_eq_some_iff.1 hgg).1, fun i x hi => ?_⟩⟩
    have hil := (List.getElem?_eq_some_iff.1 hi).1
    rw [Nat.zero_add, World.ownsRow.cellAt h i (by omega)]
    simp [hi]

theorem OwnT.p {B : Nat} {w : World} {v : Value} {t : Tree} {hs : List Value} (h : OwnT B w v t hs t.length) (hf : Fit t) : TreeP (fun b => B ≤ b) w v t := by
  have hb := hf.sh.bounds
  obtain ⟨g, cap, rfl, hgB, hg⟩ := h.form (by omega)
  refine ⟨_, cap, rfl, by omega, fun _ => ⟨g, 0, rfl, hgB, hg, fun x u hu => ?_⟩⟩
  have hx := (List.getElem?_eq_some_iff.1 hu).1
  obtain ⟨a, ha⟩ := h.head hx
  obtain ⟨c0, c1, c2, c3, c4, c5⟩ := h.vat hu ha
  rw [Nat.zero_add]
  have hl := late_small hf x u hu
  have hp := ownI_p (h.late x u a hx hu ha) hl
  exact ⟨a, ⟨c0, c1, c2, c3, c4, c5, hp.ints⟩, hp⟩

set_option maxRecDepth 100000 in
set_option maxHeartbeats 4000000 in
theorem shrunk_p {t : Tree} (hs : Sh t) {va : Option Addr} {vc : Nat} {w : World} (ht : TreeAt w (.slice va t.length vc) t) (hcap : t.length ≤ vc) :
    Calls Tryd.prog 66 #[.slice va t.length vc] w fun e w' => ∃ k c, e = .returned (.slice va k c) ∧ k ≤ t.length ∧ shr 6 t = t.take k ∧ Below w.heap.size w w' := by
  go_enter Tryd.func66, Tryd.ntmps66
  go_wp2_with fail
  refine (Leaves_sh ht hs).mono ?_
  rintro e w' ⟨rfl, hw⟩
  obtain rfl := hw.symm
  go_wp2_with fail
  go_loopw [0, 3] (fun a q wr => ∃ (f k c : Nat), a = .slice va k c ∧ k ≤ c ∧ k ≤ t.length ∧ Hid (shr 6 t = shr f (t.take k)) ∧ lv (t.take k) ≤ 2 ^ f ∧ q = .int .i64 (lv (t.take k)) ∧ Sh (t.take k) ∧ TreeAt wr a (t.take k) ∧ Below w.heap.size w wr) (fun _ q _ => (intOf q).toNat)
  case atStart => exact ⟨6, t.length, vc, rfl, hcap, Nat.le_refl _, by rw [List.take_length]; rfl, by rw [List.take_length]; have := hs.bounds; omega, by rw [List.take_length], by rw [List.take_length]; exact hs, by rw [List.take_length]; exact ht, Below.refl _ _⟩
  case round =>
    obtain ⟨f, k, vcap, rfl, hle, hkt, HS, hpf, rfl, hsT, hT, hB⟩ := hrel
    have hkl : (t.take k).length = k := by rw [List.length_take]; omega
    obtain ⟨T, hTT⟩ : ∃ T, t.take k = T := ⟨_, rfl⟩
    rw [hTT] at HS hpf hsT hT hkl
    have hb := hsT.bounds
    rw [hTT]
    have i1 : (lv T : Int) ≤ 32 := by omega
    by_cases h1 : 1 < lv T
    · have i2 : (1 : Int) < (lv T : Int) := by omega
      have hff := fullFrom_any hT hsT (lv T / 2)
      rw [show ((lv T / 2 : Nat) : Int) = (lv T : Int) / 2 by omega] at hff
      have i3 : (k : Int) ≤ (vcap : Int) := by omega
      have i4 : (lv T : Int) - 1 ≤ (vcap : Int) := by omega
      cases h2 : tightB T with
      | true =>
        have HE : Hid (shr 6 t = t.take k) := by
          show _ = _
          rw [HS.out, hTT]
          exact shr_stop (by simp [h2]) f
        go_wp2_with (go_at_call 43; refine hff.mono ?_; rintro e w1 ⟨rfl, b1⟩; rw [show fromB T (lv T / 2) = true from h2])
        all_goals go_ret
        all_goals first | exact ⟨k, vcap, rfl, hkt, HE.out, hB.trans (b1.mono hB.size)⟩ | exact ⟨k, ⟨vcap, rfl⟩, hkt, HE.out, hB.trans (b1.mono hB.size)⟩
      | false =>
        obtain ⟨s1, s2, s3⟩ := half_sh hsT h1
        obtain ⟨g, rfl⟩ : ∃ g, f = g + 1 := by
          cases f with
          | zero => simp at hpf; omega
          | succ g => exact ⟨g, rfl⟩
        have hkk : lv T - 1 ≤ k := by omega
        have etk0 : ∀ m, m ≤ k → t.take m = (t.take k).take m := fun m hm => by rw [List.take_take, Nat.min_eq_left hm]
        rw [hTT] at etk0
        have etk := etk0 (lv T - 1) hkk
        have HN : Hid (shr 6 t = shr g (t.take (lv T - 1))) := by
          show _ = _
          rw [HS.out, etk]
          exact shr_go h1 h2
        have hpg : lv (t.take (lv T - 1)) ≤ 2 ^ g := by
          rw [etk, s2]
          rw [Nat.pow_succ] at hpf
          omega
        have hT' : TreeAt wr (.slice va T.length vcap) T := by rw [hkl]; exact hT
        have ht2 : TreeAt wr (.slice va (lv T - 1) (lv T - 1)) (t.take (lv T - 1)) := by rw [etk]; exact hT'.take (lv T - 1) (lv T - 1) (by omega)
        have s1' : Sh (t.take (lv T - 1)) := by rw [etk]; exact s1
        have s2' : lv (t.take (lv T - 1)) = lv T / 2 := by rw [etk]; exact s2
        clear hTT etk etk0 s1 s2 s3 hT'
        go_wp2_with (go_at_call 43; refine hff.mono ?_; rintro e w1 ⟨rfl, b1⟩; rw [show fromB T (lv T / 2) = false from h2])
        go_roundw
        case rel => exact ⟨g, lv T - 1, lv T - 1, rfl, Nat.le_refl _, by omega, HN, hpg, by rw [s2']; go_num, s1', ht2.below b1, hB.trans (b1.mono hB.size)⟩
        case measure => simp [intOf]; omega
    · have h0 : lv T = 1 := by omega
      have i2 : ¬ ((1 : Int) < (lv T : Int)) := by omega
      have HE : Hid (shr 6 t = t.take k) := by
        show _ = _
        rw [HS.out, hTT]
        exact shr_stop (by simp [h1]) f
      clear hTT
      go_wp2_with fail
      all_goals go_ret
      all_goals first | exact ⟨k, vcap, rfl, hkt, HE.out, hB⟩ | exact ⟨k, ⟨vcap, rfl⟩, hkt, HE.out, hB⟩

set_option maxRecDepth 100000 in
set_option maxHeartbeats 2000000 in
theorem remove_p {t : Tree} (hf : Fit t) {v : Value} {w : World} (ht : TreeAt w v t) (hT : Tab w) (i : Int) (hi : fullB t i = true) (hm : (members t).length ≠ 1) :
    Calls Tryd.prog 35 #[v, .int .i64 i] w fun e w' => ∃ v', e = .returned (.tuple #[v', .int .i64 0]) ∧ TreeP (fun b => w.heap.size ≤ b) w' v' (remF t i) ∧ Below w.heap.size w w' := by
  obtain ⟨k, rfl, hk, _⟩ := fullB_nat hi
  have hs := hf.sh
  have hb := hs.bounds
  have hml := membersN_len t (lv t)
  have hfp := hf.put k PV.blank rfl
  have hRe : ∀ W, TreeAt W v t → Tab W → Calls Tryd.prog 65 #[v, .int .i64 k, PV.blank.val (.slice none 0 0)] W fun e w' => ∃ v' hs, e = .returned v' ∧ OwnT W.heap.size w' v' (putF t k PV.blank) hs (putF t k PV.blank).length ∧ Below W.heap.size W w' := fun W h1 h2 => replaced_any hf h1 h2 k hk PV.blank rfl
  simp only [PV.val, PV.blank] at hRe
  have hm1 : (((members t).length : Int) == 1) = false := by simp; omega
  go_enter Tryd.func35, Tryd.ntmps35
  go_wp2_with fail
  refine (isMember_any ht hs k).mono ?_
  rintro e w' ⟨rfl, hw⟩
  obtain rfl := hw.symm
  rw [hi]
  go_wp2_with fail
  refine (Members_any ht hs).mono ?_
  rintro e w1 ⟨v1, rfl, m1, b1⟩
  obtain ⟨a1, cap1, hv1, _⟩ := m1.ints (by unfold members; omega)
  subst hv1
  have ht1 := ht.below b1
  have hT1 := hT.below b1 hT.size
  go_wp2_with fail
  refine (hRe w1 ht1 hT1).mono ?_
  rintro e w2 ⟨v2, hs2, rfl, o2, b2⟩
  have hsh : Sh (putF t k PV.blank) := hfp.sh
  have hp2 : TreeP (fun b => w1.heap.size ≤ b) w2 v2 (putF t k PV.blank) := o2.p hfp
  obtain ⟨va, vc, hva, hcp⟩ : ∃ a cap, v2 = .slice a (putF t k PV.blank).length cap ∧ (putF t k PV.blank).length ≤ cap := o2.cap
  subst hva
  clear o2
  go_wp2_with fail
  refine (shrunk_p hsh hp2.tree hcp).mono ?_
  rintro e w3 ⟨k3, c3, rfl, hk3, e3, b3⟩
  have hp3 := (hp2.take k3 c3 hk3).below b3
  go_wp2_with fail
  go_ret2
  have hb1 := b1.size
  exact ⟨_, rfl, by rw [remF, e3]; exact hp3.imp (fun b _ h => by omega), on b1 (on b2 b3)⟩

end Go.Proofs.YtdnopkpoepdihaaDoor
