/-
  Whether a tree is right: package tree's Check.
-/
import Derived.Test.YtdnopkpoepdihaaDoorTL
namespace Go.Proofs.YtdnopkpoepdihaaDoor
open Go.RowKit
set_option linter.unusedSimpArgs false
set_option linter.unusedVariables false

def lateB (t : Tree) (x : Int) : Int → List Int → Bool
  | _, [] => true
  | last, i :: r => decide (last < i) && fullB t i && underB (2 * i) x (lv t) && lateB t x i r
def vertB (t : Tree) (x : Int) (u : PV) : Bool :=
  if u.full then (if lev x == 0 then decide (u.late.length = 0) else u.client == 0 && (u.sig == 0 && lateB t x (-1) u.late))
  else u.key == 0 && (u.client == 0 && (u.sig == 0 && (u.hash == 0 && decide (u.late.length = 0))))
def vertsB (t : Tree) (k : Nat) : Bool := (List.range k).all fun x => vertB t x (vx t x)
def checkB (t : Tree) : Bool := shB t && (vertsB t t.length && fromB t (lv t / 2))

theorem vertsB_succ (t : Tree) (k : Nat) : vertsB t (k + 1) = (vertsB t k && vertB t k (vx t k)) := by
  simp [vertsB, List.range_succ]
theorem vertsB_false {t : Tree} {k m : Nat} (hk : k < m) (h : vertB t k (vx t k) = false) : vertsB t m = false := by
  cases hv : vertsB t m with
  | false => rfl
  | true =>
    unfold vertsB at hv
    rw [List.all_eq_true] at hv
    have := hv k (List.mem_range.2 hk)
    rw [h] at this
    cases this

theorem nilB (l : List Int) : ((l.length : Int) == 0) = decide (l = []) := by
  cases l with
  | nil => rfl
  | cons a r =>
    simp
    omega

theorem fullB_range {t : Tree} {i : Int} (h : fullB t i = true) : 0 ≤ i ∧ i < lv t := by
  simp [fullB] at h; exact ⟨h.1.1, h.1.2⟩

set_option maxRecDepth 100000 in
set_option maxHeartbeats 2000000 in
theorem isRightLate_any {w : World} {v : Value} {t : Tree} (ht : TreeAt w v t) (hs : Sh t) (hT : Tab w) {x : Nat} (hx : x < t.length) :
    Calls Tryd.prog 69 #[v, .int .i64 x, .int .i64 (lv t)] w fun e w' => e = .returned (.bool (lateB t x (-1) (vx t x).late)) ∧ Below w.heap.size w w' := by
  have hbd := hs.bounds
  obtain ⟨b, off, cap, hd, rfl, hbl, hv⟩ := ht.get (vx_some hx)
  obtain ⟨_, _, _, _, _, c5, a, cp, rfl, hl1, hcl⟩ := hv
  have i1 : (x : Int) < (t.length : Int) := by omega
  obtain ⟨L, hL⟩ : ∃ L, (vx t x).late = L := ⟨_, rfl⟩
  rw [hL] at c5 hl1 hcl ⊢
  clear hL
  go_enter Tryd.func69, Tryd.ntmps69
  go_wp2_with fail
  go_loopw [7, 16] (fun z q wr => ∃ (j : Nat) (last : Int), j ≤ L.length ∧ q = .int .i64 j ∧ z = .int .i64 last ∧ Hid (lateB t x (-1) L = lateB t x last (L.drop j)) ∧ Below w.heap.size w wr) (fun _ q _ => L.length - (intOf q).toNat)
  case atStart => exact ⟨0, -1, Nat.zero_le _, rfl, rfl, rfl, Below.refl _ _⟩
  case round =>
    obtain ⟨j, last, hj, rfl, rfl, HL, hB⟩ := hrel
    have htr := ht.below hB
    have hTr := hT.below hB hT.size
    by_cases hlt : j < L.length
    · obtain ⟨y, hy⟩ : ∃ y, L[j]? = some y := ⟨L[j], by simp [hlt]⟩
      obtain ⟨b2, off2, rfl, hbl2, hcell⟩ := hcl (by rintro rfl; simp at hy)
      have c0 := (hB.cell (p := ⟨b2, off2 + j, none⟩) hbl2).trans (hcell j y hy)
      have i2 : (j : Int) < (L.length : Int) := by omega
      have hdr : L.drop j = y :: L.drop (j + 1) := by
        rw [List.drop_eq_getElem_cons hlt]
        congr 1
        have := (List.getElem?_eq_some_iff.1 hy).2
        exact this
      have hst : lateB t x last (L.drop j) = (decide (last < y) && fullB t y && underB (2 * y) x (lv t) && lateB t x y (L.drop (j + 1))) := by rw [hdr]; rfl
      have HL2 : Hid (lateB t x (-1) L = (decide (last < y) && fullB t y && underB (2 * y) x (lv t) && lateB t x y (L.drop (j + 1)))) := by rw [← hst]; exact HL.out
      clear hcell hcl hy hdr hst HL
      by_cases h1 : last < y
      · have h1' : ¬ (y ≤ last) := by omega
        cases h2 : fullB t y with
        | false =>
          have HR : Hid (lateB t x (-1) L = false) := by rw [HL2.out, h2]; simp [Hid]
          go_wp2_with (go_at_call 64; refine (isMember_any htr hs _).mono ?_; rintro e w' ⟨rfl, hw⟩; obtain rfl := hw.symm; rw [h2])
          go_ret
          exact ⟨by rw [HR.out]; rfl, hB⟩
        | true =>
          have hyr := fullB_range h2
          have i3 : y ≤ 32 := by omega
          have hu := Under_any (2 * y) x (lv t) hTr
          cases h3 : underB (2 * y) x (lv t) with
          | false =>
            have HR : Hid (lateB t x (-1) L = false) := by rw [HL2.out, h3]; simp [Hid]
            go_wp2_with first
              | (go_at_call 64; refine (isMember_any htr hs _).mono ?_; rintro e w' ⟨rfl, hw⟩; obtain rfl := hw.symm; rw [h2])
              | (go_at_call 86; refine hu.mono ?_; rintro e w3 ⟨rfl, b3⟩; rw [h3])
            go_ret
            exact ⟨by rw [HR.out]; rfl, hB.trans (b3.mono hB.size)⟩
          | true =>
            have HR : Hid (lateB t x (-1) L = lateB t x y (L.drop (j + 1))) := by rw [HL2.out, h2, h3]; simp [Hid, h1]
            go_wp2_with first
              | (go_at_call 64; refine (isMember_any htr hs _).mono ?_; rintro e w' ⟨rfl, hw⟩; obtain rfl := hw.symm; rw [h2])
              | (go_at_call 86; refine hu.mono ?_; rintro e w3 ⟨rfl, b3⟩; rw [h3])
            go_roundw
            case rel => exact ⟨j + 1, y, by omega, by go_num, rfl, HR, hB.trans (b3.mono hB.size)⟩
            case measure => simp [intOf]; omega
      · have HR : Hid (lateB t x (-1) L = false) := by rw [HL2.out]; simp [Hid, h1]
        have h1' : y ≤ last := by omega
        go_wp2_with fail
        go_ret
        exact ⟨by rw [HR.out]; rfl, hB⟩
    · have HR : Hid (lateB t x (-1) L = true) := by
        rw [HL.out, List.drop_of_length_le (by omega)]; rfl
      clear hcl
      go_wp2_with fail
      all_goals go_ret
      all_goals exact ⟨by rw [HR.out]; rfl, hB⟩

set_option maxRecDepth 100000 in
set_option maxHeartbeats 4000000 in
theorem isRightVertex_any {w : World} {v : Value} {t : Tree} (ht : TreeAt w v t) (hs : Sh t) (hT : Tab w) {x : Nat} (hx : x < t.length) :
    Calls Tryd.prog 42 #[v, .int .i64 x, .int .i64 (lv t)] w fun e w' => e = .returned (.bool (vertB t x (vx t x))) ∧ Below w.heap.size w w' := by
  have hbd := hs.bounds
  have hrl : ∀ o, Calls Tryd.prog 69 #[v, .int .i64 x, .int .i64 (lv t)] (w.alloc o) fun e w' => e = .returned (.bool (lateB t x (-1) (vx t x).late)) ∧ Below (w.alloc o).heap.size (w.alloc o) w' := fun o => by
    have b0 : Below w.heap.size w (w.alloc o) := (Below.refl _ _).alloc (Nat.le_refl _) _
    exact isRightLate_any (ht.below b0) hs (hT.below b0 hT.size) hx
  have b0 : ∀ o, Below w.heap.size w (w.alloc o) := fun o => (Below.refl _ _).alloc (Nat.le_refl _) _
  have hT0 : ∀ o, Tab (w.alloc o) := fun o => hT.below (b0 o) hT.size
  obtain ⟨b, off, cap, hd, rfl, hbl, hv⟩ := ht.get (vx_some hx)
  obtain ⟨c0, c1, c2, c3, c4, c5, a, cp, rfl, hl1, hcl⟩ := hv
  have i1 : (x : Int) < (t.length : Int) := by omega
  obtain ⟨u, hu⟩ : ∃ u, vx t x = u := ⟨_, rfl⟩
  rw [hu] at c0 c1 c2 c3 c4 c5 hl1 hrl ⊢
  clear hcl hu
  have hlev : lev (x : Int) < 9223372036854775808 := by
    have := lev_small (x := (x : Int)) (by omega) (by omega)
    omega
  cases hf : u.full with
  | false =>
    have HV : Hid (vertB t x u = (u.key == 0 && (u.client == 0 && (u.sig == 0 && (u.hash == 0 && decide (u.late.length = 0)))))) := by simp [Hid, vertB, hf]
    rw [hf] at c0
    clear hrl
    cases kkey : (u.key == 0) with
    | false =>
      go_enter Tryd.func42, Tryd.ntmps42
      go_wp2_with fail
      go_ret
      exact ⟨by rw [HV.out]; simp [*, nilB], b0 _⟩
    | true =>
      cases kclient : (u.client == 0) with
      | false =>
        go_enter Tryd.func42, Tryd.ntmps42
        go_wp2_with fail
        go_ret
        exact ⟨by rw [HV.out]; simp [*, nilB], b0 _⟩
      | true =>
        cases ksig : (u.sig == 0) with
        | false =>
          go_enter Tryd.func42, Tryd.ntmps42
          go_wp2_with fail
          go_ret
          exact ⟨by rw [HV.out]; simp [*, nilB], b0 _⟩
        | true =>
          cases khash : (u.hash == 0) with
          | false =>
            go_enter Tryd.func42, Tryd.ntmps42
            go_wp2_with fail
            go_ret
            exact ⟨by rw [HV.out]; simp [*, nilB], b0 _⟩
          | true =>
            go_enter Tryd.func42, Tryd.ntmps42
            go_wp2_with fail
            go_ret
            exact ⟨by rw [HV.out]; simp [*, nilB], b0 _⟩
  | true =>
    rw [hf] at c0
    cases hz : (lev (x : Int) == 0) with
    | true =>
      have HV : Hid (vertB t x u = decide (u.late.length = 0)) := by simp [Hid, vertB, hf, hz]
      go_enter Tryd.func42, Tryd.ntmps42
      go_wp2_with (go_at_call 68; refine (level_any _ (by omega) (hT0 _)).mono ?_; rintro e w' ⟨rfl, hw⟩; obtain rfl := hw.symm)
      go_ret
      exact ⟨by rw [HV.out]; simp [nilB], b0 _⟩
    | false =>
      have HV : Hid (vertB t x u = (u.client == 0 && (u.sig == 0 && lateB t x (-1) u.late))) := by simp [Hid, vertB, hf, hz]
      cases k1 : (u.client == 0) with
      | false =>
        clear hrl
        go_enter Tryd.func42, Tryd.ntmps42
        go_wp2_with (go_at_call 68; refine (level_any _ (by omega) (hT0 _)).mono ?_; rintro e w' ⟨rfl, hw⟩; obtain rfl := hw.symm)
        go_ret
        exact ⟨by rw [HV.out]; simp [*, nilB], b0 _⟩
      | true =>
        cases k2 : (u.sig == 0) with
        | false =>
          clear hrl
          go_enter Tryd.func42, Tryd.ntmps42
          go_wp2_with (go_at_call 68; refine (level_any _ (by omega) (hT0 _)).mono ?_; rintro e w' ⟨rfl, hw⟩; obtain rfl := hw.symm)
          go_ret
          exact ⟨by rw [HV.out]; simp [*, nilB], b0 _⟩
        | true =>
          obtain ⟨Q, hQ⟩ : ∃ Q, lateB t x (-1) u.late = Q := ⟨_, rfl⟩
          rw [hQ] at hrl
          go_enter Tryd.func42, Tryd.ntmps42
          go_wp2_with first
            | (go_at_call 68; refine (level_any _ (by omega) (hT0 _)).mono ?_; rintro e w' ⟨rfl, hw⟩; obtain rfl := hw.symm)
            | (go_at_call 69; refine (hrl _).mono ?_; rintro e w3 ⟨rfl, b3⟩)
          go_ret
          exact ⟨by rw [HV.out]; simp [*], on (b0 _) b3⟩

end Go.Proofs.YtdnopkpoepdihaaDoor
