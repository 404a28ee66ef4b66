/-
  The document's Check: the vertex at a place, and all of them.
-/
import Derived.Test.YtmcjincgppddeaaDoorSG
namespace Go.Proofs.YtmcjincgppddeaaDoor
open Go.RowKit 
set_option linter.unusedSimpArgs false
set_option linter.unusedVariables false

theorem lev_zero {x : Nat} (hx : x < 63) : (lev (x : Int) == 0) = ((x : Int) % 2 == 0) := by
  by_cases h : x % 2 = 1
  · have := odd_lev hx h
    have h2 : ((x : Int) % 2 == 0) = false := by simp; omega
    rw [h2]; simpa using this
  · have : lev (x : Int) = 0 := by
      have := lev_even (k := x / 2) (by omega)
      rwa [show (2 * ((x / 2 : Nat) : Int)) = x by omega] at this
    have h2 : ((x : Int) % 2 == 0) = true := by simp; omega
    rw [h2, this]; rfl

set_option maxRecDepth 100000 in
set_option maxHeartbeats 8000000 in
theorem vertex_any {w : World} {v : Value} {t : Tree} (ht : TreeAt w v t) (hs : Sh t) {x : Nat} (hx : x < t.length) :
    Calls Tryd.prog 63 #[v, .int .i64 x] w fun e w' => e = .returned (.bool (vertB t x (vx t x))) ∧ Below w.heap.size w w' := by
  have hbd := hs.bounds
  have hlz := lev_zero (x := x) (by omega)
  obtain ⟨b, off, cap, hd, rfl, hbl, hv⟩ := ht.get (vx_some hx)
  have hall := hv
  obtain ⟨c0, c1, c2, c3, c4, c5, a, cp, rfl, hl1, hcl⟩ := hv
  have i1 : (x : Int) < (t.length : Int) := by omega
  obtain ⟨u, hu⟩ : ∃ u, vx t x = u := ⟨_, rfl⟩
  rw [hu] at c0 c1 c2 c3 c4 c5 hl1 hcl ⊢
  clear hu hall
  obtain ⟨w0, hw0⟩ : ∃ w0, w.alloc (.cells (leafCells u (.slice a u.late.length cp)) 47) = w0 := ⟨_, rfl⟩
  have b0 : Below w.heap.size w w0 := by rw [← hw0]; exact (Below.refl _ _).alloc (Nat.le_refl _) _
  have hz0 : w0.heap.size = w.heap.size + 1 := by rw [← hw0]; simp
  have bc : ∀ r, w0.cell? ⟨w.heap.size, r, none⟩ = (leafCells u (.slice a u.late.length cp))[r]? := fun r => by rw [← hw0]; simp
  obtain ⟨d0, d1, d2, d3, d4, d5⟩ := leaf_cells (Below.refl _ w0) (by omega) bc
  have ht0 := ht.below b0
  clear bc
  unfold leafCells at hw0
  cases hf : u.full with
  | false =>
    have HV : Hid (vertB t x u = (u.key == 0 && (u.client == 0 && (u.sig == 0 && (u.hash == 0 && decide (u.late.length = 0)))))) := by simp [Hid, vertB, hf]
    rw [hf] at c0 d0 hw0
    cases kkey : (u.key == 0) with
    | false =>
      go_enter Tryd.func63, Tryd.ntmps63
      go_wp2_with (rw [hw0])
      go_ret
      exact ⟨by rw [HV.out]; simp [*, nilB], b0⟩
    | true =>
      cases kclient : (u.client == 0) with
      | false =>
        go_enter Tryd.func63, Tryd.ntmps63
        go_wp2_with (rw [hw0])
        go_ret
        exact ⟨by rw [HV.out]; simp [*, nilB], b0⟩
      | true =>
        cases ksig : (u.sig == 0) with
        | false =>
          go_enter Tryd.func63, Tryd.ntmps63
          go_wp2_with (rw [hw0])
          go_ret
          exact ⟨by rw [HV.out]; simp [*, nilB], b0⟩
        | true =>
          cases khash : (u.hash == 0) with
          | false =>
            go_enter Tryd.func63, Tryd.ntmps63
            go_wp2_with (rw [hw0])
            go_ret
            exact ⟨by rw [HV.out]; simp [*, nilB], b0⟩
          | true =>
            go_enter Tryd.func63, Tryd.ntmps63
            go_wp2_with (rw [hw0])
            go_ret
            exact ⟨by rw [HV.out]; simp [*, nilB], b0⟩
  | true =>
    rw [hf] at c0 d0 hw0
    cases hz : ((x : Int) % 2 == 0) with
    | true =>
      rw [hz] at hlz
      have HV : Hid (vertB t x u = decide (u.late.length = 0)) := by simp [Hid, vertB, hf, hlz]
      go_enter Tryd.func63, Tryd.ntmps63
      go_wp2_with (rw [hw0])
      go_ret
      exact ⟨by rw [HV.out]; simp [nilB], b0⟩
    | false =>
      rw [hz] at hlz
      have HV : Hid (vertB t x u = (u.client == 0 && (u.sig == 0 && lateB t x (-1) u.late))) := by simp [Hid, vertB, hf, hlz]
      obtain ⟨L, hL⟩ : ∃ L, u.late = L := ⟨_, rfl⟩
      rw [hL] at HV c5 d5 hl1 hcl hw0
      clear hL hlz
      have HW : Hid (w.alloc (.cells #[.bool true, .int .i64 u.key, .int .i64 u.client, .int .i64 u.sig, .int .i64 u.hash, .slice a L.length cp] 47) = w0) := hw0
      go_enter Tryd.func63, Tryd.ntmps63
      go_upto_region 6 with (rw [hw0])
      clear hw0
      go_wp2_with fail
      go_loop [6, 7] (fun z q => ∃ (j : Nat) (last : Int), j ≤ L.length ∧ q = .int .i64 j ∧ z = .int .i64 last ∧ Hid (lateB t x (-1) L = lateB t x last (L.drop j))) (fun _ q => L.length - (intOf q).toNat)
      case atStart => exact ⟨0, -1, Nat.zero_le _, rfl, rfl, rfl⟩
      case round =>
        obtain ⟨j, last, hj, rfl, rfl, HL⟩ := hrel
        by_cases hlt : j < L.length
        · obtain ⟨y, hy⟩ : ∃ y, L[j]? = some y := ⟨L[j], by simp [hlt]⟩
          obtain ⟨b2, off2, rfl, hbl2, hcell⟩ := hcl (by rintro rfl; simp at hy)
          have e0 := (b0.cell (p := ⟨b2, off2 + j, none⟩) hbl2).trans (hcell j y hy)
          have i2 : (j : Int) < (L.length : Int) := by omega
          have hdr : L.drop j = y :: L.drop (j + 1) := by
            rw [List.drop_eq_getElem_cons hlt]
            congr 1
            exact (List.getElem?_eq_some_iff.1 hy).2
          have hst : lateB t x last (L.drop j) = (decide (last < y) && fullB t y && underB (2 * y) x (lv t) && lateB t x y (L.drop (j + 1))) := by rw [hdr]; rfl
          have HL2 : Hid (lateB t x (-1) L = (decide (last < y) && fullB t y && underB (2 * y) x (lv t) && lateB t x y (L.drop (j + 1)))) := by rw [← hst]; exact HL.out
          have hff := refFull_any ht0 hs y
          have hlv := refLeaves_any ht0
          clear hcell hcl hy hdr hst HL
          by_cases h1 : last < y
          · have h1' : ¬ (y ≤ last) := by omega
            by_cases h64 : 64 ≤ y
            · have HR : Hid (lateB t x (-1) L = false) := by
                have : fullB t y = false := by simp [fullB]; omega
                rw [HL2.out, this]; simp [Hid]
              clear hff hlv
              go_wp2_with fail
              go_ret
              exact ⟨by rw [HV.out, HR.out]; simp, b0⟩
            · cases h2 : fullB t y with
              | false =>
                have HR : Hid (lateB t x (-1) L = false) := by rw [HL2.out, h2]; simp [Hid]
                rw [h2] at hff
                clear hlv
                go_wp2_with (go_at_call 23; refine hff.mono ?_; rintro e w' ⟨rfl, hw⟩; obtain rfl := hw.symm)
                go_ret
                exact ⟨by rw [HV.out, HR.out]; simp, b0⟩
              | true =>
                have hyr := fullB_range h2
                have i3 : y ≤ 32 := by omega
                have i4 : (lv t : Int) ≤ 32 := by omega
                rw [h2] at hff
                have hu := fun w => refUnder_any (w := w) (2 * y) x (lv t)
                cases h3 : underB (2 * y) x (lv t) with
                | false =>
                  have HR : Hid (lateB t x (-1) L = false) := by rw [HL2.out, h3]; simp [Hid]
                  go_wp2_with first
                    | (go_at_call 23; refine hff.mono ?_; rintro e w' ⟨rfl, hw⟩; obtain rfl := hw.symm)
                    | (go_at_call 29; refine hlv.mono ?_; rintro e w' ⟨rfl, hw⟩; obtain rfl := hw.symm)
                    | (go_at_call 28; refine (hu _).mono ?_; rintro e w' ⟨rfl, hw⟩; obtain rfl := hw.symm; rw [h3])
                  go_ret
                  exact ⟨by rw [HV.out, HR.out]; simp, b0⟩
                | true =>
                  have HR : Hid (lateB t x (-1) L = lateB t x y (L.drop (j + 1))) := by rw [HL2.out, h2, h3]; simp [Hid, h1]
                  go_wp2_with first
                    | (go_at_call 23; refine hff.mono ?_; rintro e w' ⟨rfl, hw⟩; obtain rfl := hw.symm)
                    | (go_at_call 29; refine hlv.mono ?_; rintro e w' ⟨rfl, hw⟩; obtain rfl := hw.symm)
                    | (go_at_call 28; refine (hu _).mono ?_; rintro e w' ⟨rfl, hw⟩; obtain rfl := hw.symm; rw [h3])
                  exact ⟨⟨j + 1, y, by omega, by go_num, rfl, HR⟩, by simp [intOf]; omega⟩
          · have HR : Hid (lateB t x (-1) L = false) := by rw [HL2.out]; simp [Hid, h1]
            have h1' : y ≤ last := by omega
            clear hff hlv
            go_wp2_with fail
            go_ret
            exact ⟨by rw [HV.out, HR.out]; simp, b0⟩
        · have HR : Hid (lateB t x (-1) L = true) := by
            rw [HL.out, List.drop_of_length_le (by omega)]; rfl
          have i2 : ¬ ((j : Int) < (L.length : Int)) := by omega
          clear hcl
          cases k1 : (u.client == 0) with
          | false =>
            go_wp2_with fail
            go_ret
            exact ⟨by rw [HV.out]; simp [*], b0⟩
          | true =>
            go_wp2_with fail
            go_ret
            exact ⟨by rw [HV.out, HR.out]; simp [*], b0⟩

set_option maxRecDepth 100000 in
set_option maxHeartbeats 4000000 in
theorem refCheck_sh {w : World} {v : Value} {t : Tree} (ht : TreeAt w v t) (hs : Sh t) :
    Calls Tryd.prog 33 #[v] w fun e w' => e = .returned (.bool (checkB t)) ∧ Below w.heap.size w w' := by
  have hbd := hs.bounds
  have hq : checkB t = (vertsB t t.length && tightB t) := by simp [checkB, shB_iff.2 hs, tightB]
  rw [hq]
  clear hq
  obtain ⟨va, vcap, rfl, _⟩ := id ht
  have hodd : ((t.length : Int) % 2 == 0) = false := by simp; omega
  have hr := hs.1
  have hrr := refRight_any (w := w) (lv t)
  rw [hr] at hrr
  have hlv := refLeaves_any ht
  have htt := refTight_any ht hs
  have hlt63 : (t.length : Int) ≤ 63 := by omega
  cases htg : tightB t with
  | false =>
    rw [htg] at htt
    go_enter Tryd.func33, Tryd.ntmps33
    go_wp2_with first
      | (go_at_call 29; refine hlv.mono ?_; rintro e w' ⟨rfl, hw⟩; obtain rfl := hw.symm)
      | (go_at_call 61; refine hrr.mono ?_; rintro e w' ⟨rfl, hw⟩; obtain rfl := hw.symm)
      | (go_at_call 62; refine htt.mono ?_; rintro e w' ⟨rfl, hw⟩; obtain rfl := hw.symm)
    go_ret
    exact ⟨by simp, Below.refl _ _⟩
  | true =>
    rw [htg] at htt
    go_enter Tryd.func33, Tryd.ntmps33
    go_wp2_with first
      | (go_at_call 29; refine hlv.mono ?_; rintro e w' ⟨rfl, hw⟩; obtain rfl := hw.symm)
      | (go_at_call 61; refine hrr.mono ?_; rintro e w' ⟨rfl, hw⟩; obtain rfl := hw.symm)
      | (go_at_call 62; refine htt.mono ?_; rintro e w' ⟨rfl, hw⟩; obtain rfl := hw.symm)
    go_loopw [3] (fun q wr => ∃ j : Nat, j ≤ t.length ∧ q = .int .i64 j ∧ Hid (vertsB t j = true) ∧ Below w.heap.size w wr) (fun q _ => t.length - (intOf q).toNat)
    case atStart => exact ⟨0, Nat.zero_le _, rfl, rfl, Below.refl _ _⟩
    case round =>
      obtain ⟨j, hj, rfl, HV, hB⟩ := hrel
      have htr := ht.below hB
      by_cases hlt : j < t.length
      · have i1 : (j : Int) < (t.length : Int) := by omega
        go_wp2_with fail
        refine (vertex_any htr hs hlt).mono ?_
        rintro e w1 ⟨rfl, b1⟩
        have hB1 := hB.trans (b1.mono hB.size)
        cases hv : vertB t j (vx t j) with
        | true =>
          have HN : Hid (vertsB t (j + 1) = true) := by show _ = _; rw [vertsB_succ, HV.out, hv]; rfl
          go_wp2_with fail
          go_roundw
          case rel => exact ⟨j + 1, by omega, by go_num, HN, hB1⟩
          case measure => simp [intOf]; omega
        | false =>
          have HN : Hid (vertsB t t.length = false) := vertsB_false hlt hv
          go_wp2_with fail
          go_ret
          exact ⟨by rw [HN.out]; rfl, hB1⟩
      · have e : j = t.length := by omega
        subst e
        go_wp2_with fail
        go_ret
        exact ⟨by rw [HV.out]; simp, hB⟩

end Go.Proofs.YtmcjincgppddeaaDoor
