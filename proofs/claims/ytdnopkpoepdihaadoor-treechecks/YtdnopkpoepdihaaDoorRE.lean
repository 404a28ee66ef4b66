/-
  A leaf added, by the document.
-/
import Derived.Test.YtdnopkpoepdihaaDoorRD
namespace Go.Proofs.YtdnopkpoepdihaaDoor
open Go.RowKit
set_option linter.unusedSimpArgs false
set_option linter.unusedVariables false

def lenV : Value → Nat
  | .slice _ n _ => n
  | _ => 0

/-- The tree while the Lates of the odd places are put, below X. -/
def adV (i n : Int) (leaf : PV) (X x : Nat) (u : PV) : PV :=
  if (x : Int) = 2 * i then leafV leaf else if decide (x < X) && (decide (x % 2 = 1) && (u.full && underB (2 * i) x n)) then { u with late := ins i u.late } else u
def adX (t : Tree) (i : Int) (leaf : PV) (X : Nat) : Tree := t.mapIdx (adV i (lv t) leaf X)
theorem adX_len (t : Tree) (i : Int) (leaf : PV) (X : Nat) : (adX t i leaf X).length = t.length := by simp [adX]
theorem adX_lv (t : Tree) (i : Int) (leaf : PV) (X : Nat) : lv (adX t i leaf X) = lv t := by simp [lv, adX_len]
theorem adX_get (t : Tree) (i : Int) (leaf : PV) (X x : Nat) : (adX t i leaf X)[x]? = t[x]?.map (adV i (lv t) leaf X x) := by simp [adX]

theorem adX_one (t : Tree) (k : Nat) (leaf : PV) (hk : 2 * k < t.length) : adX t k leaf 1 = t.set (2 * k) (leafV leaf) := by
  apply List.ext_getElem?
  intro x
  rw [adX_get]
  by_cases hx : x = 2 * k
  · subst hx
    rw [List.getElem?_set_self hk, vx_some hk]
    simp [adV]
  · rw [List.getElem?_set_ne (by omega)]
    cases h : t[x]? with
    | none => rfl
    | some u =>
      have h1 : ¬ ((x : Int) = 2 * (k : Int)) := by omega
      have h2 : ¬ (x < 1 ∧ x % 2 = 1) := by omega
      simp only [Option.map_some, adV, if_neg h1]
      rw [if_neg]
      simp only [Bool.and_eq_true, decide_eq_true_eq]
      rintro ⟨a, b, _⟩
      exact h2 ⟨a, b⟩

theorem adX_step {t : Tree} {k : Nat} {leaf : PV} {X : Nat} (hX : X < t.length) (hodd : X % 2 = 1) :
    adX t k leaf (X + 2) = if (vx t X).full && underB (2 * (k : Int)) X (lv t) then (adX t k leaf X).set X { vx t X with late := ins k (vx t X).late } else adX t k leaf X := by
  have hne : ¬ ((X : Int) = 2 * (k : Int)) := by omega
  have other : ∀ x, x ≠ X → ∀ u, adV k (lv t) leaf (X + 2) x u = adV k (lv t) leaf X x u := fun x hx u => by
    unfold adV
    by_cases h1 : (x : Int) = 2 * (k : Int)
    · simp [h1]
    · rw [if_neg h1, if_neg h1]
      have : (decide (x < X + 2) && (decide (x % 2 = 1) && (u.full && underB (2 * (k : Int)) x (lv t)))) = (decide (x < X) && (decide (x % 2 = 1) && (u.full && underB (2 * (k : Int)) x (lv t)))) := by
        by_cases h2 : x % 2 = 1
        · have : (x < X + 2) ↔ (x < X) := by omega
          simp [this]
        · simp [h2]
      rw [this]
  apply List.ext_getElem?
  intro x
  by_cases hx : x = X
  · subst hx
    rw [adX_get, vx_some hX]
    by_cases hc : ((vx t x).full && underB (2 * (k : Int)) x (lv t)) = true
    · rw [if_pos hc, List.getElem?_set_self (by rw [adX_len]; exact hX)]
      simp only [Option.map_some, adV, if_neg hne, hc, hodd]
      simp
    · rw [if_neg hc, adX_get, vx_some hX]
      simp only [Bool.not_eq_true] at hc
      simp only [Option.map_some, adV, if_neg hne, hc]
      simp
  · rw [adX_get]
    split
    · rw [List.getElem?_set_ne (by omega), adX_get]
      cases t[x]? with
      | none => rfl
      | some u => simp [other x hx]
    · rw [adX_get]
      cases t[x]? with
      | none => rfl
      | some u => simp [other x hx]

theorem adX_at {t : Tree} {k : Nat} {leaf : PV} {X : Nat} (hX : X < t.length) (hodd : X % 2 = 1) : (adX t k leaf X)[X]? = some (vx t X) := by
  have hne : ¬ ((X : Int) = 2 * (k : Int)) := by omega
  rw [adX_get, vx_some hX]
  simp [adV, hne]

theorem adX_end {t : Tree} (hs : Sh t) (hr : ¬ (least t = lv t ∧ lv t = 32)) (leaf : PV) {X : Nat} (hX : (room t).length ≤ X) : adX (room t) (least t) leaf X = addF t leaf := by
  obtain ⟨s1, s2, s3, s4⟩ := room_sh hs hr
  have hb := s1.bounds
  apply List.ext_getElem?
  intro x
  rw [adX_get, addF_get]
  cases h : (room t)[x]? with
  | none => rfl
  | some u =>
    have hx := (List.getElem?_eq_some_iff.1 h).1
    simp only [Option.map_some, adV, addV]
    by_cases h1 : (x : Int) = 2 * (least t : Int)
    · simp [h1]
    · rw [if_neg h1, if_neg h1]
      have : (decide (x < X) && (decide (x % 2 = 1) && (u.full && underB (2 * (least t : Int)) x (lv (room t))))) = (u.full && underB (2 * (least t : Int)) x (lv (room t))) := by
        have h2 : x < X := by omega
        by_cases h3 : x % 2 = 1
        · simp [h2, h3]
        · have h4 : underB (2 * (least t : Int)) x (lv (room t)) = false := by
            cases hu : underB (2 * (least t : Int)) x (lv (room t)) with
            | false => rfl
            | true =>
              have := under_leaf hu (by
                obtain ⟨m, hm⟩ : ∃ m, x = 2 * m := ⟨x / 2, by omega⟩
                rw [hm, show ((2 * m : Nat) : Int) = 2 * (m : Int) by omega]
                exact lev_even (by omega))
              omega
          simp [h4]
      rw [this]

set_option maxRecDepth 100000 in
set_option maxHeartbeats 8000000 in
theorem refAdd_new {t : Tree} (hf : Fit t) {v : Value} {w : World} (ht : TreeAt w v t) (u : PV) (h : Value) (hr : ¬ (least t = lv t ∧ lv t = 32)) (hfa : Fit (addF t u)) :
    Calls Tryd.prog 39 #[v, u.val h] w fun e w' => ∃ v', e = .returned (.tuple #[v', .int .i64 (least t), .int .i64 0]) ∧ TreeP (fun b => w.heap.size ≤ b) w' v' (addF t u) ∧ Below w.heap.size w w' := by
  have hs := hf.sh
  have hbd := hs.bounds
  obtain ⟨i0, hi, hz0, hz1, hz2⟩ := info_parts Tryd.infoV
  obtain ⟨hsr, hll, hdb, hsm⟩ := room_sh hs hr
  have hls := least_spec t
  have hfl : ∀ W, Calls Tryd.prog 15 #[u.val h] W fun e w' => e = .returned ((leafV u).val (.slice none 0 0)) ∧ Below W.heap.size W w' := fun W => refLeaf_any u h W
  have hE : Hid (∀ X, (room t).length ≤ X → adX (room t) (least t) u X = addF t u) := fun X hX => adX_end hs hr u hX
  unfold PV.val at *
  obtain ⟨w0, hw0⟩ : ∃ w0, w.alloc (.cells (leafCells u h) 24) = w0 := ⟨_, rfl⟩
  have b0 : Below w.heap.size w w0 := by rw [← hw0]; exact (Below.refl _ _).alloc (Nat.le_refl _) _
  have ht0 := ht.below b0
  have q0 : w0.heap[w.heap.size]? = some (.cells (leafCells u h) 24) := by rw [← hw0]; exact heap_alloc_new w _
  have hsz0 : w.heap.size < w0.heap.size := by rw [← hw0]; simp
  unfold leafCells at hw0
  go_enter Tryd.func39, Tryd.ntmps39
  go_wp2_with (rw [hw0])
  refine (refCopy_any ht0 (by omega) (fun x u hx => by have := (hf.small x u hx).1; omega)).mono ?_
  rintro e w1 ⟨v1, hs1, rfl, o1, b1⟩
  have ht1 := o1.treeF hf
  go_wp2_with fail
  go_loop [8] (fun q => ∃ j : Nat, j ≤ least t ∧ q = .int .i64 j) (fun q => 33 - (intOf q).toNat)
  case atStart => exact ⟨0, Nat.zero_le _, rfl⟩
  case round =>
    obtain ⟨j, hj, rfl⟩ := hrel
    have hff := refFull_any ht1 hs j
    have ij : (j : Int) ≤ 32 := by omega
    by_cases hjl : j < least t
    · have hfu : fullB t j = true := by
        have := hls.2.1 j hjl
        simp [fullB, this]; omega
      rw [hfu] at hff
      go_wp2_with (go_at_call 31; refine hff.mono ?_; rintro e w' ⟨rfl, hw⟩; obtain rfl := hw.symm)
      exact ⟨⟨j + 1, by omega, by go_num⟩, by simp [intOf]; omega⟩
    · have hje : j = least t := by omega
      have hfu : fullB t j = false := by
        rw [hje]
        by_cases hq : least t < lv t
        · have := hls.2.2 hq
          simp [fullB, this]
        · simp [fullB]; omega
      rw [hfu] at hff
      subst hje
      obtain ⟨g1, cap1, rfl, hg1B, hg1l⟩ := o1.form (by omega)
      have hlv := refLeaves_any ht1
      have il : (lv t : Int) ≤ 32 := by omega
      have hls1 := hls.1
      clear hls hfu
      go_upto_if 21 with first
        | (go_at_call 31; refine hff.mono ?_; rintro e w' ⟨rfl, hw⟩; obtain rfl := hw.symm)
        | (go_at_call 23; refine hlv.mono ?_; rintro e w' ⟨rfl, hw⟩; obtain rfl := hw.symm)
      go_cut [7] (fun b wx => ∃ hs3, OwnT w0.heap.size wx b (room t) hs3 (room t).length ∧ Below w0.heap.size w0 wx)
      case first =>
        by_cases hle : least t = lv t
        · have e1 : ((least t : Int) == (lv t : Int)) = true := by simp [hle]
          have e2 : ((least t : Int) == 32) = false := by simp; omega
          have hroom : room t = t ++ List.replicate (2 * lv t) PV.blank := by simp [room, hle, dbl]
          have hlt' : 4 * (least t : Int) - 1 = (t.length : Int) + 2 * (lv t : Int) := by omega
          have HR : Hid (room t = t ++ List.replicate (2 * lv t) PV.blank) := hroom
          have Hle : Hid (4 * (least t : Int) - 1 = (t.length : Int) + 2 * (lv t : Int)) := hlt'
          clear hle hroom hlt' hdb hsm
          rw [e1]
          go_wp2_with fail
          go_loopw [7] (fun c wr => ∃ (m : Nat) (hsm : List Value), m ≤ 2 * lv t ∧ OwnT w0.heap.size wr c (t ++ List.replicate m PV.blank) hsm (t.length + m) ∧ Below w0.heap.size w0 wr) (fun c _ => 127 - lenV c)
          case atStart => exact ⟨0, hs1, Nat.zero_le _, by simpa using o1, b1⟩
          case round =>
            obtain ⟨m, hsm, hm, om, hB⟩ := hrel
            have hsz := hB.size
            have hlm : (t ++ List.replicate m PV.blank).length = t.length + m := by simp
            obtain ⟨ca, cc, hce, hccl⟩ := om.cap
            rw [hlm] at hce
            subst hce
            by_cases hlt : m < 2 * lv t
            · have i3 : ((t.length + m : Nat) : Int) < 4 * (least t : Int) - 1 := by rw [Hle.out]; omega
              have bA : Below wr.heap.size wr (wr.alloc (.cells #[.bool false, .int .i64 0, .int .i64 0, .int .i64 0, .int .i64 0, .slice none 0 0] 24)) := (Below.refl _ _).alloc (Nat.le_refl _) _
              have hro := row_below om.row bA
              rw [hlm] at hro
              obtain ⟨v7, w7, hr7, o7, g7, _, l7⟩ := run_append_own_at (P := Tryd.prog) _ w0.heap.size 27 27 24 i0 (.agg #[.bool false, .int .i64 0, .int .i64 0, .int .i64 0, .int .i64 0, .slice none 0 0]) 6 64 Tryd.underlying27 hi hz0 hz1 hz2 rfl (by decide) _ (t.length + m) _ hro ⟨wr.heap.size, 0, none⟩ 1 1 (vcells PV.blank nilV) (by simp [vcells]) (World.news_of_block (heap_alloc_new wr _)) (vcells_one PV.blank rfl) (by unfold maxLen; omega) (by omega) (Nat.le_trans hsz bA.size)
              have om' : OwnT w0.heap.size wr (.slice ca (t.length + m) cc) (t ++ List.replicate m PV.blank) hsm (t ++ List.replicate m PV.blank).length := by rw [hlm]; exact om
              have hpush := om'.push (u := PV.blank) (a := nilV) (Below.grownNone bA) (World.ownsRow_nil _ _ _ _) (.inl rfl) (by rw [hlm]; exact o7) g7 (by rcases l7 with h | h; exact .inl h; exact .inr ⟨_, h, Nat.le_refl _⟩)
              rw [hlm, List.append_assoc, show List.replicate m PV.blank ++ [PV.blank] = List.replicate (m + 1) PV.blank from (List.replicate_succ' ..).symm] at hpush
              have HP : Hid (OwnT w0.heap.size w7 v7 (t ++ List.replicate (m + 1) PV.blank) (hsm ++ [nilV]) (t.length + (m + 1))) := hpush
              have B7 := (hB.trans (bA.mono hsz)).grown g7 (Nat.le_trans hsz bA.size) (fun k hk => (om.row.lt k hk).1)
              obtain ⟨qa, qc, hq7, _⟩ := hpush.cap
              have hq7' : v7 = .slice qa (t.length + (m + 1)) qc := by rw [hq7]; simp
              subst hq7'
              clear om om' hpush hro hq7 o7
              go_wp2_with (refine Lib.wpList_append_run _ rfl (.tmp 30) (.tmp 32) 27 27 rfl (.slice ca (t.length + m) cc) (.slice (some ⟨wr.heap.size, 0, none⟩) 1 1) rfl rfl _ _ hr7 ?_)
              go_roundw
              case rel => exact ⟨m + 1, _, by omega, HP.out, B7⟩
              case measure => simp [lenV]; omega
            · have hme : m = 2 * lv t := by omega
              have i3 : ¬ (((t.length + m : Nat) : Int) < 4 * (least t : Int) - 1) := by rw [Hle.out]; omega
              subst hme
              have HO : Hid (∃ hs3, OwnT w0.heap.size wr (.slice ca (t.length + 2 * lv t) cc) (room t) hs3 (room t).length) := ⟨hsm, by rw [HR.out]; simpa using om⟩
              clear om
              go_wp2_with fail
              go_meet
              exact ⟨HO.out.choose, HO.out.choose_spec, hB⟩
        · have hrm := hsm hle
          have e1 : ((least t : Int) == (lv t : Int)) = false := by simp; omega
          go_wp2_with fail
          go_meet
          exact ⟨hs1, by rw [hrm]; exact o1, b1⟩
      case rest =>
      obtain ⟨hs3, o3, b3⟩ := hcut
      obtain ⟨g3, cap3, hu7, hg3B, hg3l⟩ := o3.form (by have := hsr.bounds; omega)
      subst hu7
      have hlr := hsr.bounds
      have hlt3 : 2 * least t < (room t).length := by omega
      have i1 : 2 * (least t : Int) < ((room t).length : Int) := by omega
      have ilr : ((room t).length : Int) ≤ 63 := by omega
      have q3 : wc.heap[w.heap.size]? = some (.cells (leafCells u h) 24) := (b3.block _ hsz0).trans q0
      have bc : ∀ j, wc.cell? ⟨w.heap.size, j, none⟩ = (leafCells u h)[j]? := fun j => by simp [World.cell?, q3]
      have bc0 := bc 0
      have bc1 := bc 1
      have bc2 := bc 2
      have bc3 := bc 3
      have bc4 := bc 4
      have bc5 := bc 5
      simp [leafCells] at bc0 bc1 bc2 bc3 bc4 bc5
      clear bc q3 hlv hff ht1 o1
      go_wp2_with fail
      refine (hfl wc).mono ?_
      rintro e w4 ⟨rfl, b4⟩
      have o4 := o3.below (Nat.le_refl _) b4
      have b34 := b3.trans (b4.mono b3.size)
      obtain ⟨o5, g5⟩ := o4.setV hlt3 (leafV u) rfl
      obtain ⟨hd4, hhd4⟩ := o4.head hlt3
      obtain ⟨d0, d1, d2, d3, d4, d5⟩ := o4.vat (vx_some hlt3) hhd4
      have fz : ∀ j, w4.frozen? ⟨g3, j, none⟩ = false := fun j => o4.row.frozenAt j
      obtain ⟨w5, hw5⟩ : ∃ w5, w4.setCells g3 (2 * least t * 6) (vcells (leafV u) (.slice none 0 0)) = w5 := ⟨_, rfl⟩
      rw [hw5] at o5 g5
      simp only [World.setCells, vcells] at hw5
      have b5 : Below w0.heap.size w0 w5 := b34.grown g5 b34.size (fun k hk => by cases hk; exact hg3B)
      rw [← adX_one (room t) (least t) u hlt3] at o5
      have Hsm : Hid (∀ (x : Nat) (a : PV), (room t)[x]? = some a → a.late.length ≤ 32) := by
        intro x a hx
        by_cases hle : least t = lv t
        · have e : room t = t ++ List.replicate (2 * lv t) PV.blank := by simp [room, hle, dbl]
          rw [e] at hx
          by_cases hxt : x < t.length
          · rw [List.getElem?_append_left hxt] at hx
            exact (hf.small x a hx).1
          · rw [List.getElem?_append_right (by omega)] at hx
            obtain ⟨_, rfl⟩ := List.mem_replicate.1 (List.mem_of_getElem? hx)
            simp [PV.blank]
        · rw [hsm hle] at hx
          exact (hf.small x a hx).1
      have hl5 : (adX (room t) (least t) u 1).length = (room t).length := adX_len _ _ _ _
      have ht5 : TreeAt w5 (.slice (some ⟨g3, 0, none⟩) (room t).length cap3) (adX (room t) (least t) u 1) := by
        refine OwnT.tree (hs := hs3.set (2 * least t) (.slice none 0 0)) (by rw [hl5]; exact o5) (by rw [hl5]; omega) (fun x a hx => ?_)
        rw [adX_get] at hx
        cases hxx : (room t)[x]? with
        | none => rw [hxx] at hx; cases hx
        | some b =>
          rw [hxx] at hx
          simp only [Option.map_some, Option.some.injEq] at hx
          subst hx
          have := Hsm.out x b hxx
          unfold adV
          split
          · simp [leafV]
          · split
            · simp [ins_len]; omega
            · omega
      have hlv5 := refLeaves_any ht5
      rw [adX_lv] at hlv5
      clear hl5 o3 o4 bc0 bc1 bc2 bc3 bc4 bc5 hfl
      go_wp2_with first
        | rw [hw5]
        | (go_at_call 23; refine hlv5.mono ?_; rintro e w' ⟨rfl, hw⟩; obtain rfl := hw.symm)
      clear d0 d1 d2 d3 d4 d5 fz hw5 ht5 hlv5
      go_loopw [10] (fun q wr => ∃ (X : Nat) (hsj : List Value), X % 2 = 1 ∧ X ≤ (room t).length ∧ q = .int .i64 X ∧ OwnT w0.heap.size wr (.slice (some ⟨g3, 0, none⟩) (room t).length cap3) (adX (room t) (least t) u X) hsj (room t).length ∧ Below w0.heap.size w0 wr) (fun q _ => (room t).length - (intOf q).toNat)
      case atStart => exact ⟨1, _, rfl, by omega, rfl, o5, b5⟩
      case round =>
        obtain ⟨X, hsj, hodd, hX, rfl, oj, hB⟩ := hrel
        have hsz := hB.size
        by_cases hlt : X < (room t).length
        · have iX : (X : Int) < ((room t).length : Int) := by omega
          have hgt := vx_some (t := room t) hlt
          have hat := adX_at (k := least t) (leaf := u) hlt hodd
          have hstep := adX_step (k := least t) (leaf := u) hlt hodd
          have hYl : X < (adX (room t) (least t) u X).length := by rw [adX_len]; exact hlt
          have oj' : OwnT w0.heap.size wr (.slice (some ⟨g3, 0, none⟩) (adX (room t) (least t) u X).length cap3) (adX (room t) (least t) u X) hsj (adX (room t) (least t) u X).length := by rw [adX_len]; exact oj
          obtain ⟨a, ha⟩ := oj'.head hYl
          obtain ⟨d0, _, _, _, _, d5⟩ := oj'.vat hat ha
          have hol := oj'.late X _ a hYl hat ha
          have hsl := Hsm.out X _ hgt
          have hun := refUnder_any (2 * (least t : Int)) X (lv (room t)) (w := wr)
          cases hfu : (vx (room t) X).full with
          | false =>
            rw [hfu] at d0
            have HO : Hid (OwnT w0.heap.size wr (.slice (some ⟨g3, 0, none⟩) (room t).length cap3) (adX (room t) (least t) u (X + 2)) hsj (room t).length) := by
              rw [hstep, if_neg (by simp [hfu])]; exact oj
            clear oj oj' hstep hat hgt hol
            go_wp2_with fail
            go_roundw
            case rel => exact ⟨X + 2, hsj, by omega, by omega, by go_num, HO.out, hB⟩
            case measure => simp [intOf]; omega
          | true =>
            rw [hfu] at d0
            cases hu : underB (2 * (least t : Int)) X (lv (room t)) with
            | false =>
              rw [hu] at hun
              have HO : Hid (OwnT w0.heap.size wr (.slice (some ⟨g3, 0, none⟩) (room t).length cap3) (adX (room t) (least t) u (X + 2)) hsj (room t).length) := by
                rw [hstep, if_neg (by simp [hu])]; exact oj
              clear oj oj' hstep hat hgt hol
              go_wp2_with (go_at_call 32; refine hun.mono ?_; rintro e w' ⟨rfl, hw⟩; obtain rfl := hw.symm)
              go_roundw
              case rel => exact ⟨X + 2, hsj, by omega, by omega, by go_num, HO.out, hB⟩
              case measure => simp [intOf]; omega
            | true =>
              rw [hu] at hun
              rw [if_pos (by simp [hfu, hu])] at hstep
              have hwi := with_any (ownsRow_ints hol (by omega)) (by omega) (least t)
              go_wp2_with (go_at_call 32; refine hun.mono ?_; rintro e w' ⟨rfl, hw⟩; obtain rfl := hw.symm)
              refine hwi.mono ?_
              rintro e w7 ⟨v7, rfl, o7, b7⟩
              have hil := ins_len (least t) (vx (room t) X).late
              obtain ⟨qa, qc, hv7, _⟩ := ownsRow_ints o7 (by omega)
              subst hv7
              have gN := Below.grownNone b7
              have gA : wr.grownBy w7 (if X < (adX (room t) (least t) u X).length then a.ownBlock else none) := ⟨gN.os, gN.tape, gN.output, gN.size, fun k hk _ => gN.block k hk (by simp)⟩
              have l7 : (Value.slice qa (ins (least t) (vx (room t) X).late).length qc).ownBlock = none ∨ ∃ N, (Value.slice qa (ins (least t) (vx (room t) X).late).length qc).ownBlock = some N ∧ wr.heap.size ≤ N := by
                cases hob : (Value.slice qa (ins (least t) (vx (room t) X).late).length qc).ownBlock with
                | none => exact .inl rfl
                | some N => exact .inr ⟨N, rfl, (World.ownsRow.lt o7 N hob).1⟩
              obtain ⟨r1, r2⟩ := oj'.setL (Nat.le_refl _) hYl ha hat (ins (least t) (vx (room t) X).late) (w1 := w7) gA (World.ownsRow.mono o7 hsz) (.inr l7) _ (.inl rfl) hYl
              rw [show (adX (room t) (least t) u X).set X { (vx (room t) X) with late := ins (least t) (vx (room t) X).late } = adX (room t) (least t) u (X + 2) from hstep.symm, adX_len] at r1
              have B7 := hB.trans (b7.mono hsz)
              have B8 : Below w0.heap.size w0 (w7.setCell ⟨g3, X * 6 + 5, none⟩ (.slice qa (ins (least t) (vx (room t) X).late).length qc)) := B7.setCell (p := ⟨g3, X * 6 + 5, none⟩) hg3B _
              have hgr : g3 < wr.heap.size := by
                obtain ⟨g', c', e', _, hl'⟩ := oj'.form (by omega)
                cases e'; exact hl'
              have cg : w7.cell? ⟨g3, X * 6 + 5, none⟩ = some a := (b7.cell (p := ⟨g3, X * 6 + 5, none⟩) hgr).trans d5
              have fz : w7.frozen? ⟨g3, X * 6 + 5, none⟩ = false := (b7.frozen (p := ⟨g3, X * 6 + 5, none⟩) hgr).trans (oj'.row.frozenAt _)
              have HO : Hid (OwnT w0.heap.size (w7.setCell ⟨g3, X * 6 + 5, none⟩ (.slice qa (ins (least t) (vx (room t) X).late).length qc)) (.slice (some ⟨g3, 0, none⟩) (room t).length cap3) (adX (room t) (least t) u (X + 2)) (hsj.set X (.slice qa (ins (least t) (vx (room t) X).late).length qc)) (room t).length ∧ Below w0.heap.size w0 (w7.setCell ⟨g3, X * 6 + 5, none⟩ (.slice qa (ins (least t) (vx (room t) X).late).length qc))) := ⟨r1, B8⟩
              clear r1 r2 B8 oj oj' hstep hat hgt hol o7 gA gN hil
              go_wp2_with fail
              go_roundw
              case rel => exact ⟨X + 2, _, by omega, by omega, by go_num, HO.out⟩
              case measure => simp [intOf]; omega
        · have hXe : X = (room t).length := by omega
          have e : adX (room t) (least t) u X = addF t u := hE.out X (by omega)
          rw [e] at oj
          have e2 : (room t).length = (addF t u).length := by simp [addF]
          have ht9 : TreeP (fun b => w.heap.size ≤ b) wr (.slice (some ⟨g3, 0, none⟩) (room t).length cap3) (addF t u) := by
            refine (OwnT.p (B := w0.heap.size) (hs := hsj) ?_ hfa).imp (fun b _ hb => Nat.le_trans b0.size hb)
            rw [← e2]; exact oj
          have iX : ¬ ((X : Int) < ((room t).length : Int)) := by omega
          clear oj e hXe e2
          go_wp2_with fail
          go_ret3
          exact ⟨_, rfl, ht9, b0.trans (hB.mono b0.size)⟩

theorem refAdd_yes {t : Tree} (hf : Fit t) {v : Value} {w : World} (ht : TreeAt w v t) (u : PV) (h : Value) (hr : ¬ (least t = lv t ∧ lv t = 32)) (hfa : Fit (addF t u)) :
    Calls Tryd.prog 39 #[v, u.val h] w fun e w' => ∃ v', e = .returned (.tuple #[v', .int .i64 (least t), .int .i64 0]) ∧ TreeAt w' v' (addF t u) ∧ Below w.heap.size w w' :=
  (refAdd_new hf ht u h hr hfa).mono fun e w' ⟨v', h1, h2, h3⟩ => ⟨v', h1, h2.tree, h3⟩

set_option maxRecDepth 100000 in
set_option maxHeartbeats 4000000 in
theorem refAdd_no {t : Tree} (hf : Fit t) {v : Value} {w : World} (ht : TreeAt w v t) (u : PV) (h : Value) (h1 : least t = lv t) (h2 : lv t = 32) :
    Calls Tryd.prog 39 #[v, u.val h] w fun e w' => e = .returned (.tuple #[.slice none 0 0, .int .i64 0, .int .i64 41]) ∧ Below w.heap.size w w' := by
  have hs := hf.sh
  have hbd := hs.bounds
  have hls := least_spec t
  unfold PV.val at *
  obtain ⟨w0, hw0⟩ : ∃ w0, w.alloc (.cells (leafCells u h) 24) = w0 := ⟨_, rfl⟩
  have b0 : Below w.heap.size w w0 := by rw [← hw0]; exact (Below.refl _ _).alloc (Nat.le_refl _) _
  have ht0 := ht.below b0
  have hl32 : least t = 32 := by omega
  have hful : ∀ j : Nat, j < 32 → fullB t j = true := fun j hj => by
    have := hls.2.1 j (by omega)
    simp [fullB, this]; omega
  have hfno : fullB t 32 = false := by simp [fullB]; omega
  unfold leafCells at hw0
  go_enter Tryd.func39, Tryd.ntmps39
  go_wp2_with (rw [hw0])
  refine (refCopy_any ht0 (by omega) (fun x u hx => by have := (hf.small x u hx).1; omega)).mono ?_
  rintro e w1 ⟨v1, hs1, rfl, o1, b1⟩
  have ht1 := o1.treeF hf
  have Hful : Hid (∀ j : Nat, j < 32 → fullB t j = true) := hful
  clear hful hls h1 hl32
  go_wp2_with fail
  go_loop [8] (fun q => ∃ j : Nat, j ≤ 32 ∧ q = .int .i64 j) (fun q => 33 - (intOf q).toNat)
  case atStart => exact ⟨0, Nat.zero_le _, rfl⟩
  case round =>
    obtain ⟨j, hj, rfl⟩ := hrel
    have hff := refFull_any ht1 hs j
    by_cases hjl : j < 32
    · rw [Hful.out j hjl] at hff
      have ij : (j : Int) ≤ 32 := by omega
      go_wp2_with (go_at_call 31; refine hff.mono ?_; rintro e w' ⟨rfl, hw⟩; obtain rfl := hw.symm)
      exact ⟨⟨j + 1, by omega, by go_num⟩, by simp [intOf]; omega⟩
    · have hje : j = 32 := by omega
      subst hje
      have hff2 : Calls Tryd.prog 31 #[v1, .int .i64 32] w1 fun e w' => e = .returned (.bool false) ∧ w' = w1 := by rw [← hfno]; exact hff
      have hlv := refLeaves_any ht1
      rw [h2] at hlv
      go_wp2_with first
        | (go_at_call 31; refine hff2.mono ?_; rintro e w' ⟨rfl, hw⟩; obtain rfl := hw.symm)
        | (go_at_call 23; refine hlv.mono ?_; rintro e w' ⟨rfl, hw⟩; obtain rfl := hw.symm)
      go_ret3
      exact ⟨rfl, on b0 b1⟩

end Go.Proofs.YtdnopkpoepdihaaDoor
