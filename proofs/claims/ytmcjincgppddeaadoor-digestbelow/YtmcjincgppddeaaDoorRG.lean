/-
  Resolutions, by the document: with a list of places still to go through · Resolutions, by the document: the walk.
-/
import Derived.Test.YtmcjincgppddeaaDoorRE
import Derived.Deep.LoopGhost
namespace Go.Proofs.YtmcjincgppddeaaDoor
open Go.RowKit 
set_option linter.unusedSimpArgs false
set_option linter.unusedVariables false

theorem resF_fuel {t : Tree} : ∀ (f f' : Nat) (y : Int), inB y (lv t) = true → lev y < f → lev y < f' → resF f t y = resF f' t y
  | 0, f', y, hy, h1, h2 => by have := lev_small (inB_lt hy).1 (inB_lt hy).2; omega
  | f + 1, 0, y, hy, h1, h2 => by have := lev_small (inB_lt hy).1 (inB_lt hy).2; omega
  | f + 1, f' + 1, y, hy, h1, h2 => by
    unfold resF
    split
    · rfl
    · split
      · rfl
      · rename_i hl
        obtain ⟨k1, k2, k3, k4⟩ := kids hy hl
        have e : halfN y = halfI y := rfl
        rw [e, resF_fuel f f' _ k1 (by omega) (by omega), resF_fuel f f' _ k2 (by omega) (by omega)]

def R (t : Tree) (y : Int) : List Int := resF 6 t y

theorem R_full {t : Tree} {k : Nat} (hf : (vx t k).full = true) : R t k = (k : Int) :: (vx t k).late.map (fun i => 2 * i) := by simp [R, resF, hf]

theorem R_leaf {t : Tree} {k : Nat} (hf : (vx t k).full = false) (hl : lev (k : Int) = 0) : R t k = [] := by simp [R, resF, hf, hl]

theorem R_par {t : Tree} {k : Nat} (hy : inB (k : Int) (lv t) = true) (hf : (vx t k).full = false) (hl : lev (k : Int) ≠ 0) : R t k = R t ((k : Int) - halfI k) ++ R t ((k : Int) + halfI k) := by
  obtain ⟨k1, k2, k3, k4⟩ := kids hy hl
  have hs := lev_small (inB_lt hy).1 (inB_lt hy).2
  have e : halfN (k : Int) = halfI k := rfl
  have : R t k = resF 5 t ((k : Int) - halfI k) ++ resF 5 t ((k : Int) + halfI k) := by
    simp [R, resF, hf, hl, e]
  rw [this, resF_fuel 5 6 _ k1 (by omega) (by omega), resF_fuel 5 6 _ k2 (by omega) (by omega)]
  rfl

def nod (y : Int) : Nat := 2 * 2 ^ (lev y).toNat - 1

theorem nod_pos (y : Int) : 1 ≤ nod y := by
  have : 0 < 2 ^ (lev y).toNat := Nat.pow_pos (by decide)
  unfold nod; omega

theorem nod_kids {y n : Int} (h : inB y n = true) (hl : lev y ≠ 0) : nod (y - halfI y) + nod (y + halfI y) + 1 = nod y := by
  have := forall_in (fun y n => lev y == 0 || nod (y - halfI y) + nod (y + halfI y) + 1 == nod y) (by decide +kernel) y n h
  simpa [hl] using this

def nods (S : List Int) : Nat := (S.map nod).sum

theorem half_width {y : Int} (h0 : 0 ≤ y) (h1 : y < 63) : (widthI y + 1) / 2 = (if lev y = 0 then 0 else halfI y) ∧ 0 ≤ widthI y ∧ widthI y ≤ 64 := by
  have := forall_lt 63 (fun y => decide ((widthI y + 1) / 2 = (if lev y = 0 then 0 else halfI y) ∧ 0 ≤ widthI y ∧ widthI y ≤ 64)) (by decide +kernel) y h0 h1
  simpa using this

theorem half_pos {y : Int} (h0 : 0 ≤ y) (h1 : y < 63) (hl : lev y ≠ 0) : 1 ≤ halfI y ∧ halfI y ≤ 16 := by
  have := forall_lt 63 (fun x => lev x == 0 || decide (1 ≤ halfI x ∧ halfI x ≤ 16)) (by decide +kernel) y h0 h1
  simpa [hl] using this

/-- The stack: all places, the deeper ones below the others. -/
structure Stk (t : Tree) (x : Int) (O S : List Int) (g : Nat) : Prop where
  res : R t x = O ++ (S.reverse.map (R t)).flatten
  place : ∀ y ∈ S, inB y (lv t) = true
  left : g = nods S
  small : S.length ≤ g

theorem stk_len {t : Tree} {x : Int} {O S : List Int} {g : Nat} (hf : Fit t) (h : Stk t x O S g) : O.length ≤ 2112 := by
  have h1 := resF_len hf 6 x
  have h2 : (R t x).length = O.length + ((S.reverse.map (R t)).flatten).length := by rw [h.res, List.length_append]
  unfold R at h2
  omega

theorem nods_snoc (S : List Int) (y : Int) : nods (S ++ [y]) = nods S + nod y := by simp [nods]

theorem nods_ge : ∀ S : List Int, S.length ≤ nods S
  | [] => by simp [nods]
  | y :: r => by
    have := nods_ge r
    have := nod_pos y
    simp [nods] at *
    omega

theorem Stk.pop_full {t : Tree} {x : Int} {O S : List Int} {g k : Nat} (h : Stk t x O (S ++ [(k : Int)]) g) (hf : (vx t k).full = true) : Stk t x (O ++ ((k : Int) :: (vx t k).late.map (fun i => 2 * i))) S (nods S) ∧ nods S < g := by
  have hp := nod_pos (k : Int)
  refine ⟨⟨?_, fun y hy => h.place y (by simp [hy]), rfl, nods_ge S⟩, by rw [h.left, nods_snoc]; omega⟩
  rw [h.res]
  simp [R_full hf]

theorem Stk.pop_leaf {t : Tree} {x : Int} {O S : List Int} {g k : Nat} (h : Stk t x O (S ++ [(k : Int)]) g) (hf : (vx t k).full = false) (hl : lev (k : Int) = 0) : Stk t x O S (nods S) ∧ nods S < g := by
  have hp := nod_pos (k : Int)
  refine ⟨⟨?_, fun y hy => h.place y (by simp [hy]), rfl, nods_ge S⟩, by rw [h.left, nods_snoc]; omega⟩
  rw [h.res]
  simp [R_leaf hf hl]

theorem Stk.pop_par {t : Tree} {x : Int} {O S : List Int} {g k : Nat} (h : Stk t x O (S ++ [(k : Int)]) g) (hf : (vx t k).full = false) (hl : lev (k : Int) ≠ 0) : Stk t x O (S ++ [(k : Int) + halfI k] ++ [(k : Int) - halfI k]) (nods (S ++ [(k : Int) + halfI k] ++ [(k : Int) - halfI k])) ∧ nods (S ++ [(k : Int) + halfI k] ++ [(k : Int) - halfI k]) < g := by
  have hin := h.place k (by simp)
  obtain ⟨k1, k2, _, _⟩ := kids hin hl
  have hk := nod_kids hin hl
  refine ⟨⟨?_, fun y hy => ?_, rfl, nods_ge _⟩, by rw [h.left, nods_snoc, nods_snoc, nods_snoc]; omega⟩
  · rw [h.res]
    simp [R_par hin hf hl]
  · simp only [List.mem_append, List.mem_singleton] at hy
    rcases hy with (hy | rfl) | rfl
    · exact h.place y (by simp [hy])
    · exact k2
    · exact k1

end Go.Proofs.YtmcjincgppddeaaDoor

namespace Go.Proofs.YtmcjincgppddeaaDoor
open Go.RowKit
set_option linter.unusedSimpArgs false
set_option linter.unusedVariables false

theorem own_form {B : Nat} {w : World} {v : Value} {l : List Int} (h : OwnI B w v l) (hne : 0 < l.length) : ∃ g cap, v = .slice (some ⟨g, 0, none⟩) l.length cap ∧ l.length ≤ cap := by
  rcases h.2 with ⟨_, h0⟩ | ⟨g, cap, cur, e, _, _, hn, _⟩
  · omega
  · exact ⟨g, cap, e, hn⟩

set_option maxRecDepth 100000 in
set_option maxHeartbeats 8000000 in
theorem refRes_in {t : Tree} (hf : Fit t) {v : Value} {w : World} (ht : TreeAt w v t) (x : Int) (hx : inB x (lv t) = true) :
    Calls Tryd.prog 50 #[v, .int .i64 x] w fun e w' => ∃ v', e = .returned v' ∧ OwnI w.heap.size w' v' (R t x) ∧ Below w.heap.size w w' := by
  obtain ⟨i0, hi, hz0, hz1, hz2⟩ := info_parts Tryd.infoI
  have hs := hf.sh
  have hbd := hs.bounds
  obtain ⟨kx, rfl, hkx⟩ := in_place hs hx
  obtain ⟨va, vcap, rfl, hvl, hvc⟩ := id ht
  have htl : (t.length : Int) ≤ 63 := by omega
  have ix : (kx : Int) < (t.length : Int) := by omega
  have b1 : Below w.heap.size w (w.alloc (.cells #[.int .i64 (kx : Int)] 3)) := (Below.refl _ _).alloc (Nat.le_refl _) _
  have oS : OwnI w.heap.size (w.alloc (.cells #[.int .i64 (kx : Int)] 3)) (.slice (some ⟨w.heap.size, 0, none⟩) 1 1) [(kx : Int)] := by simpa [OwnI] using World.ownsRow_lit w #[.int .i64 (kx : Int)] 1 (Nat.le_refl _) (by decide) (by simp)
  have hst0 : Stk t kx [] [(kx : Int)] (nods [(kx : Int)]) := ⟨by simp, fun y hy => by simp at hy; subst hy; exact hx, rfl, nods_ge _⟩
  have hn0 : nods [(kx : Int)] ≤ 63 := by
    have hb := inB_lt hx
    have := forall_lt 63 (fun y => decide (nod y ≤ 63)) (by decide +kernel) kx hb.1 hb.2
    simpa [nods] using this
  go_enter Tryd.func50, Tryd.ntmps50
  go_wp2_with fail
  go_loopg [5, 6] (nods [(kx : Int)]) (fun g o s wr => ∃ (O S : List Int), Hid (Stk t kx O S g) ∧ g ≤ 63 ∧ OwnI w.heap.size wr o O ∧ OwnI w.heap.size wr s S ∧ (∀ k, o.ownBlock = some k → s.ownBlock ≠ some k) ∧ Below w.heap.size w wr)
  case atStart => exact ⟨[], [(kx : Int)], hst0, hn0, World.ownsRow_nil _ _ _ _, oS, fun k hk => by simp [Value.ownBlock] at hk, b1⟩
  case round =>
    obtain ⟨O, S, HS, hg63, oO, oS2, hap, hB⟩ := hrel
    have hsz := hB.size
    have hOl := stk_len hf HS.out
    have hSl := HS.out.small
    rcases List.eq_nil_or_concat S with rfl | ⟨S', y, hSe⟩
    · have HR : Hid (OwnI w.heap.size wr u5 (R t kx)) := by
        have := HS.out.res
        simp at this
        rw [this]; exact oO
      obtain ⟨qa, qc, hq, _⟩ := ownsRow_ints oS2 (by simp)
      subst hq
      clear oO HS
      go_wp2_with fail
      go_ret
      exact ⟨_, rfl, HR.out, hB⟩
    · rw [List.concat_eq_append] at hSe
      subst hSe
      have hyin := HS.out.place y (by simp)
      obtain ⟨k, rfl, hk⟩ := in_place hs hyin
      obtain ⟨sg, scap, hse, hscap⟩ := own_form oS2 (by simp)
      have hSn : (S' ++ [(k : Int)]).length = S'.length + 1 := by simp
      rw [hSn] at hse hSl hscap
      subst hse
      have oS2' : wr.ownsRow w.heap.size 3 1 (.slice (some ⟨sg, 0, none⟩) (S'.length + 1) scap) (S'.length + 1) ((S' ++ [(k : Int)]).map (Value.int .i64)) := by rw [OwnI, hSn] at oS2; exact oS2
      have cy : wr.cell? ⟨sg, S'.length, none⟩ = some (.int .i64 (k : Int)) := by
        rw [oS2'.cellAt S'.length (by omega)]
        simp
      have oP : OwnI w.heap.size wr (.slice (some ⟨sg, 0, none⟩) S'.length scap) S' := by
        have := row_cut oS2' S'.length (by omega)
        simpa [OwnI] using this
      obtain ⟨b, off, cap2, hd, hve, hbl, hv⟩ := (ht.below hB).get (vx_some (t := t) hk)
      cases hve
      obtain ⟨c0, _, _, _, _, c5, hli⟩ := hv
      have hsm := hf.small k _ (vx_some hk)
      have ik : (k : Int) < (t.length : Int) := by omega
      have iS : ((S'.length : Int)) ≤ 63 := by omega
      have iSc : ((S'.length : Int)) + 1 ≤ (scap : Int) := by omega
      have hwid := width_any (k : Int) (by omega) (by omega) (w := wr)
      have hhw := half_width (y := (k : Int)) (by omega) (by omega)
      clear oS2 oS2'
      have hap' : ∀ q, u5.ownBlock = some q → (Value.slice (some ⟨sg, 0, none⟩) S'.length scap).ownBlock ≠ some q := fun q hq => hap q hq
      cases hfu : (vx t k).full with
      | true =>
        rw [hfu] at c0
        obtain ⟨hst, hlt⟩ := HS.out.pop_full hfu
        have HN : Hid (Stk t kx (O ++ ((k : Int) :: (vx t k).late.map (fun i => 2 * i))) S' (nods S') ∧ nods S' < gk) := ⟨hst, hlt⟩
        obtain ⟨L, hLe⟩ : ∃ L, (vx t k).late = L := ⟨_, rfl⟩
        rw [hLe] at hli hsm HN
        have hL32 := hsm.1
        have hLr := hsm.2.2
        have Hm1 : Hid (O.length + 1 ≤ maxLen) := by show _ ≤ maxLen; unfold maxLen; omega
        have Hm2 : Hid ((O.length + 1) * 8 ≤ 140737488355328) := by show _ ≤ _; omega
        have hp0 : w.heap.size ≤ (wr.alloc (.cells #[.int .i64 (k : Int)] 3)).heap.size := by simp; omega
        clear hst hlt HS hwid hhw
        go_wp2_with (refine wpList_append_own_at _ rfl (.tmp 40) (.tmp 42) 30 rfl w.heap.size 3 i0 (.int .i64 0) 1 8 Tryd.underlying30 hi hz0 hz1 hz2 rfl Nat.one_pos _ O.length _ rfl (World.ownsRow.alloc oO _) ⟨wr.heap.size, 0, none⟩ 1 1 [.int .i64 (k : Int)] rfl rfl (cell_one_new _ _ _) (one_int _) Hm1.out Hm2.out hp0 ?_; intro v7 w7 ho7 hg7 hnil7 hl7)
        have g7 : (wr.alloc (.cells #[.int .i64 (k : Int)] 3)).grownBy w7 u5.ownBlock := hg7
        have l7 : v7.ownBlock = u5.ownBlock ∨ v7.ownBlock = some (wr.alloc (.cells #[.int .i64 (k : Int)] 3)).heap.size := hl7
        have oP7 : OwnI w.heap.size w7 (.slice (some ⟨sg, 0, none⟩) S'.length scap) S' := World.ownsRow.kept (World.ownsRow.alloc oP _) g7 (apart_ne hap')
        have ap7 := apart_new hap' l7 (fun q hq => by have := (World.ownsRow.lt oP q hq).2; simp; omega)
        have B7 := (hB.alloc hsz (.cells #[.int .i64 (k : Int)] 3)).grown g7 hp0 (fun q hq => (World.ownsRow.lt oO q hq).1)
        have o7 : OwnI w.heap.size w7 v7 (O ++ (k : Int) :: (L.take 0).map (fun i => 2 * i)) := by simpa [OwnI] using ho7
        go_loopw [5, 8] (fun o q wx => ∃ m : Nat, m ≤ L.length ∧ q = .int .i64 m ∧ OwnI w.heap.size wx o (O ++ (k : Int) :: (L.take m).map (fun i => 2 * i)) ∧ OwnI w.heap.size wx (.slice (some ⟨sg, 0, none⟩) S'.length scap) S' ∧ (∀ q, o.ownBlock = some q → (Value.slice (some ⟨sg, 0, none⟩) S'.length scap).ownBlock ≠ some q) ∧ Below w.heap.size w wx) (fun _ q _ => L.length - (intOf q).toNat)
        case atStart => exact ⟨0, Nat.zero_le _, rfl, o7, oP7, ap7, B7⟩
        case round =>
          obtain ⟨m, hm, rfl, om, oPm, apm, hBm⟩ := hrel
          have hszm := hBm.size
          obtain ⟨b2, off2, cap3, hd2, hve2, hbl2, hv2⟩ := (ht.below hBm).get (vx_some (t := t) hk)
          cases hve2
          obtain ⟨_, _, _, _, _, c52, hli2⟩ := hv2
          rw [hLe] at hli2
          obtain ⟨la, lcap, hhd2, hll2, hlc2⟩ := hli2
          subst hhd2
          by_cases hlt : m < L.length
          · obtain ⟨z, hz⟩ : ∃ z, L[m]? = some z := ⟨L[m], by simp [hlt]⟩
            obtain ⟨lb, loff, rfl, hlbl, hlcell⟩ := hlc2 (by rintro rfl; simp at hz)
            have cz := hlcell m z hz
            have hzr := hLr z (List.mem_of_getElem? hz)
            have im : (m : Int) < (L.length : Int) := by omega
            have Hs : Hid (O ++ (k : Int) :: (L.take (m + 1)).map (fun i => 2 * i) = (O ++ (k : Int) :: (L.take m).map (fun i => 2 * i)) ++ [2 * z]) := by simp [Hid, List.take_add_one, hz]
            have hMl : (O ++ (k : Int) :: (L.take m).map (fun i => 2 * i)).length ≤ 2200 := by simp; omega
            obtain ⟨M, hM⟩ : ∃ M, O ++ (k : Int) :: (L.take m).map (fun i => 2 * i) = M := ⟨_, rfl⟩
            rw [hM] at om Hs hMl
            have Hn1 : Hid (M.length + 1 ≤ maxLen) := by show _ ≤ maxLen; unfold maxLen; omega
            have Hn2 : Hid ((M.length + 1) * 8 ≤ 140737488355328) := by show _ ≤ _; omega
            have hq0 : w.heap.size ≤ (wr.alloc (.cells #[.int .i64 (2 * z)] 3)).heap.size := by simp; omega
            clear hlcell hlc2 hz hM hMl
            go_wp2_with (refine wpList_append_own_at _ rfl (.tmp 54) (.tmp 64) 30 rfl w.heap.size 3 i0 (.int .i64 0) 1 8 Tryd.underlying30 hi hz0 hz1 hz2 rfl Nat.one_pos _ M.length _ rfl (World.ownsRow.alloc om _) ⟨wr.heap.size, 0, none⟩ 1 1 [.int .i64 (2 * z)] rfl rfl (cell_one_new _ _ _) (one_int _) Hn1.out Hn2.out hq0 ?_; intro v8 w8 ho8 hg8 hnil8 hl8)
            have g8 : (wr.alloc (.cells #[.int .i64 (2 * z)] 3)).grownBy w8 u5.ownBlock := hg8
            have l8 : v8.ownBlock = u5.ownBlock ∨ v8.ownBlock = some (wr.alloc (.cells #[.int .i64 (2 * z)] 3)).heap.size := hl8
            have oP8 : OwnI w.heap.size w8 (.slice (some ⟨sg, 0, none⟩) S'.length scap) S' := World.ownsRow.kept (World.ownsRow.alloc oPm _) g8 (apart_ne apm)
            have ap8 := apart_new apm l8 (fun q hq => by have := (World.ownsRow.lt oPm q hq).2; simp; omega)
            have B8 := (hBm.alloc hszm (.cells #[.int .i64 (2 * z)] 3)).grown g8 hq0 (fun q hq => (World.ownsRow.lt om q hq).1)
            go_roundw
            case rel => exact ⟨m + 1, by omega, by go_num, by rw [Hs.out]; simpa [OwnI] using ho8, oP8, ap8, B8⟩
            case measure => simp [intOf]; omega
          · have e : L.take m = L := List.take_of_length_le (by omega)
            rw [e] at om
            have im : ¬ ((m : Int) < (L.length : Int)) := by omega
            clear hlc2
            go_wp2_with fail
            go_roundg (nods S')
            case measure => exact HN.out.2
            case rel => exact ⟨_, S', HN.out.1, by have := HN.out.2; omega, om, oPm, apm, hBm⟩
      | false =>
        rw [hfu] at c0
        by_cases hl0 : lev (k : Int) = 0
        · obtain ⟨hst, hlt⟩ := HS.out.pop_leaf hfu hl0
          have HN : Hid (Stk t kx O S' (nods S') ∧ nods S' < gk) := ⟨hst, hlt⟩
          have hw0 : (widthI (k : Int) + 1) / 2 = 0 := by rw [hhw.1, if_pos hl0]
          have hw1 := hhw.2
          clear hst hlt HS hhw hl0
          go_wp2_with first
            | (go_at_call 58; refine hwid.mono ?_; rintro e w' ⟨rfl, hw⟩; obtain rfl := hw.symm)
            | rw [hw0]
          go_roundg (nods S')
          case measure => exact HN.out.2
          case rel => exact ⟨O, S', HN.out.1, by have := HN.out.2; omega, oO, oP, hap', hB⟩
        · obtain ⟨hst, hlt⟩ := HS.out.pop_par hfu hl0
          have hhp := half_pos (y := (k : Int)) (by omega) (by omega) hl0
          have hw0 : (widthI (k : Int) + 1) / 2 = halfI k := by rw [hhw.1, if_neg hl0]
          have hw1 := hhw.2
          obtain ⟨D, hD⟩ : ∃ D, halfI (k : Int) = D := ⟨_, rfl⟩
          rw [hD] at hst hlt hhp hw0
          have HN : Hid (Stk t kx O (S' ++ [(k : Int) + D] ++ [(k : Int) - D]) (nods (S' ++ [(k : Int) + D] ++ [(k : Int) - D])) ∧ nods (S' ++ [(k : Int) + D] ++ [(k : Int) - D]) < gk) := ⟨hst, hlt⟩
          have Hm1 : Hid (S'.length + 1 ≤ maxLen) := by show _ ≤ maxLen; unfold maxLen; omega
          have Hm2 : Hid ((S'.length + 1) * 8 ≤ 140737488355328) := by show _ ≤ _; omega
          have Hn1 : Hid ((S' ++ [(k : Int) + D]).length + 1 ≤ maxLen) := by show _ ≤ maxLen; unfold maxLen; simp; omega
          have Hn2 : Hid (((S' ++ [(k : Int) + D]).length + 1) * 8 ≤ 140737488355328) := by show _ ≤ _; simp; omega
          have hp0 : w.heap.size ≤ (wr.alloc (.cells #[.int .i64 ((k : Int) + D)] 3)).heap.size := by simp; omega
          clear hst hlt HS hhw hl0
          go_wp2_with first
            | (go_at_call 58; refine hwid.mono ?_; rintro e w' ⟨rfl, hw⟩; obtain rfl := hw.symm)
            | rw [hw0]
            | (refine wpList_append_own_at _ rfl (.tmp 72) (.tmp 76) 30 rfl w.heap.size 3 i0 (.int .i64 0) 1 8 Tryd.underlying30 hi hz0 hz1 hz2 rfl Nat.one_pos _ S'.length _ rfl (World.ownsRow.alloc oP _) ⟨wr.heap.size, 0, none⟩ 1 1 [.int .i64 ((k : Int) + D)] rfl rfl (cell_one_new _ _ _) (one_int _) Hm1.out Hm2.out hp0 ?_; intro v7 w7 ho7 hg7 hnil7 hl7; have g7 : (wr.alloc (.cells #[.int .i64 ((k : Int) + D)] 3)).grownBy w7 (some sg) := hg7; have l7 : v7.ownBlock = some sg ∨ v7.ownBlock = some (wr.alloc (.cells #[.int .i64 ((k : Int) + D)] 3)).heap.size := hl7; have o7 : OwnI w.heap.size w7 v7 (S' ++ [(k : Int) + D]) := (by simpa [OwnI] using ho7); have hp1 : w.heap.size ≤ (w7.alloc (.cells #[.int .i64 ((k : Int) - D)] 3)).heap.size := Nat.le_trans hp0 (Nat.le_trans g7.size (by simp)))
            | (refine wpList_append_own_at _ rfl (.tmp 78) (.tmp 82) 30 rfl w.heap.size 3 i0 (.int .i64 0) 1 8 Tryd.underlying30 hi hz0 hz1 hz2 rfl Nat.one_pos _ _ _ rfl (World.ownsRow.alloc o7 _) ⟨w7.heap.size, 0, none⟩ 1 1 [.int .i64 ((k : Int) - D)] rfl rfl (cell_one_new _ _ _) (one_int _) Hn1.out Hn2.out hp1 ?_; intro v8 w8 ho8 hg8 hnil8 hl8; have g8 : (w7.alloc (.cells #[.int .i64 ((k : Int) - D)] 3)).grownBy w8 v7.ownBlock := hg8; have l8 : v8.ownBlock = v7.ownBlock ∨ v8.ownBlock = some (w7.alloc (.cells #[.int .i64 ((k : Int) - D)] 3)).heap.size := hl8)
          have ap0 : ∀ q, (Value.slice (some ⟨sg, 0, none⟩) S'.length scap).ownBlock = some q → u5.ownBlock ≠ some q := apart_symm hap'
          have oO7 : OwnI w.heap.size w7 u5 O := World.ownsRow.kept (World.ownsRow.alloc oO _) g7 (apart_ne ap0)
          have ap7 : ∀ q, v7.ownBlock = some q → u5.ownBlock ≠ some q := apart_new ap0 l7 (fun q hq => by have := (World.ownsRow.lt oO q hq).2; simp; omega)
          have oO8 : OwnI w.heap.size w8 u5 O := World.ownsRow.kept (World.ownsRow.alloc oO7 _) g8 (apart_ne ap7)
          have ap8 : ∀ q, v8.ownBlock = some q → u5.ownBlock ≠ some q := apart_new ap7 l8 (fun q hq => by have := (World.ownsRow.lt oO7 q hq).2; simp; omega)
          have B7 := (hB.alloc hsz (.cells #[.int .i64 ((k : Int) + D)] 3)).grown g7 hp0 (fun q hq => (World.ownsRow.lt oP q hq).1)
          have B8 := (B7.alloc B7.size (.cells #[.int .i64 ((k : Int) - D)] 3)).grown g8 hp1 (fun q hq => (World.ownsRow.lt o7 q hq).1)
          have o8 : OwnI w.heap.size w8 v8 (S' ++ [(k : Int) + D] ++ [(k : Int) - D]) := by simpa [OwnI] using ho8
          go_roundg (nods (S' ++ [(k : Int) + D] ++ [(k : Int) - D]))
          case measure => exact HN.out.2
          case rel => exact ⟨O, _, HN.out.1, by have := HN.out.2; omega, oO8, o8, apart_symm ap8, B8⟩

set_option maxHeartbeats 1000000 in
theorem refRes_out {t : Tree} {v : Value} (x : Int) {w : World} (ht : TreeAt w v t) (hx : (decide (0 ≤ x) && decide (x < t.length)) = false) :
    Calls Tryd.prog 50 #[v, .int .i64 x] w fun e w' => e = .returned (.slice none 0 0) ∧ w' = w := by
  obtain ⟨a, cap, rfl, hl, _⟩ := ht
  by_cases h0 : x < 0
  · go_enter Tryd.func50, Tryd.ntmps50
    go_wp2_with fail
    go_ret
    exact ⟨rfl, rfl⟩
  · have h1 : (t.length : Int) ≤ x := by simp at hx; omega
    go_enter Tryd.func50, Tryd.ntmps50
    go_wp2_with fail
    go_ret
    exact ⟨rfl, rfl⟩

theorem refRes_any {t : Tree} (hf : Fit t) {v : Value} (x : Int) {w : World} (ht : TreeAt w v t) :
    Calls Tryd.prog 50 #[v, .int .i64 x] w fun e w' => ∃ v', e = .returned v' ∧ OwnI w.heap.size w' v' (resI t x) ∧ Below w.heap.size w w' := by
  cases hx : (decide (0 ≤ x) && decide (x < t.length)) with
  | true =>
    have hx2 := hx
    simp only [Bool.and_eq_true, decide_eq_true_eq] at hx2
    have hb := hf.sh.bounds
    have hin : inB x (lv t) = true := by simp [inB, hf.sh.1]; omega
    have := refRes_in hf ht x hin
    simpa [resI, hx, R] using this
  | false =>
    refine (refRes_out x ht hx).mono ?_
    rintro e w' ⟨rfl, rfl⟩
    exact ⟨_, rfl, by simp [resI, hx]; exact World.ownsRow_nil _ _ _ _, Below.refl _ _⟩

end Go.Proofs.YtmcjincgppddeaaDoor
