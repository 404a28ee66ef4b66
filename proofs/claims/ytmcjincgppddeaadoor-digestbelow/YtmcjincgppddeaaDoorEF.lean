/-
  Hash and Tree, by the program, where all numbers are terms.
-/
import Derived.Test.YtmcjincgppddeaaDoorEE
import Derived.BigGuardPart
namespace Go.Proofs.YtmcjincgppddeaaDoor
open Go.RowKit
set_option linter.unusedSimpArgs false
set_option linter.unusedVariables false

set_option maxRecDepth 100000 in
set_option maxHeartbeats 1000000 in
theorem isTerm_m {w : World} {s : Nat} {ns : List Nd} {dr : Int} (h : StoreAt w s ns dr) (t : Int) :
    Calls Tryd.prog 82 #[.pointer (some ⟨s, 0, none⟩), .int .i64 t] w fun e w' => e = .returned (.bool (hasB ns t)) ∧ Below w.heap.size w w' := by
  have hg := get_any h t
  obtain ⟨k, l, a, b, hn⟩ : ∃ k l a b, nodeF ns t = ⟨k, l, a, b⟩ := ⟨_, _, _, _, rfl⟩
  rw [hn] at hg
  clear hn
  unfold Nd.val at hg
  go_enter Tryd.func82, Tryd.ntmps82
  go_wp2_with fail
  refine hg.mono ?_
  rintro e w1 ⟨rfl, b1⟩
  go_wp2_with fail
  go_ret
  refine ⟨rfl, ?_⟩
  first | exact b1.alloc b1.size _ | exact (((((b1.alloc b1.size _).setCell (Nat.le_trans (by omega) b1.size) _).setCell (Nat.le_trans (by omega) b1.size) _).setCell (Nat.le_trans (by omega) b1.size) _).setCell (Nat.le_trans (by omega) b1.size) _)

set_option maxHeartbeats 1000000 in
theorem isTermOrNone_m {w : World} {s : Nat} {ns : List Nd} {dr : Int} (h : StoreAt w s ns dr) {g : Int → Tm} (t : Int) (ht : Has ns g t) :
    Calls Tryd.prog 90 #[.pointer (some ⟨s, 0, none⟩), .int .i64 t] w fun e w' => e = .returned (.bool true) ∧ Below w.heap.size w w' := by
  by_cases h0 : t = 0
  · have hb : (t == 0) = true := by simp [h0]
    clear ht h0
    go_enter Tryd.func90, Tryd.ntmps90
    go_wp2_with fail
    go_ret
    exact ⟨rfl, Below.refl _ _⟩
  · have hb : (t == 0) = false := by simp [h0]
    have hi := isTerm_m h t
    rw [(ht h0).has] at hi
    clear ht h0
    go_enter Tryd.func90, Tryd.ntmps90
    go_wp2_with (go_at_call 82; refine hi.mono ?_; rintro e w1 ⟨rfl, b1⟩)
    go_ret
    exact ⟨rfl, b1⟩

set_option maxRecDepth 100000 in
set_option maxHeartbeats 1000000 in
theorem hasTerms_m {w : World} {s : Nat} {ns : List Nd} {dr : Int} (h : StoreAt w s ns dr) {g : Int → Tm} {u : PV} {hd : Value} (hlt : IS w s hd u.late) (hk : Known ns g u) :
    Calls Tryd.prog 69 #[.pointer (some ⟨s, 0, none⟩), u.val hd] w fun e w' => e = .returned (.bool true) ∧ Below w.heap.size w w' := by
  obtain ⟨a, c, rfl, _⟩ := hlt
  obtain ⟨full, key, client, sig, hash, late⟩ := u
  obtain ⟨k1, k2, k3, _, _⟩ := hk
  simp only at k1 k2 k3
  unfold PV.val
  simp only
  have hb0 : Below w.heap.size w (w.alloc (.cells #[.bool full, .int .i64 key, .int .i64 client, .int .i64 sig, .int .i64 hash, .slice a late.length c] 47)) := (Below.refl _ _).alloc (Nat.le_refl _) _
  have hs0 := h.below hb0
  have c3 : (w.alloc (.cells #[.bool full, .int .i64 key, .int .i64 client, .int .i64 sig, .int .i64 hash, .slice a late.length c] 47)).cell? ⟨w.heap.size, 3, none⟩ = some (.int .i64 sig) := by go_simp
  have c4 : (w.alloc (.cells #[.bool full, .int .i64 key, .int .i64 client, .int .i64 sig, .int .i64 hash, .slice a late.length c] 47)).cell? ⟨w.heap.size, 4, none⟩ = some (.int .i64 hash) := by go_simp
  have c1 : (w.alloc (.cells #[.bool full, .int .i64 key, .int .i64 client, .int .i64 sig, .int .i64 hash, .slice a late.length c] 47)).cell? ⟨w.heap.size, 1, none⟩ = some (.int .i64 key) := by go_simp
  have hbl : w.heap.size < (w.alloc (.cells #[.bool full, .int .i64 key, .int .i64 client, .int .i64 sig, .int .i64 hash, .slice a late.length c] 47)).heap.size := by simp
  obtain ⟨W, hW⟩ : ∃ W, w.alloc (.cells #[.bool full, .int .i64 key, .int .i64 client, .int .i64 sig, .int .i64 hash, .slice a late.length c] 47) = W := ⟨_, rfl⟩
  rw [hW] at hb0 hs0 c1 c3 c4 hbl
  go_enter Tryd.func69, Tryd.ntmps69
  go_wp2_with (rw [hW])
  refine (isTermOrNone_m hs0 key k1).mono ?_
  rintro e w1 ⟨rfl, b1⟩
  have d3 := (b1.cell (p := ⟨w.heap.size, 3, none⟩) hbl).trans c3
  have d4 := (b1.cell (p := ⟨w.heap.size, 4, none⟩) hbl).trans c4
  have hs1 := hs0.below b1
  go_wp2_with fail
  refine (isTermOrNone_m hs1 sig k2).mono ?_
  rintro e w2 ⟨rfl, b2⟩
  have f4 := (b2.cell (p := ⟨w.heap.size, 4, none⟩) (Nat.lt_of_lt_of_le hbl b1.size)).trans d4
  have hs2 := hs1.below b2
  go_wp2_with fail
  refine (isTermOrNone_m hs2 hash k3).mono ?_
  rintro e w3 ⟨rfl, b3⟩
  go_wp2_with fail
  go_ret
  exact ⟨rfl, on hb0 (on b1 (on b2 b3)) ⟩

theorem under_in {x y n : Int} (h : underB x y n = true) : inB x n = true ∧ inB y n = true := by
  simp only [underB, Bool.and_eq_true] at h
  exact ⟨h.1.1, h.1.2⟩

set_option maxRecDepth 100000 in
set_option maxHeartbeats 4000000 in
theorem termsBelow_m {t : Tree} (hf : Fit t) {g : Int → Tm} {w : World} {s : Nat} {ns : List Nd} {dr : Int} {v : Value} (h : Seat w s ns dr) (ht : TS w s v t) (x : Int) (hk : ∀ z, underB z x (lv t) = true → Known ns g (vx t z.toNat)) :
    Calls Tryd.prog 40 #[.pointer (some ⟨s, 0, none⟩), v, .int .i64 x] w fun e w' => e = .returned (.bool true) ∧ Below w.heap.size w w' := by
  have hs := hf.sh
  have hbd := hs.bounds
  obtain ⟨va, vcap, rfl, htl, _⟩ := id ht.tree
  have q27 : ∀ (w : World) (a : Option Addr) (n c : Nat), (Builtin.len_ #[22] 3 #[.slice a n c]).run Tryd.prog w = .ok (goInt n) w := fun w a n c => run_len_slice w _ _ _ _ _ Tryd.underlying22
  have h2 := h.tab.size
  go_enter Tryd.func40, Tryd.ntmps40
  go_wp2_with (rw [q27])
  go_loopw [10] (fun k wr => ∃ y : Nat, y ≤ t.length ∧ k = .int .i64 y ∧ Below w.heap.size w wr) (fun k _ => t.length - (intOf k).toNat)
  case atStart => exact ⟨0, Nat.zero_le _, rfl, Below.refl _ _⟩
  case round =>
    obtain ⟨y, hy, rfl, hB⟩ := hrel
    have hT := h.tab.below hB h2
    have hst := h.st.below hB
    have htr := ht.below h.st.lt hB
    have hta := htr.tree
    by_cases hlt : y < t.length
    · have i1 : (y : Int) < (t.length : Int) := by omega
      have hget := vx_some (t := t) hlt
      have hun := Under_any (y : Int) x (lv t) hT
      cases hu : underB (y : Int) x (lv t) with
      | true =>
        rw [hu] at hun
        have hky := hk y hu
        simp only [Int.toNat_natCast] at hky
        obtain ⟨b, off, cap, hd, e1, hbl, hfr, hv, hlt2⟩ := htr.get hget
        cases e1
        obtain ⟨a1, n1, e2, _⟩ := id hlt2
        clear hu hk hget
        go_wp2_with first
          | (go_at_call 43; refine (Leaves_sh hta hs).mono ?_; rintro e w' ⟨rfl, hw⟩; obtain rfl := hw.symm)
        refine hun.mono ?_
        rintro e w1 ⟨rfl, b1⟩
        obtain ⟨c0, c1, c2, c3, c4, c5, _⟩ := hv.below hbl b1
        have hht := hasTerms_m (hst.below b1) (hlt2.below hst.lt b1) hky
        unfold PV.val at hht
        subst e2
        go_wp2_with fail
        refine hht.mono ?_
        rintro e w2 ⟨rfl, b2⟩
        go_wp2_with fail
        go_roundw
        case rel => exact ⟨y + 1, by omega, by go_num, hB.trans ((on b1 b2).mono hB.size)⟩
        case measure => simp [intOf]; omega
      | false =>
        rw [hu] at hun
        clear hu hk hget
        go_wp2_with first
          | (go_at_call 43; refine (Leaves_sh hta hs).mono ?_; rintro e w' ⟨rfl, hw⟩; obtain rfl := hw.symm)
          | (go_at_call 68; refine hun.mono ?_; rintro e w1 ⟨rfl, b1⟩)
        go_roundw
        case rel => exact ⟨y + 1, by omega, by go_num, hB.trans (b1.mono hB.size)⟩
        case measure => simp [intOf]; omega
    · have e : y = t.length := by omega
      clear hk
      go_wp2_with fail
      go_ret
      exact ⟨rfl, hB⟩

set_option maxHeartbeats 1000000 in
theorem dIsPlace_m {w : World} {v : Value} {t : Tree} (ht : TreeAt w v t) (hs : Sh t) (x : Int) (hx : x < 4611686018427387904) :
    Calls Tryd.prog 39 #[v, .int .i64 x] w fun e w' => e = .returned (.bool (inB x (lv t))) ∧ w' = w := by
  have hb := hs.bounds
  have h1 := hs.1
  have e : inB x (lv t) = (decide (0 ≤ x) && decide (x < 2 * (lv t : Int) - 1)) := by simp [inB, h1]
  rw [e]
  by_cases h0 : 0 ≤ x
  · go_enter Tryd.func39, Tryd.ntmps39
    go_wp2_with (go_at_call 43; refine (Leaves_sh ht hs).mono ?_; rintro e w' ⟨rfl, hw⟩; obtain rfl := hw.symm)
    all_goals go_ret
    all_goals exact ⟨by simp [*] <;> omega, rfl⟩
  · have h0' : decide (0 ≤ x) = false := by simpa using h0
    go_enter Tryd.func39, Tryd.ntmps39
    go_wp2_with (go_at_call 43; refine (Leaves_sh ht hs).mono ?_; rintro e w' ⟨rfl, hw⟩; obtain rfl := hw.symm)
    all_goals go_ret
    all_goals exact ⟨by simp [*] <;> omega, rfl⟩

set_option maxRecDepth 100000 in
set_option maxHeartbeats 1000000 in
theorem Hash_m {t : Tree} (hf : Fit t) {g : Int → Tm} {w : World} {s : Nat} {ns : List Nd} {dr : Int} {v : Value} (h : Seat w s ns dr) (ht : TS w s v t) (x : Int) (hx : inB x (lv t) = true) (hk : ∀ z, underB z x (lv t) = true → Known ns g (vx t z.toNat)) (hr : (ns.length : Int) + cst x + 300 < 262144) :
    Calls Tryd.prog 14 #[.pointer (some ⟨s, 0, none⟩), v, .int .i64 x] w fun e w' => ∃ t' ns', e = .returned (.int .i64 t') ∧ Run s w w' ns ns' dr (cst x) ∧ Means ns' t' (hashT g t 6 x) := by
  have hs := hf.sh
  have hxb := inB_lt hx
  have hp := dIsPlace_m ht.tree hs x (by omega)
  rw [hx] at hp
  have htb := termsBelow_m hf h ht x hk
  have hho := fun w1 (h1 : Seat w1 s ns dr) (t1 : TS w1 s v t) => hashOf_m hf (g := g) 6 x w1 ns h1 t1 hx (by have := lev_nn hx; omega) (fun z hz => hk z ((places_under (places_in 6 x hx (by have := lev_nn hx; omega) z hz) hx).1 hz)) hr
  clear hk hr
  go_enter Tryd.func14, Tryd.ntmps14
  go_wp2_with (first
    | (go_at_call 39; refine hp.mono ?_; rintro e w' ⟨rfl, hw⟩; obtain rfl := hw.symm)
    | (go_at_call 40; refine htb.mono ?_; rintro e w1 ⟨rfl, b1⟩))
  refine (hho _ (h.below b1) (ht.below h.st.lt b1)).mono ?_
  rintro e w2 ⟨t2, ns2, rfl, r2, m2⟩
  go_wp2_with fail
  go_ret
  exact ⟨t2, ns2, rfl, r2.ahead h b1, m2⟩

set_option maxHeartbeats 1000000 in
theorem Hash_no {t : Tree} (hs : Sh t) {w : World} {s : Nat} {v : Value} (ht : TreeAt w v t) (x : Int) (hxb : x < 4611686018427387904) (hx : inB x (lv t) = false) :
    Calls Tryd.prog 14 #[.pointer (some ⟨s, 0, none⟩), v, .int .i64 x] w fun e w' => e = .returned (.int .i64 0) ∧ w' = w := by
  have hp := dIsPlace_m ht hs x hxb
  rw [hx] at hp
  go_enter Tryd.func14, Tryd.ntmps14
  go_wp2_with (go_at_call 39; refine hp.mono ?_; rintro e w' ⟨rfl, hw⟩; obtain rfl := hw.symm)
  go_ret
  exact ⟨rfl, rfl⟩

set_option maxHeartbeats 1000000 in
theorem Root_right {n : Int} (h : rightB n = true) (w : World) :
    Calls Tryd.prog 42 #[.int .i64 n] w fun e w' => e = .returned (.tuple #[.int .i64 (n - 1), .int .i64 0]) ∧ w' = w := by
  go_enter Tryd.func42, Tryd.ntmps42
  go_wp2_with (first
    | (go_at_call 73; refine (right_any _ _).mono ?_; rintro e w' ⟨rfl, hw⟩; obtain rfl := hw.symm; rw [h])
    | (go_at_call 74; refine (root_right h _).mono ?_; rintro e w' ⟨rfl, hw⟩; obtain rfl := hw.symm))
  go_ret2
  exact ⟨rfl, rfl⟩

theorem cst_le {x n : Int} (h : inB x n = true) : cst x ≤ 2944 := by
  have := lev_nn h
  unfold cst
  have : 2 ^ (lev x).toNat ≤ 2 ^ 5 := Nat.pow_le_pow_right (by decide) (by omega)
  omega

set_option maxRecDepth 100000 in
set_option maxHeartbeats 1000000 in
theorem Tree_m {t : Tree} (hf : Fit t) {g : Int → Tm} {w : World} {s : Nat} {ns : List Nd} {dr : Int} {v : Value} (h : Seat w s ns dr) (ht : TS w s v t) (hk : ∀ z, inB z (lv t) = true → Known ns g (vx t z.toNat)) (hr : (ns.length : Int) + 3300 < 262144) :
    Calls Tryd.prog 15 #[.pointer (some ⟨s, 0, none⟩), v] w fun e w' => ∃ t' ns', e = .returned (.int .i64 t') ∧ Run s w w' ns ns' dr 2944 ∧ Means ns' t' (treeT g t) := by
  have hs := hf.sh
  have hx := root_in hs
  have hc := cst_le hx
  have hH := Hash_m hf h ht ((lv t : Int) - 1) hx (fun z hz => hk z (under_in hz).1) (by omega)
  have hR := Root_right hs.1
  have hta := ht.tree
  have hm : Hid (cst ((lv t : Int) - 1) ≤ 2944) := hc
  unfold treeT
  clear hk hr hc
  go_enter Tryd.func15, Tryd.ntmps15
  go_wp2_with (first
    | (go_at_call 43; refine (Leaves_sh hta hs).mono ?_; rintro e w' ⟨rfl, hw⟩; obtain rfl := hw.symm)
    | (go_at_call 42; refine (hR _).mono ?_; rintro e w' ⟨rfl, hw⟩; obtain rfl := hw.symm))
  refine hH.mono ?_
  rintro e w2 ⟨t2, ns2, rfl, r2, m2⟩
  go_wp2_with fail
  go_ret
  exact ⟨t2, ns2, rfl, r2.mono hm.out, m2⟩

end Go.Proofs.YtmcjincgppddeaaDoor
