/-
  A leaf whose filtered path is empty has the empty text for its parent hash; every other one is bound to the path's keys.
-/
import Derived.Test.YtmcjincgppddeaaDoorPD
import Derived.Test.YtmcjincgppddeaaDoorGT
import Derived.Deep.DrawnRows
import Derived.Shelf.RegionOpen
namespace Go.Proofs.YtmcjincgppddeaaDoor
open Go.RowKit
attribute [local go_sem] Go.wp_at_zero Go.wp_at_succ
set_option linter.unusedSimpArgs false
set_option linter.unusedVariables false

def upTo (n : Nat) : List Int := (List.range n).map (fun (k : Nat) => (k : Int) + 1)
theorem upTo_len (n : Nat) : (upTo n).length = n := by simp [upTo]
theorem upTo_snoc (n : Nat) : upTo (n + 1) = upTo n ++ [(n : Int) + 1] := by simp [upTo, List.range_succ]
theorem upTo_mem {n : Nat} {k : Int} (h : k ∈ upTo n) : 1 ≤ k ∧ k ≤ n := by
  simp only [upTo, List.mem_map, List.mem_range] at h
  obtain ⟨j, hj, rfl⟩ := h
  omega

theorem small_room (k : Nat) (h : k ≤ 6) : k + 1 ≤ maxLen ∧ (k + 1) * 8 ≤ 140737488355328 := ⟨by unfold maxLen; omega, by omega⟩

/-- A list that was made beside the stores. -/
theorem Two.list {w0 w w' : World} {s r : Nat} {ns ms : List Nd} {dn dm : Int} (h : Two w0 s r w ns dn ms dm) (hb : Below w.heap.size w w') {v : Value} {l : List Int} (ho : w'.ownsRow w.heap.size 3 1 v l.length (l.map (Value.int .i64))) : Own2 w.heap.size w' s v l.length (l.map (Value.int .i64)) :=
  ⟨ho, fun g e hk => by
    have h1 := (own_below1 h.seat.st.lt hb g).1 hk
    have := h.seat.st.own_lt h1
    have := (ho.lt g e).1
    omega⟩

set_option maxRecDepth 100000 in
set_option maxHeartbeats 3000000 in
theorem alone_law {w : World} {v : Value} {t : Tree} (h1 : TreeIn5 w v t) (i : Int) (hi : (Lit.int .i64 i).wf = true) (hT : Tab w ∧ Pow w) :
    Calls Tryd.prog 8 #[v, .int .i64 i] w fun e w' => e = .returned (.bool true) ∧ Below w.heap.size w w' := by
  obtain ⟨⟨ht, hlate⟩, hct⟩ := h1
  obtain ⟨va, vcap, rfl, _⟩ := id ht
  have Hct : Hid (∀ (x : Nat) (a : PV), t[x]? = some a → -9223372036854775808 ≤ a.client ∧ a.client ≤ 9223372036854775807) := hct
  clear hct hlate hi
  go_enter Tryd.func8, Tryd.ntmps8
  go_wp2_with fail
  refine (anchor_any hT).mono ?_
  rintro e w0 ⟨rfl, b0⟩
  have hT0 := Tabs.below hT b0
  have ht0 := ht.below b0
  go_wp2_with fail
  refine (rightN_m ht0 90).mono ?_
  rintro e w1 ⟨bt, rfl, hbt, b1⟩
  have hT1 := Tabs.below hT0 b1
  have ht1 := ht0.below b1
  have b01 := on b0 b1
  cases bt with
  | false =>
    go_wp2_with fail
    go_ret
    exact ⟨rfl, b01⟩
  | true =>
    have HT : Hid (Good t ∧ Rng t 90) := hbt rfl
    clear hbt
    have hff := refFull_any ht1 HT.out.1.sh i
    cases hfl : fullB t i with
    | false =>
      rw [hfl] at hff
      clear hfl
      go_wp2_with (go_at_call 23; refine hff.mono ?_; rintro e w' ⟨rfl, hw⟩; obtain rfl := hw.symm)
      go_ret
      exact ⟨rfl, b01⟩
    | true =>
      rw [hfl] at hff
      have hir := fullB_range hfl
      have Hi : Hid ((decide (0 ≤ i) && decide (i < (lv t : Int))) = true) := by show _ = _; simp; omega
      have hfp := filt_place HT.out.1.sh Hi.out
      clear hfl hir
      go_wp2_with (go_at_call 23; refine hff.mono ?_; rintro e w' ⟨rfl, hw⟩; obtain rfl := hw.symm)
      refine (stores_m hT1.1 hT1.2 90 (by decide)).mono ?_
      rintro e w3 ⟨s, r, rfl, hTw⟩
      have ht3 := ht1.below hTw.low
      have hFl := refFiltered_any HT.out.1.fit i ht3
      clear hff
      go_wp2_with fail
      refine hFl.mono ?_
      rintro e w4 ⟨v1, v2, rfl, o1, o2, b4⟩
      have HTw3 : Hid (Two w1 s r w3 (atoms 90) 90 (atoms 90) 90) := hTw
      have HTw4 : Hid (Two w1 s r w4 (atoms 90) 90 (atoms 90) 90) := hTw.below b4
      obtain ⟨pa, pc, rfl⟩ : ∃ pa pc, v1 = .slice pa (filt t i).length pc := by
        rcases o1.2 with ⟨rfl, e⟩ | ⟨g, cap, cur, rfl, _⟩
        · exact ⟨none, 0, by simp at e; simp [e]⟩
        · exact ⟨some ⟨g, 0, none⟩, cap, by simp⟩
      obtain ⟨ca, cc, rfl⟩ : ∃ ca cc, v2 = .slice ca (filt t i).length cc := by
        rcases o2.2 with ⟨rfl, e⟩ | ⟨g, cap, cur, rfl, _⟩
        · exact ⟨none, 0, by simp at e; simp [e]⟩
        · exact ⟨some ⟨g, 0, none⟩, cap, by simp⟩
      have Hn6 : Hid ((filt t i).length ≤ 6) := hfp.2
      obtain ⟨n, hn⟩ : ∃ n, (filt t i).length = n := ⟨_, rfl⟩
      have HN : Hid ((filt t i).length = n) := hn
      have Hn : Hid (n ≤ 6) := hn ▸ Hn6.out
      have h42 : 2 < w4.heap.size := HTw4.out.seat.tab.size
      rw [hn]
      clear hFl hTw o1 o2 b4 hfp hn Hn6
      obtain ⟨j0, hi0, hz0, hz1, hz2⟩ := info_parts Tryd.infoI
      go_wp2_with fail
      go_loopw [9, 38] (fun gv k wr => ∃ x : Nat, x ≤ n ∧ k = .int .i64 x ∧ Hid (wr.ownsRow w4.heap.size 3 1 gv (upTo x).length ((upTo x).map (Value.int .i64))) ∧ Hid (Below w4.heap.size w4 wr)) (fun _ k _ => n - (intOf k).toNat)
      case atStart => exact ⟨0, Nat.zero_le _, rfl, World.ownsRow_nil _ _ _ _, Below.refl _ _⟩
      case round =>
        obtain ⟨x, hx, rfl, HO, HB⟩ := hrel
        have hx6 : x ≤ 6 := Nat.le_trans hx Hn.out
        by_cases hlt : x < n
        · have i3 : (x : Int) < (n : Int) := by omega
          have hl1 : (upTo x).length = x := upTo_len x
          have Hm1 : Hid (x + 1 ≤ maxLen) := (small_room x hx6).1
          have Hm2 : Hid ((x + 1) * 8 ≤ 140737488355328) := (small_room x hx6).2
          have kw : IntKind.i64.wrap ((x : Int) + 1) = ((x + 1 : Nat) : Int) := by
            rw [show (x : Int) + 1 = ((x + 1 : Nat) : Int) by omega]; exact wrap_at (by omega) (by omega)
          have kw2 : IntKind.i64.wrap (1 + (x : Int)) = (x : Int) + 1 := by
            rw [show 1 + (x : Int) = (x : Int) + 1 by omega]; exact wrap_at (by omega) (by omega)
          have o6 : ∀ o, (wr.alloc o).ownsRow w4.heap.size 3 1 u9 x ((upTo x).map (Value.int .i64)) := fun o => by
            have := HO.out
            rw [hl1] at this
            exact this.alloc o
          have hsz : ∀ o, w4.heap.size ≤ (wr.alloc o).heap.size := fun o => by
            have h1 := HB.out.size
            simp; omega
          clear hl1
          go_wp2_with (first
            | (refine wpList_append_own_at _ rfl (.tmp 41) (.tmp 44) 30 rfl w4.heap.size 3 j0 (.int .i64 0) 1 8 Tryd.underlying30 hi0 hz0 hz1 hz2 rfl Nat.one_pos _ x _ rfl (o6 _) ⟨wr.heap.size, 0, none⟩ 1 1 [.int .i64 ((x : Int) + 1)] rfl rfl (cell_one_new _ _ _) (one_int _) Hm1.out Hm2.out (hsz _) ?_; intro v7 w7 ho hg hnil hl; skip)
            | fail)
          have hg7 : Hid (Below w4.heap.size w4 w7) := (HB.out.alloc HB.out.size _).grown hg (hsz _) (fun g e => ((o6 (.cells #[.int .i64 ((x : Int) + 1)] 3)).lt g e).1)
          have HO7 : Hid (w7.ownsRow w4.heap.size 3 1 v7 (upTo (x + 1)).length ((upTo (x + 1)).map (Value.int .i64))) := by
            show World.ownsRow _ _ _ _ _ _ _
            rw [upTo_len, upTo_snoc, List.map_append]
            exact ho
          clear ho hg hl hnil
          go_roundw
          case rel => exact ⟨x + 1, by omega, by simp, HO7, hg7⟩
          case measure => simp [intOf]; omega
        · have e : x = n := by omega
          subst e
          have hd : ¬ ((x : Int) < (x : Int)) := by omega
          have hTw5 := HTw4.out.below HB.out
          have hO2 := HTw4.out.list HB.out HO.out
          have hIS := hO2.ints (by rw [upTo_len]; omega)
          obtain ⟨sl, c, rfl⟩ : ∃ sl c, u9 = .slice sl x c := by
            rcases HO.out.2 with ⟨rfl, e⟩ | ⟨g, cap, cur, rfl, _⟩
            · rw [upTo_len] at e; exact ⟨none, 0, by rw [e]⟩
            · exact ⟨_, cap, by rw [upTo_len]⟩
          have hPy := (callsIn_wide (n := 5)).1 (parents_yes HT.out.1.fit (g := Tm.atom) hTw5.seat (hTw5.tree ht1) Hi.out hIS (by rw [upTo_len, HN.out]) (by rw [upTo_len]; exact hx6) (fun k hk => by
            have := upTo_mem hk
            exact atoms_means (by omega) (by omega)) (known_all HT.out.1 HT.out.2 Hct.out (List.prefix_refl _)) (by rw [atoms_length]; decide))
          clear hlt hx hIS hO2
          go_wp2_with fail
          refine hPy.mono ?_
          rintro e w8 ⟨vh, l, ns8, hs, rfl, r8, o8, m8, ml⟩
          have hL : (chainL Tm.atom t (upTo x) ((filt t i).map (·.2))).length = x := by rw [chainL_len, upTo_len]
          have hlen : hs.length = x := by rw [m8.len, chainT_len, hL]
          have hTw8 := hTw5.run r8
          have hns8 := r8.st.len
          rw [atoms_length] at hns8
          have q2 : (l != 0) = true := by have := ml.pos; simp; omega
          obtain ⟨hsl, hc, rfl⟩ : ∃ hsl hc, vh = .slice hsl x hc := by
            rcases o8.own.2 with ⟨rfl, e⟩ | ⟨g, cap, cur, rfl, _⟩
            · rw [hlen] at e; exact ⟨none, 0, by rw [e]⟩
            · exact ⟨some ⟨g, 0, none⟩, cap, by rw [hlen]⟩
          have q1 : ((x : Int) == (x : Int)) = true := by simp
          have hTd := hTw8.below ((Below.refl _ _).drew)
          have hlow := on b01 hTw8.low
          clear hPy
          by_cases hx0 : x = 0
          · subst hx0
            have e0 : chainL Tm.atom t (upTo 0) ((filt t i).map (·.2)) = [] := List.eq_nil_of_length_eq_zero hL
            rw [e0] at ml
            have htx := text_m hTd.seat ⟨#[]⟩ (by decide) (by omega)
            clear m8 e0
            go_wp2_with fail
            refine wp_region_held_drew (S := fun _ => True) (by kernel_rfl) trivial (fun hS => ?_)
            refine wpAnyH_take (i := 0) (oi := _) (v := .slice hsl 0 hc) rfl (by kernel_rfl) (by kernel_rfl) (by kernel_rfl) (fun _ _ _ h => h) (Or.inl ⟨by kernel_rfl, fun w' hw' => by
              try dsimp only at hw'
              go_simp⟩) hS ?_
            try simp only [Act.put, List.setIfInBounds_toArray, List.set_cons_zero, List.set_cons_succ]
            refine wpAnyH_take (i := 1) (oi := _) (v := .int .i64 0) rfl (by kernel_rfl) (by kernel_rfl) (by kernel_rfl) (fun _ _ _ h => h) (Or.inl ⟨by kernel_rfl, fun w' hw' => by
              try dsimp only at hw'
              go_simp⟩) hS ?_
            try simp only [Act.put, List.setIfInBounds_toArray, List.set_cons_zero, List.set_cons_succ]
            refine wpAnyH_take (i := 2) (oi := _) (v := .slice pa 0 pc) rfl (by kernel_rfl) (by kernel_rfl) (by kernel_rfl) (fun _ _ _ h => h) (Or.inl ⟨by kernel_rfl, fun w' hw' => by
              try dsimp only at hw'
              go_simp⟩) hS ?_
            try simp only [Act.put, List.setIfInBounds_toArray, List.set_cons_zero, List.set_cons_succ]
            refine wpAnyH_take (i := 3) (oi := _) (v := .int .i64 0) rfl (by kernel_rfl) (by kernel_rfl) (by kernel_rfl) (fun _ _ _ h => h) (Or.inl ⟨by kernel_rfl, fun w' hw' => by
              try dsimp only at hw'
              go_simp⟩) hS ?_
            try simp only [Act.put, List.setIfInBounds_toArray, List.set_cons_zero, List.set_cons_succ]
            refine wpAnyH_take (i := 4) (oi := _) (v := .bool true) rfl (by kernel_rfl) (by kernel_rfl) (by kernel_rfl) (fun _ _ _ h => h) (Or.inl ⟨by kernel_rfl, fun w' hw' => by
              try dsimp only at hw'
              go_simp⟩) hS ?_
            try simp only [Act.put, List.setIfInBounds_toArray, List.set_cons_zero, List.set_cons_succ]
            refine wpAnyH_take (i := 5) (oi := _) (v := .bool true) rfl (by kernel_rfl) (by kernel_rfl) (by kernel_rfl) (fun _ _ _ h => h) (Or.inl ⟨by kernel_rfl, fun w' hw' => by
              try dsimp only at hw'
              go_simp⟩) hS ?_
            try simp only [Act.put, List.setIfInBounds_toArray, List.set_cons_zero, List.set_cons_succ]
            refine wpAnyH_take (i := 6) (oi := _) (v := .int .i64 l) rfl (by kernel_rfl) (by kernel_rfl) (by kernel_rfl) (fun _ _ _ h => h) (Or.inl ⟨by kernel_rfl, fun w' hw' => by
              try dsimp only at hw'
              go_simp⟩) hS ?_
            try simp only [Act.put, List.setIfInBounds_toArray, List.set_cons_zero, List.set_cons_succ]
            refine wpAnyH_take (i := 7) (oi := _) (v := .bool true) rfl (by kernel_rfl) (by kernel_rfl) (by kernel_rfl) (fun _ _ _ h => h) (Or.inl ⟨by kernel_rfl, fun w' hw' => by
              try dsimp only at hw'
              go_simp⟩) hS ?_
            try simp only [Act.put, List.setIfInBounds_toArray, List.set_cons_zero, List.set_cons_succ]
            refine wpAnyH_take (i := 8) (oi := _) (v := .bool true) rfl (by kernel_rfl) (by kernel_rfl) (by kernel_rfl) (fun _ _ _ h => h) (Or.inl ⟨by kernel_rfl, fun w' hw' => by
              try dsimp only at hw'
              go_simp⟩) hS ?_
            try simp only [Act.put, List.setIfInBounds_toArray, List.set_cons_zero, List.set_cons_succ]
            refine wpAnyH_take (i := 9) (oi := _) (v := .bool true) rfl (by kernel_rfl) (by kernel_rfl) (by kernel_rfl) (fun _ _ _ h => h) (Or.inl ⟨by kernel_rfl, fun w' hw' => by
              try dsimp only at hw'
              go_simp⟩) hS ?_
            try simp only [Act.put, List.setIfInBounds_toArray, List.set_cons_zero, List.set_cons_succ]
            refine wpAnyH_take (i := 10) (oi := _) (v := .int .i64 l) rfl (by kernel_rfl) (by kernel_rfl) (by kernel_rfl) (fun _ _ _ h => h) (Or.inl ⟨by kernel_rfl, fun w' hw' => by
              try dsimp only at hw'
              go_simp⟩) hS ?_
            try simp only [Act.put, List.setIfInBounds_toArray, List.set_cons_zero, List.set_cons_succ]
            refine wpAnyH_take (i := 11) (oi := _) (v := .pointer (some ⟨s, 0, none⟩)) rfl (by kernel_rfl) (by kernel_rfl) (by kernel_rfl) (fun _ _ _ h => h) (Or.inl ⟨by kernel_rfl, fun w' hw' => by
              try dsimp only at hw'
              go_simp⟩) hS ?_
            try simp only [Act.put, List.setIfInBounds_toArray, List.set_cons_zero, List.set_cons_succ]
            refine wpAnyH_take (i := 14) (oi := _) (v := .slice pa 0 pc) rfl (by kernel_rfl) (by kernel_rfl) (by kernel_rfl) (fun _ _ _ h => h) (Or.inl ⟨by kernel_rfl, fun w' hw' => by
              try dsimp only at hw'
              go_simp⟩) hS ?_
            try simp only [Act.put, List.setIfInBounds_toArray, List.set_cons_zero, List.set_cons_succ]
            refine wpAnyH_take (i := 15) (oi := _) (v := .int .i64 0) rfl (by kernel_rfl) (by kernel_rfl) (by kernel_rfl) (fun _ _ _ h => h) (Or.inl ⟨by kernel_rfl, fun w' hw' => by
              try dsimp only at hw'
              go_simp⟩) hS ?_
            try simp only [Act.put, List.setIfInBounds_toArray, List.set_cons_zero, List.set_cons_succ]
            refine wpAnyH_take (i := 16) (oi := _) (v := .bool true) rfl (by kernel_rfl) (by kernel_rfl) (by kernel_rfl) (fun _ _ _ h => h) (Or.inl ⟨by kernel_rfl, fun w' hw' => by
              try dsimp only at hw'
              go_simp⟩) hS ?_
            try simp only [Act.put, List.setIfInBounds_toArray, List.set_cons_zero, List.set_cons_succ]
            refine wpAnyH_ready (rs := [12]) (by kernel_rfl) (by simp) ?_
            refine AllReadyH.cons (o := _) rfl (fun K hK => ?_) AllReadyH.nil
            go_simp
            go_at_call 30
            refine htx.mono ?_
            rintro e w9 ⟨t1, ns9, rfl, r9, m9⟩
            have q3 : (l == t1) = true := by
              have e1 := (ml.keeps r9.st.pre).inj r9.seat.wf m9
              simp [e1]
            have hTw9 := hTd.run r9
            try go_simp
            refine hK.out _ _ trivial (fun hS => ?_)
            clear hK K
            try simp only [Act.put, List.setIfInBounds_toArray, List.set_cons_zero, List.set_cons_succ]
            refine wpAnyH_take (i := 13) (oi := _) (v := .bool true) rfl (by kernel_rfl) (by kernel_rfl) (by kernel_rfl) (fun _ _ _ h => h) (Or.inl ⟨by kernel_rfl, fun w' hw' => by
              try dsimp only at hw'
              go_simp⟩) hS ?_
            try simp only [Act.put, List.setIfInBounds_toArray, List.set_cons_zero, List.set_cons_succ]
            refine wpAnyH_take (i := 17) (oi := _) (v := .bool true) rfl (by kernel_rfl) (by kernel_rfl) (by kernel_rfl) (fun _ _ _ h => h) (Or.inl ⟨by kernel_rfl, fun w' hw' => by
              try dsimp only at hw'
              go_simp⟩) hS ?_
            try simp only [Act.put, List.setIfInBounds_toArray, List.set_cons_zero, List.set_cons_succ]
            refine wpAnyH_take (i := 18) (oi := _) (v := .bool true) rfl (by kernel_rfl) (by kernel_rfl) (by kernel_rfl) (fun _ _ _ h => h) (Or.inl ⟨by kernel_rfl, fun w' hw' => by
              try dsimp only at hw'
              go_simp⟩) hS ?_
            try simp only [Act.put, List.setIfInBounds_toArray, List.set_cons_zero, List.set_cons_succ]
            refine wpAnyH_take (i := 19) (oi := _) (v := .bool true) rfl (by kernel_rfl) (by kernel_rfl) (by kernel_rfl) (fun _ _ _ h => h) (Or.inl ⟨by kernel_rfl, fun w' hw' => by
              try dsimp only at hw'
              go_simp⟩) hS ?_
            try simp only [Act.put, List.setIfInBounds_toArray, List.set_cons_zero, List.set_cons_succ]
            refine wpAnyH_take (i := 20) (oi := _) (v := .slice hsl 0 hc) rfl (by kernel_rfl) (by kernel_rfl) (by kernel_rfl) (fun _ _ _ h => h) (Or.inl ⟨by kernel_rfl, fun w' hw' => by
              try dsimp only at hw'
              go_simp⟩) hS ?_
            try simp only [Act.put, List.setIfInBounds_toArray, List.set_cons_zero, List.set_cons_succ]
            refine wpAnyH_take (i := 21) (oi := _) (v := .int .i64 0) rfl (by kernel_rfl) (by kernel_rfl) (by kernel_rfl) (fun _ _ _ h => h) (Or.inl ⟨by kernel_rfl, fun w' hw' => by
              try dsimp only at hw'
              go_simp⟩) hS ?_
            try simp only [Act.put, List.setIfInBounds_toArray, List.set_cons_zero, List.set_cons_succ]
            refine wpAnyH_take (i := 22) (oi := _) (v := .bool true) rfl (by kernel_rfl) (by kernel_rfl) (by kernel_rfl) (fun _ _ _ h => h) (Or.inl ⟨by kernel_rfl, fun w' hw' => by
              try dsimp only at hw'
              go_simp⟩) hS ?_
            try simp only [Act.put, List.setIfInBounds_toArray, List.set_cons_zero, List.set_cons_succ]
            refine wpAnyH_take (i := 23) (oi := _) (v := .bool true) rfl (by kernel_rfl) (by kernel_rfl) (by kernel_rfl) (fun _ _ _ h => h) (Or.inl ⟨by kernel_rfl, fun w' hw' => by
              try dsimp only at hw'
              go_simp⟩) hS ?_
            try simp only [Act.put, List.setIfInBounds_toArray, List.set_cons_zero, List.set_cons_succ]
            refine wpAnyH_take (i := 24) (oi := _) (v := undef) rfl (by kernel_rfl) (by kernel_rfl) (by kernel_rfl) (fun _ _ _ h => h) (Or.inr ⟨by kernel_rfl, rfl⟩) hS ?_
            try simp only [Act.put, List.setIfInBounds_toArray, List.set_cons_zero, List.set_cons_succ]
            refine wpAnyH_take (i := 25) (oi := _) (v := undef) rfl (by kernel_rfl) (by kernel_rfl) (by kernel_rfl) (fun _ _ _ h => h) (Or.inr ⟨by kernel_rfl, rfl⟩) hS ?_
            try simp only [Act.put, List.setIfInBounds_toArray, List.set_cons_zero, List.set_cons_succ]
            refine wpAnyH_take (i := 26) (oi := _) (v := undef) rfl (by kernel_rfl) (by kernel_rfl) (by kernel_rfl) (fun _ _ _ h => h) (Or.inr ⟨by kernel_rfl, rfl⟩) hS ?_
            try simp only [Act.put, List.setIfInBounds_toArray, List.set_cons_zero, List.set_cons_succ]
            refine wpAnyH_take (i := 27) (oi := _) (v := undef) rfl (by kernel_rfl) (by kernel_rfl) (by kernel_rfl) (fun _ _ _ h => h) (Or.inr ⟨by kernel_rfl, rfl⟩) hS ?_
            try simp only [Act.put, List.setIfInBounds_toArray, List.set_cons_zero, List.set_cons_succ]
            refine wpAnyH_take (i := 28) (oi := _) (v := undef) rfl (by kernel_rfl) (by kernel_rfl) (by kernel_rfl) (fun _ _ _ h => h) (Or.inr ⟨by kernel_rfl, rfl⟩) hS ?_
            try simp only [Act.put, List.setIfInBounds_toArray, List.set_cons_zero, List.set_cons_succ]
            refine wpAnyH_take (i := 29) (oi := _) (v := undef) rfl (by kernel_rfl) (by kernel_rfl) (by kernel_rfl) (fun _ _ _ h => h) (Or.inr ⟨by kernel_rfl, rfl⟩) hS ?_
            try simp only [Act.put, List.setIfInBounds_toArray, List.set_cons_zero, List.set_cons_succ]
            refine wpAnyH_take (i := 30) (oi := _) (v := undef) rfl (by kernel_rfl) (by kernel_rfl) (by kernel_rfl) (fun _ _ _ h => h) (Or.inr ⟨by kernel_rfl, rfl⟩) hS ?_
            try simp only [Act.put, List.setIfInBounds_toArray, List.set_cons_zero, List.set_cons_succ]
            refine wpAnyH_take (i := 31) (oi := _) (v := undef) rfl (by kernel_rfl) (by kernel_rfl) (by kernel_rfl) (fun _ _ _ h => h) (Or.inr ⟨by kernel_rfl, rfl⟩) hS ?_
            try simp only [Act.put, List.setIfInBounds_toArray, List.set_cons_zero, List.set_cons_succ]
            refine wpAnyH_take (i := 32) (oi := _) (v := undef) rfl (by kernel_rfl) (by kernel_rfl) (by kernel_rfl) (fun _ _ _ h => h) (Or.inr ⟨by kernel_rfl, rfl⟩) hS ?_
            try simp only [Act.put, List.setIfInBounds_toArray, List.set_cons_zero, List.set_cons_succ]
            refine wpAnyH_take (i := 33) (oi := _) (v := .bool true) rfl (by kernel_rfl) (by kernel_rfl) (by kernel_rfl) (fun _ _ _ h => h) (Or.inl ⟨by kernel_rfl, fun w' hw' => by
              try dsimp only at hw'
              go_simp⟩) hS ?_
            try simp only [Act.put, List.setIfInBounds_toArray, List.set_cons_zero, List.set_cons_succ]
            refine wpAnyH_take (i := 34) (oi := _) (v := .bool true) rfl (by kernel_rfl) (by kernel_rfl) (by kernel_rfl) (fun _ _ _ h => h) (Or.inl ⟨by kernel_rfl, fun w' hw' => by
              try dsimp only at hw'
              go_simp⟩) hS ?_
            try simp only [Act.put, List.setIfInBounds_toArray, List.set_cons_zero, List.set_cons_succ]
            refine wpAnyH_take (i := 35) (oi := _) (v := .bool true) rfl (by kernel_rfl) (by kernel_rfl) (by kernel_rfl) (fun _ _ _ h => h) (Or.inl ⟨by kernel_rfl, fun w' hw' => by
              try dsimp only at hw'
              go_simp⟩) hS ?_
            try simp only [Act.put, List.setIfInBounds_toArray, List.set_cons_zero, List.set_cons_succ]
            refine wpAnyH_done (by kernel_rfl) ?_ _
            go_wp2
            go_ret
            refine ⟨?_, on b01 hTw9.low⟩
            rename_i o1 d1 e1 o2 d2 e2
            have k1 : 4 = d1 := Option.some.inj (show some 4 = some d1 from e1)
            have k2 : 89 = d2 := Option.some.inj (show some 89 = some d2 from e2)
            subst k1
            subst k2
            simp
          · obtain ⟨m, hm⟩ : ∃ m : Nat, x = m + 1 := ⟨x - 1, by omega⟩
            have hnl : ∃ p r, chainL Tm.atom t (upTo x) ((filt t i).map (·.2)) = p :: r := by
              cases hc : chainL Tm.atom t (upTo x) ((filt t i).map (·.2)) with
              | nil => rw [hc] at hL; simp at hL; omega
              | cons p r => exact ⟨p, r, rfl⟩
            obtain ⟨y, hy⟩ : ∃ y, hs[m]? = some y := ⟨hs[m]'(by omega), by simp⟩
            have my : Means ns8 y (.text ⟨#[]⟩) := by
              obtain ⟨Y, h1, h2⟩ := m8.get m y hy
              rw [chainT_get _ m (by omega), List.drop_eq_nil_of_le (by omega)] at h1
              cases h1
              exact h2
            have hne : ∀ T, Means ns8 l T → T ≠ .text ⟨#[]⟩ := fun T hT e => by
              subst e
              obtain ⟨⟨k1, c1⟩, r', e⟩ := hnl
              rw [e] at ml
              have := ml.one hT
              simp [chainT] at this
            obtain ⟨g, hg⟩ : ∃ g, hsl = some ⟨g, 0, none⟩ := by
              rcases o8.own.2 with ⟨e, e2⟩ | ⟨g, cap, cur, e, _⟩
              · omega
              · simp only [Value.slice.injEq] at e
                exact ⟨g, e.1⟩
            subst hg
            have hcell : ∀ W, Own2 wr.heap.size W s (.slice (some ⟨g, 0, none⟩) x hc) hs.length (hs.map (Value.int .i64)) → W.cell? ⟨g, m, none⟩ = some (.int .i64 y) := fun W hW => by
              have h1 := hW.own
              rw [hlen] at h1
              have h2 := h1.cellAt m (by simp; omega)
              rw [h2]
              simp [hy]
            have od := o8.moved (.ofBelow hTw8.seat.st.lt ((Below.refl _ _).drew))
            have s0 : w8.drew.cell? ⟨g, m, none⟩ = some (.int .i64 y) := hcell _ od
            have q4 : ((x : Int) == 0) = false := by simp; omega
            have kw : IntKind.i64.wrap ((x : Int) - 1) = (m : Int) := by
              rw [show (x : Int) - 1 = (m : Int) by omega]; exact wrap_at (by omega) (by omega)
            have i0 : (0 : Int) ≤ (m : Int) := by omega
            have i1 : (m : Int) < (x : Int) := by omega
            have htx := text_m hTd.seat ⟨#[]⟩ (by decide) (by omega)
            have hy1 : ∀ ns', ns8 <+: ns' → Wf ns' → ∀ t1, Means ns' t1 (.text ⟨#[]⟩) → (y == t1) = true := fun ns' hp hw t1 h1 => by
              have e1 := (my.keeps hp).inj hw h1
              simp [e1]
            have hl1 : ∀ ns', ns8 <+: ns' → ∀ t1, Means ns' t1 (.text ⟨#[]⟩) → (l == t1) = false := fun ns' hp t1 h1 => by
              rw [beq_eq_false_iff_ne]
              rintro rfl
              have h2 := (ml.keeps hp).one h1
              exact hne _ ml h2
            have h17 : ns8.length ≤ 20090 := by omega
            have Hy1 : Hid (∀ ns', ns8 <+: ns' → Wf ns' → ∀ t1, Means ns' t1 (.text ⟨#[]⟩) → (y == t1) = true) := hy1
            have Hl1 : Hid (∀ ns', ns8 <+: ns' → ∀ t1, Means ns' t1 (.text ⟨#[]⟩) → (l == t1) = false) := hl1
            have Hcell : Hid (∀ W, Own2 wr.heap.size W s (.slice (some ⟨g, 0, none⟩) x hc) hs.length (hs.map (Value.int .i64)) → W.cell? ⟨g, m, none⟩ = some (.int .i64 y)) := hcell
            have Hod : Hid (Own2 wr.heap.size w8.drew s (.slice (some ⟨g, 0, none⟩) x hc) hs.length (hs.map (Value.int .i64))) := od
            have Hlen : Hid (ns8.length ≤ 20090) := h17
            clear m8 ml hm hnl my hne hcell od hy1 hl1 h17 hx0 hlen hy hns8
            go_wp2_with fail
            refine wp_region_held_drew (S := fun w' => w'.cell? ⟨g, m, none⟩ = some (.int .i64 y)) (by kernel_rfl) s0 (fun hS => ?_)
            refine wpAnyH_take (i := 0) (oi := _) (v := .slice (some ⟨g, 0, none⟩) x hc) rfl (by kernel_rfl) (by kernel_rfl) (by kernel_rfl) (fun _ _ _ h => h) (Or.inl ⟨by kernel_rfl, fun w' hw' => by
              try dsimp only at hw'
              go_simp⟩) hS ?_
            try simp only [Act.put, List.setIfInBounds_toArray, List.set_cons_zero, List.set_cons_succ]
            refine wpAnyH_take (i := 1) (oi := _) (v := .int .i64 x) rfl (by kernel_rfl) (by kernel_rfl) (by kernel_rfl) (fun _ _ _ h => h) (Or.inl ⟨by kernel_rfl, fun w' hw' => by
              try dsimp only at hw'
              go_simp⟩) hS ?_
            try simp only [Act.put, List.setIfInBounds_toArray, List.set_cons_zero, List.set_cons_succ]
            refine wpAnyH_take (i := 2) (oi := _) (v := .slice pa x pc) rfl (by kernel_rfl) (by kernel_rfl) (by kernel_rfl) (fun _ _ _ h => h) (Or.inl ⟨by kernel_rfl, fun w' hw' => by
              try dsimp only at hw'
              go_simp⟩) hS ?_
            try simp only [Act.put, List.setIfInBounds_toArray, List.set_cons_zero, List.set_cons_succ]
            refine wpAnyH_take (i := 3) (oi := _) (v := .int .i64 x) rfl (by kernel_rfl) (by kernel_rfl) (by kernel_rfl) (fun _ _ _ h => h) (Or.inl ⟨by kernel_rfl, fun w' hw' => by
              try dsimp only at hw'
              go_simp⟩) hS ?_
            try simp only [Act.put, List.setIfInBounds_toArray, List.set_cons_zero, List.set_cons_succ]
            refine wpAnyH_take (i := 4) (oi := _) (v := .bool true) rfl (by kernel_rfl) (by kernel_rfl) (by kernel_rfl) (fun _ _ _ h => h) (Or.inl ⟨by kernel_rfl, fun w' hw' => by
              try dsimp only at hw'
              go_simp⟩) hS ?_
            try simp only [Act.put, List.setIfInBounds_toArray, List.set_cons_zero, List.set_cons_succ]
            refine wpAnyH_take (i := 5) (oi := _) (v := .bool true) rfl (by kernel_rfl) (by kernel_rfl) (by kernel_rfl) (fun _ _ _ h => h) (Or.inl ⟨by kernel_rfl, fun w' hw' => by
              try dsimp only at hw'
              go_simp⟩) hS ?_
            try simp only [Act.put, List.setIfInBounds_toArray, List.set_cons_zero, List.set_cons_succ]
            refine wpAnyH_take (i := 6) (oi := _) (v := .int .i64 l) rfl (by kernel_rfl) (by kernel_rfl) (by kernel_rfl) (fun _ _ _ h => h) (Or.inl ⟨by kernel_rfl, fun w' hw' => by
              try dsimp only at hw'
              go_simp⟩) hS ?_
            try simp only [Act.put, List.setIfInBounds_toArray, List.set_cons_zero, List.set_cons_succ]
            refine wpAnyH_take (i := 7) (oi := _) (v := .bool true) rfl (by kernel_rfl) (by kernel_rfl) (by kernel_rfl) (fun _ _ _ h => h) (Or.inl ⟨by kernel_rfl, fun w' hw' => by
              try dsimp only at hw'
              go_simp⟩) hS ?_
            try simp only [Act.put, List.setIfInBounds_toArray, List.set_cons_zero, List.set_cons_succ]
            refine wpAnyH_take (i := 8) (oi := _) (v := .bool true) rfl (by kernel_rfl) (by kernel_rfl) (by kernel_rfl) (fun _ _ _ h => h) (Or.inl ⟨by kernel_rfl, fun w' hw' => by
              try dsimp only at hw'
              go_simp⟩) hS ?_
            try simp only [Act.put, List.setIfInBounds_toArray, List.set_cons_zero, List.set_cons_succ]
            refine wpAnyH_take (i := 9) (oi := _) (v := .bool true) rfl (by kernel_rfl) (by kernel_rfl) (by kernel_rfl) (fun _ _ _ h => h) (Or.inl ⟨by kernel_rfl, fun w' hw' => by
              try dsimp only at hw'
              go_simp⟩) hS ?_
            try simp only [Act.put, List.setIfInBounds_toArray, List.set_cons_zero, List.set_cons_succ]
            refine wpAnyH_take (i := 10) (oi := _) (v := .int .i64 l) rfl (by kernel_rfl) (by kernel_rfl) (by kernel_rfl) (fun _ _ _ h => h) (Or.inl ⟨by kernel_rfl, fun w' hw' => by
              try dsimp only at hw'
              go_simp⟩) hS ?_
            try simp only [Act.put, List.setIfInBounds_toArray, List.set_cons_zero, List.set_cons_succ]
            refine wpAnyH_take (i := 11) (oi := _) (v := .pointer (some ⟨s, 0, none⟩)) rfl (by kernel_rfl) (by kernel_rfl) (by kernel_rfl) (fun _ _ _ h => h) (Or.inl ⟨by kernel_rfl, fun w' hw' => by
              try dsimp only at hw'
              go_simp⟩) hS ?_
            try simp only [Act.put, List.setIfInBounds_toArray, List.set_cons_zero, List.set_cons_succ]
            refine wpAnyH_take (i := 14) (oi := _) (v := .slice pa x pc) rfl (by kernel_rfl) (by kernel_rfl) (by kernel_rfl) (fun _ _ _ h => h) (Or.inl ⟨by kernel_rfl, fun w' hw' => by
              try dsimp only at hw'
              go_simp⟩) hS ?_
            try simp only [Act.put, List.setIfInBounds_toArray, List.set_cons_zero, List.set_cons_succ]
            refine wpAnyH_take (i := 15) (oi := _) (v := .int .i64 x) rfl (by kernel_rfl) (by kernel_rfl) (by kernel_rfl) (fun _ _ _ h => h) (Or.inl ⟨by kernel_rfl, fun w' hw' => by
              try dsimp only at hw'
              go_simp⟩) hS ?_
            try simp only [Act.put, List.setIfInBounds_toArray, List.set_cons_zero, List.set_cons_succ]
            refine wpAnyH_take (i := 16) (oi := _) (v := .bool false) rfl (by kernel_rfl) (by kernel_rfl) (by kernel_rfl) (fun _ _ _ h => h) (Or.inl ⟨by kernel_rfl, fun w' hw' => by
              try dsimp only at hw'
              go_simp⟩) hS ?_
            try simp only [Act.put, List.setIfInBounds_toArray, List.set_cons_zero, List.set_cons_succ]
            refine wpAnyH_ready (rs := [12]) (by kernel_rfl) (by simp) ?_
            refine AllReadyH.cons (o := _) rfl (fun K hK => ?_) AllReadyH.nil
            go_simp
            go_at_call 30
            refine htx.mono ?_
            rintro e w9 ⟨t1, ns9, rfl, r9, m9⟩
            have q3 := Hl1.out ns9 r9.st.pre t1 m9
            have hTw9 := hTd.run r9
            have o9 := Hod.out.moved r9.mv
            have s9 := Hcell.out _ o9
            have htx2 := text_m r9.seat ⟨#[]⟩ (by decide) (by have := Hlen.out; have := r9.st.len; omega)
            try go_simp
            refine hK.out _ _ s9 (fun hS => ?_)
            clear hK K
            try simp only [Act.put, List.setIfInBounds_toArray, List.set_cons_zero, List.set_cons_succ]
            refine wpAnyH_take (i := 13) (oi := _) (v := .bool false) rfl (by kernel_rfl) (by kernel_rfl) (by kernel_rfl) (fun _ _ _ h => h) (Or.inl ⟨by kernel_rfl, fun w' hw' => by
              try dsimp only at hw'
              go_simp⟩) hS ?_
            try simp only [Act.put, List.setIfInBounds_toArray, List.set_cons_zero, List.set_cons_succ]
            refine wpAnyH_take (i := 17) (oi := _) (v := .bool true) rfl (by kernel_rfl) (by kernel_rfl) (by kernel_rfl) (fun _ _ _ h => h) (Or.inl ⟨by kernel_rfl, fun w' hw' => by
              try dsimp only at hw'
              go_simp⟩) hS ?_
            try simp only [Act.put, List.setIfInBounds_toArray, List.set_cons_zero, List.set_cons_succ]
            refine wpAnyH_take (i := 18) (oi := _) (v := .bool true) rfl (by kernel_rfl) (by kernel_rfl) (by kernel_rfl) (fun _ _ _ h => h) (Or.inl ⟨by kernel_rfl, fun w' hw' => by
              try dsimp only at hw'
              go_simp⟩) hS ?_
            try simp only [Act.put, List.setIfInBounds_toArray, List.set_cons_zero, List.set_cons_succ]
            refine wpAnyH_take (i := 19) (oi := _) (v := .bool true) rfl (by kernel_rfl) (by kernel_rfl) (by kernel_rfl) (fun _ _ _ h => h) (Or.inl ⟨by kernel_rfl, fun w' hw' => by
              try dsimp only at hw'
              go_simp⟩) hS ?_
            try simp only [Act.put, List.setIfInBounds_toArray, List.set_cons_zero, List.set_cons_succ]
            refine wpAnyH_take (i := 20) (oi := _) (v := .slice (some ⟨g, 0, none⟩) x hc) rfl (by kernel_rfl) (by kernel_rfl) (by kernel_rfl) (fun _ _ _ h => h) (Or.inl ⟨by kernel_rfl, fun w' hw' => by
              try dsimp only at hw'
              go_simp⟩) hS ?_
            try simp only [Act.put, List.setIfInBounds_toArray, List.set_cons_zero, List.set_cons_succ]
            refine wpAnyH_take (i := 21) (oi := _) (v := .int .i64 x) rfl (by kernel_rfl) (by kernel_rfl) (by kernel_rfl) (fun _ _ _ h => h) (Or.inl ⟨by kernel_rfl, fun w' hw' => by
              try dsimp only at hw'
              go_simp⟩) hS ?_
            try simp only [Act.put, List.setIfInBounds_toArray, List.set_cons_zero, List.set_cons_succ]
            refine wpAnyH_take (i := 22) (oi := _) (v := .bool false) rfl (by kernel_rfl) (by kernel_rfl) (by kernel_rfl) (fun _ _ _ h => h) (Or.inl ⟨by kernel_rfl, fun w' hw' => by
              try dsimp only at hw'
              go_simp⟩) hS ?_
            try simp only [Act.put, List.setIfInBounds_toArray, List.set_cons_zero, List.set_cons_succ]
            refine wpAnyH_take (i := 23) (oi := _) (v := .bool false) rfl (by kernel_rfl) (by kernel_rfl) (by kernel_rfl) (fun _ _ _ h => h) (Or.inl ⟨by kernel_rfl, fun w' hw' => by
              try dsimp only at hw'
              go_simp⟩) hS ?_
            try simp only [Act.put, List.setIfInBounds_toArray, List.set_cons_zero, List.set_cons_succ]
            refine wpAnyH_take (i := 24) (oi := _) (v := .slice (some ⟨g, 0, none⟩) x hc) rfl (by kernel_rfl) (by kernel_rfl) (by kernel_rfl) (fun _ _ _ h => h) (Or.inl ⟨by kernel_rfl, fun w' hw' => by
              try dsimp only at hw'
              go_simp⟩) hS ?_
            try simp only [Act.put, List.setIfInBounds_toArray, List.set_cons_zero, List.set_cons_succ]
            refine wpAnyH_take (i := 25) (oi := _) (v := .slice (some ⟨g, 0, none⟩) x hc) rfl (by kernel_rfl) (by kernel_rfl) (by kernel_rfl) (fun _ _ _ h => h) (Or.inl ⟨by kernel_rfl, fun w' hw' => by
              try dsimp only at hw'
              go_simp⟩) hS ?_
            try simp only [Act.put, List.setIfInBounds_toArray, List.set_cons_zero, List.set_cons_succ]
            refine wpAnyH_take (i := 26) (oi := _) (v := .int .i64 x) rfl (by kernel_rfl) (by kernel_rfl) (by kernel_rfl) (fun _ _ _ h => h) (Or.inl ⟨by kernel_rfl, fun w' hw' => by
              try dsimp only at hw'
              go_simp⟩) hS ?_
            try simp only [Act.put, List.setIfInBounds_toArray, List.set_cons_zero, List.set_cons_succ]
            refine wpAnyH_take (i := 27) (oi := _) (v := .int .i64 m) rfl (by kernel_rfl) (by kernel_rfl) (by kernel_rfl) (fun _ _ _ h => h) (Or.inl ⟨by kernel_rfl, fun w' hw' => by
              try dsimp only at hw'
              go_simp⟩) hS ?_
            try simp only [Act.put, List.setIfInBounds_toArray, List.set_cons_zero, List.set_cons_succ]
            refine wpAnyH_take (i := 28) (oi := _) (v := .pointer (some ⟨g, m, none⟩)) rfl (by kernel_rfl) (by kernel_rfl) (by kernel_rfl) (fun _ _ _ h => h) (Or.inl ⟨by kernel_rfl, fun w' hw' => by
              try dsimp only at hw'
              go_simp⟩) hS ?_
            try simp only [Act.put, List.setIfInBounds_toArray, List.set_cons_zero, List.set_cons_succ]
            refine wpAnyH_take (i := 29) (oi := _) (v := .int .i64 y) rfl (by kernel_rfl) (by kernel_rfl) (by kernel_rfl) (fun _ _ _ h => h) (Or.inl ⟨by kernel_rfl, fun w' hw' => by
              try dsimp only at hw'
              go_simp⟩) hS ?_
            try simp only [Act.put, List.setIfInBounds_toArray, List.set_cons_zero, List.set_cons_succ]
            refine wpAnyH_take (i := 30) (oi := _) (v := .pointer (some ⟨s, 0, none⟩)) rfl (by kernel_rfl) (by kernel_rfl) (by kernel_rfl) (fun _ _ _ h => h) (Or.inl ⟨by kernel_rfl, fun w' hw' => by
              try dsimp only at hw'
              go_simp⟩) hS ?_
            try simp only [Act.put, List.setIfInBounds_toArray, List.set_cons_zero, List.set_cons_succ]
            refine wpAnyH_ready (rs := [31]) (by kernel_rfl) (by simp) ?_
            refine AllReadyH.cons (o := _) rfl (fun K hK => ?_) AllReadyH.nil
            go_simp
            go_at_call 30
            refine htx2.mono ?_
            rintro e w10 ⟨t2, ns10, rfl, r10, m10⟩
            have q5 := Hy1.out ns10 (r9.st.pre.trans r10.st.pre) r10.seat.wf t2 m10
            have hTw10 := hTw9.run r10
            have s10 := Hcell.out _ (o9.moved r10.mv)
            try go_simp
            refine hK.out _ _ s10 (fun hS => ?_)
            clear hK K
            try simp only [Act.put, List.setIfInBounds_toArray, List.set_cons_zero, List.set_cons_succ]
            refine wpAnyH_take (i := 32) (oi := _) (v := .bool true) rfl (by kernel_rfl) (by kernel_rfl) (by kernel_rfl) (fun _ _ _ h => h) (Or.inl ⟨by kernel_rfl, fun w' hw' => by
              try dsimp only at hw'
              go_simp⟩) hS ?_
            try simp only [Act.put, List.setIfInBounds_toArray, List.set_cons_zero, List.set_cons_succ]
            refine wpAnyH_take (i := 33) (oi := _) (v := .bool true) rfl (by kernel_rfl) (by kernel_rfl) (by kernel_rfl) (fun _ _ _ h => h) (Or.inl ⟨by kernel_rfl, fun w' hw' => by
              try dsimp only at hw'
              go_simp⟩) hS ?_
            try simp only [Act.put, List.setIfInBounds_toArray, List.set_cons_zero, List.set_cons_succ]
            refine wpAnyH_take (i := 34) (oi := _) (v := .bool true) rfl (by kernel_rfl) (by kernel_rfl) (by kernel_rfl) (fun _ _ _ h => h) (Or.inl ⟨by kernel_rfl, fun w' hw' => by
              try dsimp only at hw'
              go_simp⟩) hS ?_
            try simp only [Act.put, List.setIfInBounds_toArray, List.set_cons_zero, List.set_cons_succ]
            refine wpAnyH_take (i := 35) (oi := _) (v := .bool true) rfl (by kernel_rfl) (by kernel_rfl) (by kernel_rfl) (fun _ _ _ h => h) (Or.inl ⟨by kernel_rfl, fun w' hw' => by
              try dsimp only at hw'
              go_simp⟩) hS ?_
            try simp only [Act.put, List.setIfInBounds_toArray, List.set_cons_zero, List.set_cons_succ]
            refine wpAnyH_done (by kernel_rfl) ?_ _
            go_wp2
            go_ret
            refine ⟨?_, on b01 hTw10.low⟩
            rename_i o1 d1 e1 o2 d2 e2
            have k1 : 4 = d1 := Option.some.inj (show some 4 = some d1 from e1)
            have k2 : 89 = d2 := Option.some.inj (show some 89 = some d2 from e2)
            subst k1
            subst k2
            simp

end Go.Proofs.YtmcjincgppddeaaDoor
