/-
  The parent hashes of a path depend on nothing below it on one's own side.
-/
import Derived.Test.YtmcjincgppddeaaDoorGM
import Derived.Test.YtmcjincgppddeaaDoorGL
namespace Go.Proofs.YtmcjincgppddeaaDoor
open Go.RowKit
set_option linter.unusedSimpArgs false
set_option linter.unusedVariables false

def sevens (n : Nat) : List Int := List.replicate n 7
theorem sevens_len (n : Nat) : (sevens n).length = n := by simp [sevens]
theorem sevens_snoc (n : Nat) : sevens (n + 1) = sevens n ++ [7] := by simp [sevens, List.replicate_succ']
theorem sevens_mem {n : Nat} {k : Int} (h : k ∈ sevens n) : 1 ≤ k ∧ k ≤ 90 := by
  simp only [sevens, List.mem_replicate] at h
  omega

theorem own_head {W : World} {B e size n : Nat} {v : Value} {xs : List Value} (h : W.ownsRow B e size v n xs) (hn : n ≠ 0) : ∃ g cap cur, v = .slice (some ⟨g, 0, none⟩) n cap ∧ B ≤ g ∧ W.heap[g]? = some (.cells cur e) ∧ n ≤ cap := by
  rcases h.2 with ⟨_, e⟩ | ⟨g, cap, cur, e, hb, hh, hc, _⟩
  · exact absurd e hn
  · exact ⟨g, cap, cur, e, hb, hh, hc⟩

theorem ints_one' (l : List Int) : ∀ u ∈ l.map (Value.int .i64), u.oneCell' = true := by intro u hu; simp at hu; obtain ⟨x, _, rfl⟩ := hu; rfl

theorem Own2.item {B : Nat} {W : World} {s : Nat} {g n c : Nat} {l : List Int} (h : Own2 B W s (.slice (some ⟨g, 0, none⟩) n c) l.length (l.map (Value.int .i64))) (hn : l.length = n) {j : Nat} {x : Int} (hx : l[j]? = some x) : W.cell? ⟨g, j, none⟩ = some (.int .i64 x) ∧ g < W.heap.size := by
  have h1 := h.own
  have hlt := (List.getElem?_eq_some_iff.1 hx).1
  refine ⟨?_, (h1.lt g rfl).2⟩
  subst hn
  have h2 := h1.cellAt j (by simp; omega)
  rw [h2]
  simp [hx]

set_option maxRecDepth 100000 in
set_option maxHeartbeats 4000000 in
theorem below_law {w : World} {v : Value} {t : Tree} (h1 : TreeIn5 w v t) (i : Int) (hi : (Lit.int .i64 i).wf = true) (key : Int) (hkey : (Lit.int .i64 key).wf = true) (hT : Tab w ∧ Pow w) :
    Calls Tryd.prog 5 #[v, .int .i64 i, .int .i64 key] w fun e w' => e = .returned (.bool true) ∧ Below w.heap.size w w' := by
  obtain ⟨⟨ht, hlate⟩, hct⟩ := h1
  obtain ⟨va, vcap, rfl, _⟩ := id ht
  have Hct : Hid (∀ (x : Nat) (a : PV), t[x]? = some a → -9223372036854775808 ≤ a.client ∧ a.client ≤ 9223372036854775807) := hct
  have Hlate : Hid (∀ (x : Nat) (u : PV), t[x]? = some u → u.late.length * 8 ≤ 140737488355328) := hlate
  clear hct hlate hi hkey
  go_enter Tryd.func5, Tryd.ntmps5
  go_wp2_with fail
  refine (anchor_any hT).mono ?_
  rintro e w0 ⟨rfl, b0⟩
  have hT0 := Tabs.below hT b0
  have ht0 := ht.below b0
  go_wp2_with fail
  refine (rightN_m ht0 90).mono ?_
  rintro e w1 ⟨bt, rfl, hbt, b1⟩
  have hT1 := Tabs.below hT0 b1
  have ht1 := ht0.below b1
  have b01 := on b0 b1
  cases bt with
  | false =>
    go_wp2_with fail
    go_ret
    exact ⟨rfl, b01⟩
  | true =>
    have HT : Hid (Good t ∧ Rng t 90) := hbt rfl
    clear hbt
    have hff := refFull_any ht1 HT.out.1.sh i
    cases hfl : fullB t i with
    | false =>
      rw [hfl] at hff
      clear hfl
      go_wp2_with (go_at_call 23; refine hff.mono ?_; rintro e w' ⟨rfl, hw⟩; obtain rfl := hw.symm)
      go_ret
      exact ⟨rfl, b01⟩
    | true =>
      rw [hfl] at hff
      have hir := fullB_range hfl
      obtain ⟨k, rfl⟩ : ∃ k : Nat, i = k := ⟨i.toNat, by omega⟩
      have hb := HT.out.1.sh.bounds
      have hxl : 2 * k < t.length := by omega
      have Hfl : Hid (fullB t k = true) := hfl
      have Hi : Hid ((decide ((0 : Int) ≤ (k : Int)) && decide ((k : Int) < (lv t : Int))) = true) := by show _ = _; simp; omega
      have hfp := filt_place HT.out.1.sh Hi.out
      have i2 : 2 * (k : Int) < (t.length : Int) := by omega
      clear hfl hir
      by_cases g1 : key < 1
      · go_wp2_with (go_at_call 23; refine hff.mono ?_; rintro e w' ⟨rfl, hw⟩; obtain rfl := hw.symm)
        go_ret
        exact ⟨rfl, b01⟩
      · by_cases g2 : 90 < key
        · go_wp2_with (go_at_call 23; refine hff.mono ?_; rintro e w' ⟨rfl, hw⟩; obtain rfl := hw.symm)
          go_ret
          exact ⟨rfl, b01⟩
        · have Hrk : Hid (0 ≤ key ∧ key ≤ 90) := ⟨by omega, by omega⟩
          have g1b : decide (key < 1) = false := by simpa using g1
          have g2b : decide (90 < key) = false := by simpa using g2
          go_wp2_with (go_at_call 23; refine hff.mono ?_; rintro e w' ⟨rfl, hw⟩; obtain rfl := hw.symm)
          refine (stores_m hT1.1 hT1.2 90 (by decide)).mono ?_
          rintro e w3 ⟨s, r, rfl, hTw⟩
          have ht3 := ht1.below hTw.low
          have hFl := refFiltered_any HT.out.1.fit (k : Int) ht3
          clear hff
          go_wp2_with fail
          refine hFl.mono ?_
          rintro e w4 ⟨v1, v2, rfl, o1, o2, b4⟩
          have HTw4 : Hid (Two w1 s r w4 (atoms 90) 90 (atoms 90) 90) := hTw.below b4
          obtain ⟨pa, pc, rfl⟩ : ∃ pa pc, v1 = .slice pa (filt t k).length pc := by
            rcases o1.2 with ⟨rfl, e⟩ | ⟨g, cap, cur, rfl, _⟩
            · exact ⟨none, 0, by simp at e; simp [e]⟩
            · exact ⟨some ⟨g, 0, none⟩, cap, by simp⟩
          obtain ⟨ca, cc, rfl⟩ : ∃ ca cc, v2 = .slice ca (filt t k).length cc := by
            rcases o2.2 with ⟨rfl, e⟩ | ⟨g, cap, cur, rfl, _⟩
            · exact ⟨none, 0, by simp at e; simp [e]⟩
            · exact ⟨some ⟨g, 0, none⟩, cap, by simp⟩
          have Hn6 : Hid ((filt t k).length ≤ 6) := hfp.2
          obtain ⟨n, hn⟩ : ∃ n, (filt t k).length = n := ⟨_, rfl⟩
          have HN : Hid ((filt t k).length = n) := hn
          have Hn : Hid (n ≤ 6) := hn ▸ Hn6.out
          have h42 : 2 < w4.heap.size := HTw4.out.seat.tab.size
          rw [hn]
          clear hFl hTw o1 o2 b4 hfp hn Hn6
          obtain ⟨j0, hi0, hz0, hz1, hz2⟩ := info_parts Tryd.infoI
          go_wp2_with fail
          go_loopw [11, 53] (fun gv k wr => ∃ x : Nat, x ≤ n ∧ k = .int .i64 x ∧ Hid (wr.ownsRow w4.heap.size 3 1 gv (sevens x).length ((sevens x).map (Value.int .i64))) ∧ Hid (Below w4.heap.size w4 wr)) (fun _ k _ => n - (intOf k).toNat)
          case atStart => exact ⟨0, Nat.zero_le _, rfl, World.ownsRow_nil _ _ _ _, Below.refl _ _⟩
          case round =>
            obtain ⟨x, hx, rfl, HO, HB⟩ := hrel
            have hx6 : x ≤ 6 := Nat.le_trans hx Hn.out
            by_cases hlt : x < n
            · have i3 : (x : Int) < (n : Int) := by omega
              have hl1 : (sevens x).length = x := sevens_len x
              have Hm1 : Hid (x + 1 ≤ maxLen) := (small_room x hx6).1
              have Hm2 : Hid ((x + 1) * 8 ≤ 140737488355328) := (small_room x hx6).2
              have kw : IntKind.i64.wrap ((x : Int) + 1) = ((x + 1 : Nat) : Int) := by
                rw [show (x : Int) + 1 = ((x + 1 : Nat) : Int) by omega]; exact wrap_at (by omega) (by omega)
              have o6 : ∀ o, (wr.alloc o).ownsRow w4.heap.size 3 1 u11 x ((sevens x).map (Value.int .i64)) := fun o => by
                have := HO.out
                rw [hl1] at this
                exact this.alloc o
              have hsz : ∀ o, w4.heap.size ≤ (wr.alloc o).heap.size := fun o => by
                have h1 := HB.out.size
                simp; omega
              clear hl1
              go_wp2_with (first
                | (refine wpList_append_own_at _ rfl (.tmp 55) (.tmp 56) 30 rfl w4.heap.size 3 j0 (.int .i64 0) 1 8 Tryd.underlying30 hi0 hz0 hz1 hz2 rfl Nat.one_pos _ x _ rfl (o6 _) ⟨wr.heap.size, 0, none⟩ 1 1 [.int .i64 7] rfl rfl (cell_one_new _ _ _) (one_int _) Hm1.out Hm2.out (hsz _) ?_; intro v7 w7 ho hg hnil hl)
                | fail)
              have hg7 : Hid (Below w4.heap.size w4 w7) := (HB.out.alloc HB.out.size _).grown hg (hsz _) (fun g e => ((o6 (.cells #[.int .i64 7] 3)).lt g e).1)
              have HO7 : Hid (w7.ownsRow w4.heap.size 3 1 v7 (sevens (x + 1)).length ((sevens (x + 1)).map (Value.int .i64))) := by
                show World.ownsRow _ _ _ _ _ _ _
                rw [sevens_len, sevens_snoc, List.map_append]
                exact ho
              clear ho hg hl hnil
              go_roundw
              case rel => exact ⟨x + 1, by omega, by simp, HO7, hg7⟩
              case measure => simp [intOf]; omega
            · have e : x = n := by omega
              subst e
              have hd : ¬ ((x : Int) < (x : Int)) := by omega
              have hTw5 := HTw4.out.below HB.out
              have hO2 := HTw4.out.list HB.out HO.out
              have hIS := hO2.ints (by rw [sevens_len]; omega)
              obtain ⟨sl, c, rfl⟩ : ∃ sl c, u11 = .slice sl x c := by
                rcases HO.out.2 with ⟨rfl, e⟩ | ⟨g, cap, cur, rfl, _⟩
                · rw [sevens_len] at e; exact ⟨none, 0, by rw [e]⟩
                · exact ⟨_, cap, by rw [sevens_len]⟩
              have hPm := par_m HT.out.1 HT.out.2 Hct.out hTw5.seat (List.prefix_refl _) (hTw5.tree ht1) Hi.out hIS (by rw [sevens_len, HN.out]) (fun k hk => sevens_mem hk) (by rw [atoms_length]; decide)
              rw [sevens_len] at hPm
              clear hlt hx hIS
              go_wp2_with fail
              refine hPm.mono ?_
              rintro e w5 ⟨hsl, hc, l, ns5, hs, rfl, r5, o5, hl5, m5, ml5⟩
              have hTw6 := hTw5.run r5
              have hns5 := r5.st.len
              rw [atoms_length] at hns5
              have ht5 := ht1.below hTw6.low
              have hcp := refCopy_any ht5 (by omega) Hlate.out
              have HTw6 : Hid (Two w1 s r w5 ns5 90 (atoms 90) 90) := hTw6
              have HO5 : Hid (Own2 w4.heap.size w5 s (.slice sl x c) (sevens x).length ((sevens x).map (Value.int .i64))) := hO2.moved r5.mv
              have Ho5 : Hid (Own2 wr.heap.size w5 s (.slice hsl x hc) hs.length (hs.map (Value.int .i64))) := o5
              have Hs5 : Hid (hs.length = x ∧ ns5.length ≤ 20090 ∧ atoms 90 <+: ns5) := ⟨hl5, by omega, r5.st.pre⟩
              have Hm5 : Hid (Mean2 ns5 hs (chainT (chainL Tm.atom t (sevens x) ((filt t k).map (·.2)))).1 ∧ Means ns5 l (chainT (chainL Tm.atom t (sevens x) ((filt t k).map (·.2)))).2) := ⟨m5, ml5⟩
              clear hPm r5 o5 hl5 m5 ml5 hTw6 hO2 hTw5 hns5
              go_wp2_with fail
              refine hcp.mono ?_
              rintro e w6 ⟨v6, hs6, rfl, o6, b6⟩
              obtain ⟨g, cap6, rfl, hgB, hgl⟩ := o6.form (by omega)
              have hvt := o6.vat (vx_some (t := t) (x := 2 * k) hxl) (List.getElem?_eq_getElem (by rw [o6.len]; exact hxl))
              have d1 := hvt.2.1
              have hcapl : (t.length : Int) ≤ (cap6 : Int) := by
                rcases o6.row.2 with ⟨h', _⟩ | ⟨g', cap', cur, h', _, _, hnc, _⟩
                · simp at h'
                · cases h'; omega
              have hfz : ∀ o, w6.frozen? ⟨g, o, none⟩ = false := by
                rcases o6.row.2 with ⟨h', _⟩ | ⟨g', cap', cur, h', _, hgg, _⟩
                · simp at h'
                · cases h'; exact fun o => frozen_of_heap hgg o
              have hGu := HT.out.1.rekey Hfl.out key
              have ho7 := o6.rekeyed hxl key
              have hb7 : Below w5.heap.size w5 (w6.setCell ⟨g, 2 * k * 6 + 1, none⟩ (.int .i64 key)) := b6.setCell hgB _
              have hTw7 := HTw6.out.below hb7
              have htp := OwnT.p (by rw [rekey_len]; exact ho7) hGu.fit
              have hsu := HTw6.out.own hb7 htp
              have hOk := HO5.out.moved (.ofBelow HTw6.out.seat.st.lt hb7)
              have hOh := Ho5.out.moved (.ofBelow HTw6.out.seat.st.lt hb7)
              have hPu := par_m hGu (rekey_rng hxl HT.out.2 Hrk.out.1 Hrk.out.2) (rekey_client hxl Hct.out) hTw7.seat Hs5.out.2.2 hsu (i := (k : Int)) (by rw [rekey_lv]; exact Hi.out) (hOk.ints (by rw [sevens_len]; omega)) (by rw [sevens_len, rekey_filt hxl, HN.out]) (fun k hk => sevens_mem hk) (by have := Hs5.out.2.1; omega)
              rw [sevens_len, rekey_filt hxl, chainL_same (t := t) (by rw [sevens_len, List.length_map, HN.out]) (rekey_copath HT.out.1 Hfl.out key)] at hPu
              have hcc : ∃ u, w6.cell? ⟨g, 2 * k * 6 + 1, none⟩ = some u := ⟨_, d1⟩
              obtain ⟨u0, hcu⟩ := hcc
              have HTw7 : Hid (Two w1 s r (w6.setCell ⟨g, 2 * k * 6 + 1, none⟩ (.int .i64 key)) ns5 90 (atoms 90) 90) := hTw7
              have HOk : Hid (Own2 w4.heap.size (w6.setCell ⟨g, 2 * k * 6 + 1, none⟩ (.int .i64 key)) s (.slice sl x c) (sevens x).length ((sevens x).map (Value.int .i64))) := hOk
              have HOh : Hid (Own2 wr.heap.size (w6.setCell ⟨g, 2 * k * 6 + 1, none⟩ (.int .i64 key)) s (.slice hsl x hc) hs.length (hs.map (Value.int .i64))) := hOh
              obtain ⟨W7, hW7⟩ : ∃ W7, w6.setCell ⟨g, 2 * k * 6 + 1, none⟩ (.int .i64 key) = W7 := ⟨_, rfl⟩
              rw [hW7] at HTw7 HOk HOh hPu
              clear hvt d1 ho7 htp hsu hTw7 hb7 o6 hGu hcp hOk hOh hgB
              go_wp2_with (first
                | rw [hW7]
                | fail)
              refine hPu.mono ?_
              rintro e w8 ⟨gsl, gc, m, ns8, gs, rfl, r8, o8, hl8, m8, ml8⟩
              have hTw8 := HTw7.out.run r8
              have hns8 := r8.st.len
              have Hl8 : Hid (ns8.length ≤ 40090) := by have := Hs5.out.2.1; show _ ≤ _; omega
              have elm : l = m := (Hm5.out.2.keeps r8.st.pre).inj r8.seat.wf ml8
              have ehg : hs = gs := by
                refine List.ext_getElem? (fun j => ?_)
                rcases Nat.lt_or_ge j hs.length with hj | hj
                · have hj2 : j < gs.length := by have := Hs5.out.1; omega
                  obtain ⟨X, a1, a2⟩ := Hm5.out.1.get j (hs[j]'hj) (by simp [hj])
                  obtain ⟨Y, c1, c2⟩ := m8.get j (gs[j]'hj2) (by simp [hj2])
                  rw [a1] at c1
                  cases c1
                  have := (a2.keeps r8.st.pre).inj r8.seat.wf c2
                  simp [hj, hj2, this]
                · rw [List.getElem?_eq_none hj, List.getElem?_eq_none (by have := Hs5.out.1; omega)]
              subst elm
              subst ehg
              have q0 : (l == 0) = false := by have := ml8.pos; simp; omega
              have q1 : (l != l) = false := by simp
              have hOk8 := HOk.out.moved r8.mv
              have hOh8 := HOh.out.moved r8.mv
              have hin := ints_any (hOh8.ints (by have := Hs5.out.1; omega)).ints (o8.ints (by have := Hs5.out.1; omega)).ints
              rw [show decide (hs = hs) = true by simp] at hin
              have HTw8 : Hid (Two w1 s r w8 ns8 90 (atoms 90) 90) := hTw8
              have HOk8 : Hid (Own2 w4.heap.size w8 s (.slice sl x c) (sevens x).length ((sevens x).map (Value.int .i64))) := hOk8
              have HOh8 : Hid (Own2 wr.heap.size w8 s (.slice hsl x hc) hs.length (hs.map (Value.int .i64))) := hOh8
              have Hp8 : Hid (atoms 90 <+: ns8) := Hs5.out.2.2.trans r8.st.pre
              have Hm8 : Hid (Mean2 ns8 hs (chainT (chainL Tm.atom t (sevens x) ((filt t k).map (·.2)))).1 ∧ Means ns8 l (chainT (chainL Tm.atom t (sevens x) ((filt t k).map (·.2)))).2) := ⟨m8, ml8⟩
              clear hPu r8 o8 hl8 m8 ml8 hTw8 hOk8 hOh8 hns8
              go_wp2_with fail
              refine hin.mono ?_
              rintro e w9 ⟨rfl, b9⟩
              have HTw9 : Hid (Two w1 s r w9 ns8 90 (atoms 90) 90) := HTw8.out.below b9
              have HOk9 : Hid (Own2 w4.heap.size w9 s (.slice sl x c) (sevens x).length ((sevens x).map (Value.int .i64))) := HOk8.out.moved (.ofBelow HTw8.out.seat.st.lt b9)
              have HOh9 : Hid (Own2 wr.heap.size w9 s (.slice hsl x hc) hs.length (hs.map (Value.int .i64))) := HOh8.out.moved (.ofBelow HTw8.out.seat.st.lt b9)
              obtain ⟨Br, hBr⟩ : ∃ Br, wr.heap.size = Br := ⟨_, rfl⟩
              have HOh9 : Hid (Own2 Br w9 s (.slice hsl x hc) hs.length (hs.map (Value.int .i64))) := by
                show Own2 _ _ _ _ _ _
                rw [← hBr]; exact HOh9.out
              clear hin b9 hBr
              go_wp2_with fail
              go_loopw [98] (fun q wq => ∃ (y : Nat) (ns : List Nd), y ≤ x ∧ q = .int .i64 y ∧ Hid (Two w1 s r wq ns 90 (atoms 90) 90 ∧ Own2 w4.heap.size wq s (.slice sl x c) (sevens x).length ((sevens x).map (Value.int .i64)) ∧ Own2 Br wq s (.slice hsl x hc) hs.length (hs.map (Value.int .i64)) ∧ ns8 <+: ns ∧ ns.length ≤ 40090 + 20000 * y)) (fun q _ => x - (intOf q).toNat)
              case atStart => exact ⟨0, ns8, Nat.zero_le _, rfl, HTw9.out, HOk9.out, HOh9.out, List.prefix_refl _, by have := Hl8.out; omega⟩
              case round =>
                obtain ⟨y, ns, hy, rfl, HI⟩ := hrel
                clear HTw9 HOk9 HOh9
                by_cases hyx : y < x
                · have i5 : (y : Int) < (x : Int) := by omega
                  have i6 : (0 : Int) ≤ (y : Int) := by omega
                  obtain ⟨hTq, hKq, hHq, hpq, hlq⟩ := HI.out
                  obtain ⟨kg, kcap, kcur, ek, _, _, hkc⟩ := own_head hKq.own (by rw [sevens_len]; omega)
                  simp only [Value.slice.injEq] at ek
                  obtain ⟨rfl, -, -⟩ := ek
                  obtain ⟨hg, hcap, hcur, eh, _, _, _⟩ := own_head hHq.own (by have := Hs5.out.1; omega)
                  simp only [Value.slice.injEq] at eh
                  obtain ⟨rfl, -, -⟩ := eh
                  have hbe : Below wr.heap.size wr (wr.alloc (.cells #[] 3)) := (Below.refl _ _).alloc (Nat.le_refl _) _
                  have hKe := hKq.moved (.ofBelow hTq.seat.st.lt hbe)
                  have hcells : ∀ (j : Nat) (u : Value), ((sevens x).map (Value.int .i64))[j]? = some u → (wr.alloc (.cells #[] 3)).cell? ((⟨kg, 0, none⟩ : Addr).add j) = some u := fun j u hu => by
                    obtain ⟨z, hz, rfl⟩ : ∃ z, (sevens x)[j]? = some z ∧ u = .int .i64 z := by
                      rw [List.getElem?_map] at hu
                      cases hq : (sevens x)[j]? with
                      | none => rw [hq] at hu; simp at hu
                      | some z => rw [hq] at hu; simp at hu; exact ⟨z, rfl, hu.symm⟩
                    have := (hKe.item (sevens_len x) hz).1
                    have ea : (⟨kg, 0, none⟩ : Addr).add j = ⟨kg, j, none⟩ := by unfold Addr.add; split <;> simp_all
                    rw [ea]; exact this
                  have hown0 : (wr.alloc (.cells #[] 3)).ownsRow wr.heap.size 3 1 (.slice (some ⟨wr.heap.size, 0, none⟩) 0 0) 0 [] := World.ownsRow_made _ #[] 0 (Nat.le_refl _) (Nat.zero_le _) rfl
                  have hx6b : x ≤ 6 := hx6
                  have hm1 : 0 + x ≤ maxLen := by have := (small_room x hx6b).1; omega
                  have hm2 : (0 + x) * 8 ≤ 140737488355328 := by omega
                  have hnl : ((sevens x).map (Value.int .i64)).length = x * 1 := by rw [List.length_map, sevens_len]; omega
                  have hbase : wr.heap.size ≤ (wr.alloc (.cells #[] 3)).heap.size := hbe.size
                  have HTq : Hid (Two w1 s r wr ns 90 (atoms 90) 90) := hTq
                  have HKq : Hid (Own2 w4.heap.size wr s (.slice (some ⟨kg, 0, none⟩) x c) (sevens x).length ((sevens x).map (Value.int .i64))) := hKq
                  have HHq : Hid (Own2 Br wr s (.slice (some ⟨hg, 0, none⟩) x hc) hs.length (hs.map (Value.int .i64))) := hHq
                  have Hpq : Hid (ns8 <+: ns ∧ ns.length ≤ 40090 + 20000 * y) := ⟨hpq, hlq⟩
                  clear hTq hKq hHq hpq hlq HI hKe hkc
                  go_wp2_with (first
                    | (refine wpList_append_own_at _ rfl (.tmp 101) (.tmp 102) 30 rfl wr.heap.size 3 j0 (.int .i64 0) 1 8 Tryd.underlying30 hi0 hz0 hz1 hz2 rfl Nat.one_pos _ 0 [] rfl hown0 ⟨kg, 0, none⟩ x c ((sevens x).map (Value.int .i64)) rfl hnl hcells (ints_one' _) hm1 hm2 hbase ?_; intro v10 w10 ho hgr hnil hl; rw [Nat.zero_add] at ho; obtain ⟨g2, cap2, cur2, rfl, hgb, hhe, hle⟩ := own_head ho (by omega); have hfz2 : w10.frozen? ⟨g2, y, none⟩ = false := frozen_of_heap hhe _; have hcl2 := ho.cellAt y (by simp [sevens_len]; omega); have hcu2 : ∃ u, w10.cell? ⟨g2, y, none⟩ = some u := (by rw [hcl2]; exact ⟨_, List.getElem?_eq_getElem (by simp [sevens_len]; omega)⟩); obtain ⟨uu, hcu2⟩ := hcu2)
                    | fail)
                  obtain ⟨st1, st2⟩ := ho.stored y (.int .i64 8)
                  have hb10 : Below wr.heap.size wr w10 := hbe.grown hgr hbase (fun g e => ((hown0.lt g e).1))
                  have hb11 : Below wr.heap.size wr (w10.setCell ⟨g2, y, none⟩ (.int .i64 8)) := hb10.setCell (p := ⟨g2, y, none⟩) hgb _
                  have hrow : (w10.setCell ⟨g2, y, none⟩ (.int .i64 8)).ownsRow wr.heap.size 3 1 (.slice (some ⟨g2, 0, none⟩) x cap2) ((sevens x).set y 8).length (((sevens x).set y 8).map (Value.int .i64)) := by
                    rw [List.length_set, sevens_len, List.map_set]
                    simpa using st1
                  have hTw11 := HTq.out.below hb11
                  have hPn := par_m HT.out.1 HT.out.2 Hct.out hTw11.seat (Hp8.out.trans Hpq.out.1) (hTw11.tree ht1) Hi.out ((HTq.out.list hb11 hrow).ints (by rw [List.length_set, sevens_len]; omega)) (by rw [List.length_set, sevens_len, HN.out]) (fun z hz => by
                    rcases List.mem_or_eq_of_mem_set hz with h | h
                    · exact sevens_mem h
                    · omega) (by have := Hpq.out.2; omega)
                  rw [List.length_set, sevens_len] at hPn
                  have hK11 := HKq.out.moved (.ofBelow HTq.out.seat.st.lt hb11)
                  have hH11 := HHq.out.moved (.ofBelow HTq.out.seat.st.lt hb11)
                  clear st1 st2 ho hgr hnil hl hb10 hb11 hrow hown0 hcells hbe hm1 hm2 hnl hbase hcl2 hcu2 hfz2 hhe
                  refine hPn.mono ?_
                  rintro e w12 ⟨gsl, gc, m, ns12, gs, rfl, r12, o12, hl12, m12, ml12⟩
                  have hTw12 := hTw11.run r12
                  have hK12 := hK11.moved r12.mv
                  have hH12 := hH11.moved r12.mv
                  have hpre : ns8 <+: ns12 := Hpq.out.1.trans r12.st.pre
                  have hls : (sevens x).length = x := sevens_len x
                  have hne7 : (sevens x).getD y 0 ≠ 8 := by simp [sevens, List.getD, hyx]
                  have qml : (m == l) = false := by
                    rw [beq_eq_false_iff_ne]
                    rintro rfl
                    have e1 := (Hm8.out.2.keeps hpre).one ml12
                    rw [chain_one] at e1
                    have := (chainL_set (t := t) (cs := (filt t k).map (·.2)) (by rw [hls]; exact hyx) hne7 0).1 (by simpa using e1.symm)
                    omega
                  have hgh : ∀ (j : Nat) (p q : Int), gs[j]? = some p → hs[j]? = some q → (p == q) = decide (y ≤ j) := fun j p q hp hq => by
                    obtain ⟨X, a1, a2⟩ := m12.get j p hp
                    obtain ⟨Y, c1, c2⟩ := Hm8.out.1.get j q hq
                    have hj : j < x := by have := (List.getElem?_eq_some_iff.1 hp).1; omega
                    rw [chainT_get _ j (by rw [chainL_len, List.length_set, hls]; exact hj)] at a1
                    rw [chainT_get _ j (by rw [chainL_len, hls]; exact hj)] at c1
                    cases a1
                    cases c1
                    have e1 := Means.eq_iff r12.seat.wf a2 (c2.keeps hpre)
                    rw [chain_one, chainL_set (by rw [hls]; exact hyx) hne7] at e1
                    by_cases hyj : y ≤ j
                    · have : p = q := e1.2 (by omega)
                      simp [this, hyj]
                    · have : ¬ p = q := fun e => hyj (by have := e1.1 e; omega)
                      simp [this, hyj]
                  obtain ⟨gg, gcap, gcur, eg, _, _, _⟩ := own_head o12.own (by omega)
                  simp only [Value.slice.injEq] at eg
                  obtain ⟨rfl, -, -⟩ := eg
                  have HX : Hid (Two w1 s r w12 ns12 90 (atoms 90) 90 ∧ Own2 w4.heap.size w12 s (.slice (some ⟨kg, 0, none⟩) x c) (sevens x).length ((sevens x).map (Value.int .i64)) ∧ Own2 Br w12 s (.slice (some ⟨hg, 0, none⟩) x hc) hs.length (hs.map (Value.int .i64)) ∧ ns8 <+: ns12 ∧ ns12.length ≤ 40090 + 20000 * (y + 1)) := ⟨hTw12, hK12, hH12, hpre, by have := r12.st.len; have := Hpq.out.2; omega⟩
                  have Hg : Hid (∀ (j : Nat) (p : Int), gs[j]? = some p → w12.cell? ⟨gg, j, none⟩ = some (.int .i64 p) ∧ gg < w12.heap.size) := fun j p hp => o12.item hl12 hp
                  have Hh : Hid (∀ (j : Nat) (p : Int), hs[j]? = some p → w12.cell? ⟨hg, j, none⟩ = some (.int .i64 p) ∧ hg < w12.heap.size) := fun j p hp => hH12.item Hs5.out.1 hp
                  have Hgh : Hid (∀ (j : Nat) (p q : Int), gs[j]? = some p → hs[j]? = some q → (p == q) = decide (y ≤ j)) := hgh
                  have Hlg : Hid (gs.length = x) := hl12
                  have q2 : ((x : Int) != (x : Int)) = false := by simp
                  clear hPn r12 o12 hl12 m12 ml12 hTw11 hTw12 hK11 hH11 hK12 hH12 hpre hgh hne7 hls
                  go_wp2_with fail
                  go_loopw [127] (fun q wz => ∃ j : Nat, j ≤ x ∧ q = .int .i64 j ∧ Hid (Below w12.heap.size w12 wz)) (fun q _ => x - (intOf q).toNat)
                  case atStart => exact ⟨0, Nat.zero_le _, rfl, Below.refl _ _⟩
                  case round =>
                    obtain ⟨j, hj, rfl, HB⟩ := hrel
                    by_cases hjx : j < x
                    · have j1 : (j : Int) < (x : Int) := by omega
                      have j2 : (0 : Int) ≤ (j : Int) := by omega
                      obtain ⟨p, hp⟩ : ∃ p, gs[j]? = some p := ⟨gs[j]'(by have := Hlg.out; omega), by simp⟩
                      obtain ⟨q, hq⟩ : ∃ q, hs[j]? = some q := ⟨hs[j]'(by have := Hs5.out.1; omega), by simp⟩
                      have cg := (HB.out.cell (p := ⟨gg, j, none⟩) (Hg.out j p hp).2).trans (Hg.out j p hp).1
                      have ch := (HB.out.cell (p := ⟨hg, j, none⟩) (Hh.out j q hq).2).trans (Hh.out j q hq).1
                      have epq := Hgh.out j p q hp hq
                      have kw : IntKind.i64.wrap ((j : Int) + 1) = ((j + 1 : Nat) : Int) := by
                        rw [show (j : Int) + 1 = ((j + 1 : Nat) : Int) by omega]; exact wrap_at (by omega) (by omega)
                      have HB2 : Hid (Below w12.heap.size w12 wr.drew) := HB.out.drew
                      clear hp hq
                      by_cases hyj : y ≤ j
                      · have e1 : (p == q) = true := by rw [epq]; simp [hyj]
                        have e2 : decide ((y : Int) ≤ (j : Int)) = true := by simp; omega
                        have e3 : (y : Int) ≤ (j : Int) := by omega
                        clear epq hyj
                        go_wp2_with fail
                        go_region
                        all_goals go_wp2_with fail
                        go_roundw
                        case rel => exact ⟨j + 1, by omega, by simp, HB2⟩
                        case measure => simp [intOf]; omega
                      · have e1 : (p == q) = false := by rw [epq]; simp [hyj]
                        have e2 : decide ((y : Int) ≤ (j : Int)) = false := by simp; omega
                        have e3 : ¬ (y : Int) ≤ (j : Int) := by omega
                        clear epq hyj
                        go_wp2_with fail
                        go_region
                        all_goals go_wp2_with fail
                        go_roundw
                        case rel => exact ⟨j + 1, by omega, by simp, HB2⟩
                        case measure => simp [intOf]; omega
                    · have e : j = x := by omega
                      have hd4 : ¬ ((j : Int) < (x : Int)) := by omega
                      have kw : IntKind.i64.wrap ((y : Int) + 1) = ((y + 1 : Nat) : Int) := by
                        rw [show (y : Int) + 1 = ((y + 1 : Nat) : Int) by omega]; exact wrap_at (by omega) (by omega)
                      obtain ⟨x1, x2, x3, x4, x5⟩ := HX.out
                      have HX2 : Hid (Two w1 s r wr ns12 90 (atoms 90) 90 ∧ Own2 w4.heap.size wr s (.slice (some ⟨kg, 0, none⟩) x c) (sevens x).length ((sevens x).map (Value.int .i64)) ∧ Own2 Br wr s (.slice (some ⟨hg, 0, none⟩) x hc) hs.length (hs.map (Value.int .i64)) ∧ ns8 <+: ns12 ∧ ns12.length ≤ 40090 + 20000 * (y + 1)) := ⟨x1.below HB.out, x2.moved (.ofBelow x1.seat.st.lt HB.out), x3.moved (.ofBelow x1.seat.st.lt HB.out), x4, x5⟩
                      clear x1 x2 x3 x4 x5
                      go_wp2_with fail
                      go_roundw
                      case rel => exact ⟨y + 1, ns12, by omega, by simp, HX2⟩
                      case measure => simp [intOf]; omega
                · have e : y = x := by omega
                  subst e
                  have hd3 : ¬ ((y : Int) < (y : Int)) := by omega
                  have HB9 : Hid (Below w1.heap.size w1 wr) := HI.out.1.low
                  go_wp2_with fail
                  go_ret
                  exact ⟨rfl, on b01 HB9.out⟩

end Go.Proofs.YtmcjincgppddeaaDoor
