/-
  The document's hash of a place that is no leaf and is full.
-/
import Derived.Test.YtmcjincgppddeaaDoorFH
namespace Go.Proofs.YtmcjincgppddeaaDoor
open Go.RowKit
set_option linter.unusedSimpArgs false
set_option linter.unusedVariables false
attribute [local go_sem ↓] Go.wp_at_zero Go.wp_at_succ

set_option maxRecDepth 100000 in
set_option maxHeartbeats 8000000 in
theorem one_node_yes (hD : DigitsOk) {w : World} {r : Nat} {ns : List Nd} {dr : Int} (h : RefAt w r ns dr) (hw : Wf ns) {g : Int → Tm} {v : Value} {t : Tree} (ht : TR w r v t) (hlen : t.length ≤ 63) {x y z : Nat} {u : PV} (hx : t[x]? = some u) (hf : u.full = true) (hll : u.late.length ≤ 32) (hle : ∀ i ∈ u.late, 0 ≤ i ∧ i < 64) (hk : Known ns g u) (hl0 : lev (x : Int) ≠ 0)
    (ey : (x : Int) - halfI x = y) (ez : (x : Int) + halfI x = z) {kb n c : Nat} (hyn : y < n) (hzn : z < n) (hkb : kb < w.heap.size) (hkf : ¬ OwnR w r kb) {a b : Int} {A B : Tm} (ca : w.cell? ⟨kb, y, none⟩ = some (.int .i64 a)) (cb : w.cell? ⟨kb, z, none⟩ = some (.int .i64 b)) (ma : Means ns a A) (mb : Means ns b B) (hr : (ns.length : Int) + 100 < 262144) :
    Calls Tryd.prog 38 #[.pointer (some ⟨r, 0, none⟩), v, .int .i64 x, .slice (some ⟨kb, 0, none⟩) n c] w fun e w' => ∃ t' ns', e = .returned (.int .i64 t') ∧ RunR r w w' ns ns' dr 80 ∧ Means ns' t' (nodeT g u A B) := by
  have hxl := (List.getElem?_eq_some_iff.1 hx).1
  obtain ⟨wh, wp, wq, wr1, wr2⟩ := width_half (x := x) (by omega) (by omega) hl0
  have hwd := fun W => width_any (x : Int) (by omega) (by omega) (w := W)
  have hodd : (x : Int) % 2 = 1 := by have : ¬ (x : Int) % 2 = 0 := fun e => hl0 ((lev_parity (by omega) (by omega)).2 e); omega
  obtain ⟨b', off, cap, hd, rfl, hbl, hfr, hv, hlt⟩ := ht.get hx
  obtain ⟨ha, hcap, rfl, _⟩ := id hlt
  obtain ⟨c0, c1, c2, c3, c4, c5, _⟩ := hv
  have hS := Sd.begin h hw #[.bool u.full, .int .i64 u.key, .int .i64 u.client, .int .i64 u.sig, .int .i64 u.hash, .slice ha u.late.length hcap]
  obtain ⟨W, hW⟩ : ∃ W, w.alloc (.cells #[.bool u.full, .int .i64 u.key, .int .i64 u.client, .int .i64 u.sig, .int .i64 u.hash, .slice ha u.late.length hcap] 47) = W := ⟨_, rfl⟩
  have hbW : Below w.heap.size w W.drew := by rw [← hW]; exact ((Below.refl _ _).alloc (Nat.le_refl _) _).drew
  rw [hW] at hS
  obtain ⟨d0, d1, d2, d3, d4, d5⟩ := hS.cells
  have i0 : (0 : Int) ≤ (x : Int) := by omega
  have i1 : (x : Int) < (t.length : Int) := by omega
  have i2 : (x : Int).tmod 2 = 1 := by rw [Int.tmod_eq_emod_of_nonneg i0]; exact hodd
  have i3 : (widthI x + 1).tdiv 2 = halfI x := by rw [Int.tdiv_eq_ediv_of_nonneg (by omega)]; exact wh
  generalize halfI (x : Int) = H at *
  generalize widthI (x : Int) = D at *
  have k1 : IntKind.i64.wrap ((x : Int) - H) = (y : Int) := by rw [ey]; exact wrap_fit (by omega) (by omega)
  have k2 : IntKind.i64.wrap ((x : Int) + H) = (z : Int) := by rw [ez]; exact wrap_fit (by omega) (by omega)
  have j0 : (0 : Int) ≤ (y : Int) := by omega
  have j3 : (0 : Int) ≤ (z : Int) := by omega
  clear ey ez
  have j1 : (y : Int) < (n : Int) := by omega
  have j2 : (z : Int) < (n : Int) := by omega
  have Hr : Room ns.length 100 := ⟨hr⟩
  have e1 := (hbW.cell (p := ⟨kb, y, none⟩) hkb).trans ca
  have e2 := (hbW.cell (p := ⟨kb, z, none⟩) hkb).trans cb
  have hR : RunR r w W.drew ns ns dr 0 := .ofBelow h hw hbW
  have hQ : kb < W.drew.heap.size ∧ ¬ OwnR W.drew r kb := ⟨Nat.lt_of_lt_of_le hkb hbW.size, hR.mv.free hkb hkf⟩
  have HT : Hid (nodeT g u A B = .hash lNode (listT [noneT g u.key, noneT g u.hash, listT (u.late.map numT), A, B])) := by show _ = _; unfold nodeT; rw [hf]; rfl
  have HM : Hid (Means ns a A ∧ Means ns b B) := ⟨ma, mb⟩
  have Hk : Hid (Known ns g u) := hk
  have Hle : Hid (∀ i ∈ u.late, 0 ≤ i ∧ i < 64) := hle
  have HD : Hid DigitsOk := hD
  have Hlt : Hid (IR w r (.slice ha u.late.length hcap) u.late) := hlt
  have Hca : Hid (w.cell? ⟨kb, y, none⟩ = some (.int .i64 a) ∧ w.cell? ⟨kb, z, none⟩ = some (.int .i64 b)) := ⟨ca, cb⟩
  have Hkb : Hid (kb < w.heap.size ∧ ¬ OwnR w r kb) := ⟨hkb, hkf⟩
  obtain ⟨j0', hi, hz0, hz1, hz2⟩ := info_parts Tryd.infoI
  rw [hf] at d0 hW c0 hS
  rw [HT.out]
  have hS0 := hS
  clear hr hlt ht h hw hS hx hl0 hodd ma mb hbW HT hkb hkf ca cb e1 e2 hR hQ hk hle hD
  have q30 : ∀ (w : World) (a : Option Addr) (n c : Nat), (Builtin.len_ #[30] 3 #[.slice a n c]).run Tryd.prog w = .ok (goInt n) w := fun w a n c => run_len_slice w _ _ _ _ _ Tryd.underlying30
  go_enter Tryd.func38, Tryd.ntmps38
  go_wp2_with (first
    | (rw [hW])
    | rw [q30]
    | (go_at_call 58; refine (hwd _).mono ?_; rintro e w' ⟨rfl, hw2⟩; obtain rfl := hw2.symm)
    | fail)
  clear d0 d1 d2 d3 d4 d5 c0 c1 c2 c3 c4 c5 hW wh i3 hwd
  go_loopw [10, 12] (fun v k wr => ∃ (done : List Int) (nsj : List Nd), done.length ≤ u.late.length ∧ k = .int .i64 done.length ∧ Sd w r w.heap.size #[.bool true, .int .i64 u.key, .int .i64 u.client, .int .i64 u.sig, .int .i64 u.hash, .slice ha u.late.length hcap] wr ns nsj dr done.length v done ∧ Hid (Mean2 nsj done ((u.late.take done.length).map numT))) (fun _ k _ => u.late.length - (intOf k).toNat)
  case atStart => exact ⟨[], ns, Nat.zero_le _, rfl, hS0, .nil⟩
  case round =>
    clear hS0
    obtain ⟨done, nsj, hd, rfl, hS, hM⟩ := hrel
    obtain ⟨d0, d1, d2, d3, d4, d5⟩ := hS.cells
    by_cases hlt : done.length < u.late.length
    · obtain ⟨xi, hxi⟩ : ∃ xi, u.late[done.length]? = some xi := ⟨u.late[done.length], List.getElem?_eq_getElem _⟩
      obtain ⟨lb, loff, cap', e1, hb, hcx⟩ : ∃ lb loff cap', (Value.slice ha u.late.length hcap) = .slice (some ⟨lb, loff, none⟩) u.late.length cap' ∧ lb < wr.heap.size ∧ wr.cell? ⟨lb, loff + done.length, none⟩ = some (.int .i64 xi) := by
        obtain ⟨a', cap', e, _, hc⟩ := (Hlt.out.moved hS.run.mv).ints
        obtain ⟨b, off, rfl, h4, h5⟩ := hc (by intro e; rw [e] at hlt; simp at hlt)
        exact ⟨b, off, cap', e, h4, h5 _ _ hxi⟩
      cases e1
      have hx2 := Hle.out xi (List.mem_of_getElem? hxi)
      have Hx : Hid (u.late[done.length]? = some xi) := hxi
      have l1 : (done.length : Int) < (u.late.length : Int) := by omega
      have hnm := number_r HD.out hS.run.st hS.run.stp.wf xi (by omega) (by omega) (by have := Hr.out; have := hS.run.stp.len; omega)
      have HS : Hid (Sd w r w.heap.size #[.bool true, .int .i64 u.key, .int .i64 u.client, .int .i64 u.sig, .int .i64 u.hash, .slice (some ⟨lb, loff, none⟩) u.late.length hcap] wr ns nsj dr done.length u10 done) := hS
      clear hxi hS
      go_wp2_with (first | rw [q30] | fail)
      refine hnm.mono ?_
      rintro e w2 ⟨t, ns2, rfl, r2, m2⟩
      have hS2 := HS.out.ran r2
      have HM2 : Hid (Mean2 ns2 (done ++ [t]) ((u.late.take (done ++ [t]).length).map numT)) := by
        show Mean2 _ _ _
        have e3 : u.late.take (done ++ [t]).length = u.late.take done.length ++ [xi] := by
          rw [List.length_append, List.length_singleton, List.take_add_one, Hx.out]; rfl
        rw [e3, List.map_append]
        exact (hM.out.keeps r2.stp.pre).append (.cons m2 .nil)
      have o1 : ∀ o, (w2.alloc o).ownsRow w.heap.size 3 1 u10 done.length (done.map (Value.int .i64)) := fun o => hS2.own.own.alloc o
      have hsz : ∀ o, w.heap.size ≤ (w2.alloc o).heap.size := hS2.size
      have HS2 : Hid (Sd w r w.heap.size #[.bool true, .int .i64 u.key, .int .i64 u.client, .int .i64 u.sig, .int .i64 u.hash, .slice (some ⟨lb, loff, none⟩) u.late.length hcap] w2 ns ns2 dr (done.length + 1) u10 done) := hS2
      have mm1 := mx1 done.length (by omega)
      have mm2 := mx2 done.length (by omega)
      have Mm1 : Hid (done.length + 1 ≤ maxLen) := mm1
      have Mm2 : Hid ((done.length + 1) * 8 ≤ 140737488355328) := mm2
      clear hS2 HS hM hnm m2 r2 d0 d1 d2 d3 d4 d5 mm1 mm2 hcx
      go_wp2_with (refine wpList_append_own_at _ rfl (.tmp 96) (.tmp 104) 30 rfl w.heap.size 3 j0' (.int .i64 0) 1 8 Tryd.underlying30 hi hz0 hz1 hz2 rfl Nat.one_pos _ done.length _ rfl (o1 _) ⟨w2.heap.size, 0, none⟩ 1 1 [.int .i64 t] rfl rfl (cell_one_new _ _ _) (one_one _) Mm1.out Mm2.out (hsz _) ?_; intro v3 w3 ho hg hnil hl; replace ho := HS2.out.app _ ho hg hl; clear hg hl hnil)
      go_roundw
      case rel => exact ⟨done ++ [t], ns2, by rw [List.length_append, List.length_singleton]; omega, by rw [List.length_append, List.length_singleton]; go_num, by simpa using ho, HM2⟩
      case measure => simp [intOf]; omega
    · have e : done.length = u.late.length := by omega
      have hM' : Hid (Mean2 nsj done (u.late.map numT)) := by
        show Mean2 _ _ _
        have := hM.out
        rw [e, List.take_length] at this
        exact this
      have hlb : done.length ≤ 32 := by omega
      have hl := hS.list hM'.out (by have := Hr.out; omega)
      have HS : Hid (Sd w r w.heap.size #[.bool true, .int .i64 u.key, .int .i64 u.client, .int .i64 u.sig, .int .i64 u.hash, .slice ha u.late.length hcap] wr ns nsj dr done.length u10 done) := hS
      clear hS hM
      go_wp2_with (first | rw [q30] | fail)
      refine hl.mono ?_
      rintro e w3 ⟨t3, ns3, rfl, r3, m3⟩
      have hS3 := HS.out.ran r3
      clear d0 d1 d2 d3 d4 d5 HS hl
      obtain ⟨d0, d1, d2, d3, d4, d5⟩ := hS3.cells
      have hk3 := some_r hS3.run.st hS3.run.stp.wf (g := g) u.key (Hk.out.key.keeps hS3.run.stp.pre) (by have := Hr.out; have := hS3.run.stp.len; omega)
      have M3 : Hid (Means ns3 t3 (listT (u.late.map numT))) := m3
      have HS3 : Hid (Sd w r w.heap.size #[.bool true, .int .i64 u.key, .int .i64 u.client, .int .i64 u.sig, .int .i64 u.hash, .slice ha u.late.length hcap] w3 ns ns3 dr (done.length + (done.length + 1)) u10 done) := hS3
      clear hS3 r3 m3
      go_wp2_with fail
      refine hk3.mono ?_
      rintro e w4 ⟨t4, ns4, rfl, r4, m4⟩
      have hS4 := HS3.out.ran r4
      clear d0 d1 d2 d3 d4 d5 HS3 hk3
      obtain ⟨d0, d1, d2, d3, d4, d5⟩ := hS4.cells
      have hk4 := some_r hS4.run.st hS4.run.stp.wf (g := g) u.hash (Hk.out.hash.keeps hS4.run.stp.pre) (by have := Hr.out; have := hS4.run.stp.len; omega)
      have M4 : Hid (Means ns4 t4 (noneT g u.key) ∧ Means ns4 t3 (listT (u.late.map numT))) := ⟨m4, M3.out.keeps r4.stp.pre⟩
      have HS4 : Hid (Sd w r w.heap.size #[.bool true, .int .i64 u.key, .int .i64 u.client, .int .i64 u.sig, .int .i64 u.hash, .slice ha u.late.length hcap] w4 ns ns4 dr (done.length + (done.length + 1) + 1) u10 done) := hS4
      clear hS4 r4 m4 M3
      go_wp2_with fail
      refine hk4.mono ?_
      rintro e w5 ⟨t5, ns5, rfl, r5, m5⟩
      have hS5 := HS4.out.ran r5
      have hR : RunR r w w5.drew ns ns5 dr (done.length + (done.length + 1) + 1 + 1) := hS5.run.after ((Below.refl _ _).drew)
      have hM : Mean2 ns5 [t4, t5, t3, a, b] [noneT g u.key, noneT g u.hash, listT (u.late.map numT), A, B] :=
        .cons (M4.out.1.keeps r5.stp.pre) (.cons m5 (.cons (M4.out.2.keeps r5.stp.pre) (.cons (HM.out.1.keeps hR.stp.pre) (.cons (HM.out.2.keeps hR.stp.pre) .nil))))
      have e1 := (hR.cell Hkb.out.1 Hkb.out.2 y).trans Hca.out.1
      have e2 := (hR.cell Hkb.out.1 Hkb.out.2 z).trans Hca.out.2
      have hQ : kb < w5.drew.heap.size ∧ ¬ OwnR w5.drew r kb := ⟨Nat.lt_of_lt_of_le Hkb.out.1 hR.mv.size, hR.mv.free Hkb.out.1 Hkb.out.2⟩
      clear d0 d1 d2 d3 d4 d5 HS4 hk4 hS5 r5 m5 M4
      go_wp2_with fail
      go_region_held3 (fun w' => w'.cell? ⟨kb, y, none⟩ = some (.int .i64 a) ∧ w'.cell? ⟨kb, z, none⟩ = some (.int .i64 b))
        (first | exact ⟨e1, e2⟩ | exact ⟨cell_al _ e1, cell_al _ e2⟩)
        (first
          | (go_at_call 67; refine (list_rnew hR.st hR.stp.wf [t4, t5, t3, a, b] hM ?_).mono ?_; (have := hR.stp.len; have := Hr.out; simp only [List.length_cons, List.length_nil]; omega); rintro e w6 ⟨t6, ns6, rfl, r6, m6⟩; have zz := fun o => r6.cell hQ.1 hQ.2 o; replace e1 := (zz _).trans e1; replace e2 := (zz _).trans e2; replace hQ := And.intro (Nat.lt_of_lt_of_le hQ.1 r6.mv.size) (r6.mv.free hQ.1 hQ.2); replace hR := hR.trans r6)
          | (go_at_call 66; refine (hash_r hR.st hR.stp.wf lNode (by decide) ?_ m6).mono ?_; (have q := hR.stp.len; have := Hr.out; simp only [List.length_cons, List.length_nil] at q; omega); rintro e w7 ⟨t7, ns7, rfl, r7, m7⟩; have zz := fun o => r7.cell hQ.1 hQ.2 o; replace e1 := (zz _).trans e1; replace e2 := (zz _).trans e2; replace hR := hR.trans r7)
          | fail)
      go_wp2_with fail
      go_ret
      exact ⟨t7, ns7, rfl, hR.mono (by simp; omega), m7⟩

end Go.Proofs.YtmcjincgppddeaaDoor
