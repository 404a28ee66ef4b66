/-
  The document's hash of one place.
-/
import Derived.Test.YtmcjincgppddeaaDoorFE
import Derived.Test.YtmcjincgppddeaaDoorEF
namespace Go.Proofs.YtmcjincgppddeaaDoor
open Go.RowKit
set_option linter.unusedSimpArgs false
set_option linter.unusedVariables false

theorem TR.get {w : World} {r : Nat} {v : Value} {t : Tree} (h : TR w r v t) {x : Nat} {u : PV} (hx : t[x]? = some u) : ∃ b off cap hd, v = .slice (some ⟨b, off, none⟩) t.length cap ∧ b < w.heap.size ∧ ¬ OwnR w r b ∧ VAt w b (off + x * 6) u hd ∧ IR w r hd u.late := by
  obtain ⟨a, cap, rfl, hl, hc⟩ := h
  obtain ⟨b, off, rfl, h0, h2, h3⟩ := hc (by rintro rfl; simp at hx)
  obtain ⟨hd, k⟩ := h3 x u hx
  exact ⟨b, off, cap, hd, rfl, h2, h0, k.at_, k.late⟩

/-- There is room. -/
structure Room (n k : Nat) : Prop where
  out : (n : Int) + k < 262144

theorem mx1 (n : Nat) (h : n ≤ 100) : n + 1 ≤ maxLen := by unfold maxLen; omega
theorem mx2 (n : Nat) (h : n ≤ 100) : (n + 1) * 8 ≤ 140737488355328 := by omega

theorem lev_parity {x : Int} (h0 : 0 ≤ x) (h1 : x < 63) : lev x = 0 ↔ x % 2 = 0 := by
  have := forall_lt 63 (fun x => (lev x == 0) == (x % 2 == 0)) (by decide +kernel) x h0 h1
  simp only [beq_iff_eq] at this
  constructor
  · intro h; rw [h] at this; simpa using this.symm
  · intro h; rw [h] at this; simpa using this

theorem Sd.begin {w : World} {r : Nat} {ns : List Nd} {dr : Int} (h : RefAt w r ns dr) (hw : Wf ns) (C : Array Value) : Sd w r w.heap.size C (w.alloc (.cells C 47)) ns ns dr 0 (.slice none 0 0) [] := by
  have hb : Below w.heap.size w (w.alloc (.cells C 47)) := (Below.refl _ _).alloc (Nat.le_refl _) _
  refine ⟨.ofBelow h hw hb, heap_alloc_new w _, fun ho => ?_, Nat.le_refl _, .nil _ _ _, by simp [Value.ownBlock]⟩
  have h2 := (h.keep (fun k hk => hb.block k (h.own_lt hk))).2 w.heap.size
  have := h.own_lt (h2.1 ho)
  omega

set_option maxRecDepth 100000 in
set_option maxHeartbeats 4000000 in
theorem one_leaf (hD : DigitsOk) {w : World} {r : Nat} {ns : List Nd} {dr : Int} (h : RefAt w r ns dr) (hw : Wf ns) {g : Int → Tm} {v : Value} {t : Tree} (ht : TR w r v t) (hlen : t.length ≤ 63) {x : Nat} {u : PV} (hx : t[x]? = some u) (hx2 : (x : Int) % 2 = 0) (hk : Known ns g u) (kn : Option Addr) (n c : Nat) (hr : (ns.length : Int) + 20 < 262144) :
    Calls Tryd.prog 38 #[.pointer (some ⟨r, 0, none⟩), v, .int .i64 x, .slice kn n c] w fun e w' => ∃ t' ns', e = .returned (.int .i64 t') ∧ RunR r w w' ns ns' dr 12 ∧ Means ns' t' (leafT g ((x : Int) / 2) u) := by
  have hxl := (List.getElem?_eq_some_iff.1 hx).1
  obtain ⟨b, off, cap, hd, rfl, hbl, hfr, hv, hlt⟩ := ht.get hx
  obtain ⟨ha, hcap, rfl, _⟩ := id hlt
  obtain ⟨c0, c1, c2, c3, c4, c5, _⟩ := hv
  have hS := Sd.begin h hw #[.bool u.full, .int .i64 u.key, .int .i64 u.client, .int .i64 u.sig, .int .i64 u.hash, .slice ha u.late.length hcap]
  obtain ⟨W, hW⟩ : ∃ W, w.alloc (.cells #[.bool u.full, .int .i64 u.key, .int .i64 u.client, .int .i64 u.sig, .int .i64 u.hash, .slice ha u.late.length hcap] 47) = W := ⟨_, rfl⟩
  rw [hW] at hS
  obtain ⟨d0, d1, d2, d3, d4, d5⟩ := hS.cells
  have i0 : (0 : Int) ≤ (x : Int) := by omega
  have i1 : (x : Int) < (t.length : Int) := by omega
  have i2 : (x : Int).tmod 2 = 0 := by rw [Int.tmod_eq_emod_of_nonneg i0]; exact hx2
  have i3 : (x : Int).tdiv 2 = (x : Int) / 2 := Int.tdiv_eq_ediv_of_nonneg i0
  have hq : 0 ≤ (x : Int) / 2 ∧ (x : Int) / 2 < 64 := by omega
  obtain ⟨q, hqe⟩ : ∃ q, (x : Int) / 2 = q := ⟨_, rfl⟩
  rw [hqe] at hq i3
  rw [hqe]
  have Hr : Room ns.length 20 := ⟨hr⟩
  have hnm := number_r hD hS.run.st hS.run.stp.wf q (by omega) (by omega) (by omega)
  have Hk : Hid (Known ns g u) := hk
  obtain ⟨j0, hi, hz0, hz1, hz2⟩ := info_parts Tryd.infoI
  have HD : Hid DigitsOk := hD
  clear hr hk hlt ht hD h hw
  cases hf : u.full with
  | false =>
    rw [hf] at d0 hW c0 hS
    go_enter Tryd.func38, Tryd.ntmps38
    go_wp2_with (rw [hW])
    refine hnm.mono ?_
    rintro e w1 ⟨t1, ns1, rfl, r1, m1⟩
    have hS1 := hS.ran r1
    have M1 : Hid (Mean2 ns1 [t1] [numT q]) := .cons m1 .nil
    clear m1 r1 hnm d0 d1 d2 d3 d4 d5 c0 c1 c2 c3 c4 c5 hqe i3 hx2 hW hS
    generalize Value.slice none 0 0 = v0 at hS1 ⊢
    have o1 : ∀ o, (w1.alloc o).ownsRow w.heap.size 3 1 v0 0 [] := fun o => hS1.own.own.alloc o
    have hsz : ∀ o, w.heap.size ≤ (w1.alloc o).heap.size := hS1.size
    have HS : Hid (Sd w r w.heap.size #[.bool false, .int .i64 u.key, .int .i64 u.client, .int .i64 u.sig, .int .i64 u.hash, .slice ha u.late.length hcap] w1 ns ns1 dr (0 + 1) v0 []) := hS1
    clear hS1
    go_wp2_with (refine wpList_append_own_at _ rfl (.tmp 23) (.tmp 28) 30 rfl w.heap.size 3 j0 (.int .i64 0) 1 8 Tryd.underlying30 hi hz0 hz1 hz2 rfl Nat.one_pos _ 0 _ rfl (o1 _) ⟨w1.heap.size, 0, none⟩ 1 1 [.int .i64 t1] rfl rfl (cell_one_new _ _ _) (one_one _) (mx1 0 (Nat.zero_le _)) (mx2 0 (Nat.zero_le _)) (hsz _) ?_; intro v2 w2 ho hg hnil hl; replace ho := HS.out.app _ ho hg hl; obtain ⟨d0, d1, d2, d3, d4, d5⟩ := ho.cells; clear hg hl hnil)
    have hl := ho.list M1.out (by have := Hr.out; simp; omega)
    have Ho : Hid (Sd w r w.heap.size #[.bool false, .int .i64 u.key, .int .i64 u.client, .int .i64 u.sig, .int .i64 u.hash, .slice ha u.late.length hcap] w2 ns ns1 dr (0 + 1) v2 ([] ++ [t1])) := ho
    clear ho HS o1 hsz
    refine hl.mono ?_
    rintro e w3 ⟨t3, ns3, rfl, r3, m3⟩
    have hS3 := Ho.out.ran r3
    have hh := hash_r hS3.run.st hS3.run.stp.wf lLeaf (by decide) (by have := Hr.out; have := hS3.run.stp.len; simp at this; omega) m3
    have HS3 : Hid (RunR r w w3 ns ns3 dr 3) := hS3.run.mono (by simp)
    clear hS3 d0 d1 d2 d3 d4 d5 m3 r3
    go_wp2_with fail
    refine hh.mono ?_
    rintro e w4 ⟨t4, ns4, rfl, r4, m4⟩
    have HT : Hid (leafT g q u = .hash lLeaf (listT [numT q])) := by show _ = _; unfold leafT; rw [hf]; rfl
    have M4 : Hid (Means ns4 t4 (leafT g q u)) := by rw [HT.out]; exact m4
    have R4 : Hid (RunR r w w4 ns ns4 dr 12) := (HS3.out.trans r4).mono (by omega)
    clear m4 r4 HT
    go_wp2_with fail
    go_ret
    exact ⟨t4, ns4, rfl, R4.out, M4.out⟩
  | true =>
    rw [hf] at d0 hW c0 hS
    go_enter Tryd.func38, Tryd.ntmps38
    go_wp2_with (rw [hW])
    refine hnm.mono ?_
    rintro e w1 ⟨t1, ns1, rfl, r1, m1⟩
    have ho := hS.ran r1
    have M1 : Hid (Mean2 ns1 [t1] [numT q]) := .cons m1 .nil
    clear m1 r1 hnm d0 d1 d2 d3 d4 d5 c0 c1 c2 c3 c4 c5 hqe i3 hx2 hW hS
    generalize Value.slice none 0 0 = v0 at ho ⊢
    have o1 : ∀ o, (w1.alloc o).ownsRow w.heap.size 3 1 v0 0 ([].map (Value.int .i64)) := fun o => ho.own.own.alloc o
    have hsz1 : ∀ o, w.heap.size ≤ (w1.alloc o).heap.size := ho.size
    have HS1 : Hid (Sd w r w.heap.size #[.bool true, .int .i64 u.key, .int .i64 u.client, .int .i64 u.sig, .int .i64 u.hash, .slice ha u.late.length hcap] w1 ns ns1 dr 1 v0 []) := ho
    clear ho
    go_wp2_with (refine wpList_append_own_at _ rfl (.tmp 23) (.tmp 28) 30 rfl w.heap.size 3 j0 (.int .i64 0) 1 8 Tryd.underlying30 hi hz0 hz1 hz2 rfl Nat.one_pos _ 0 _ rfl (o1 _) ⟨w1.heap.size, 0, none⟩ 1 1 [.int .i64 t1] rfl rfl (cell_one_new _ _ _) (one_one _) (mx1 0 (by decide)) (mx2 0 (by decide)) (hsz1 _) ?_; intro v1 y1 ho hg hnil hl; replace ho := HS1.out.app _ ho hg hl; obtain ⟨d0, d1, d2, d3, d4, d5⟩ := ho.cells; clear hg hl hnil o1 hsz1)
    replace ho : Sd w r w.heap.size #[.bool true, .int .i64 u.key, .int .i64 u.client, .int .i64 u.sig, .int .i64 u.hash, .slice ha u.late.length hcap] y1 ns ns1 dr 1 v1 [t1] := ho
    clear HS1 d0 d1 d2 d3 d4 d5
    have hn2 := number_r HD.out ho.run.st ho.run.stp.wf u.client Hk.out.lo Hk.out.hi (by have := Hr.out; have := ho.run.stp.len; omega)
    obtain ⟨d0, d1, d2, d3, d4, d5⟩ := ho.cells
    have Ho2 : Hid (Sd w r w.heap.size #[.bool true, .int .i64 u.key, .int .i64 u.client, .int .i64 u.sig, .int .i64 u.hash, .slice ha u.late.length hcap] y1 ns ns1 dr 1 v1 [t1]) := ho
    clear ho
    refine hn2.mono ?_
    rintro e x2 ⟨t2, ns2, rfl, r2, m2⟩
    have ho := Ho2.out.ran r2
    have M2 : Hid (Mean2 ns2 [t1, t2] [numT q, numT u.client]) := (M1.out.keeps r2.stp.pre).append (.cons m2 .nil)
    clear hn2 Ho2 M1 r2 m2 d0 d1 d2 d3 d4 d5
    have o2 : ∀ o, (x2.alloc o).ownsRow w.heap.size 3 1 v1 1 ([t1].map (Value.int .i64)) := fun o => ho.own.own.alloc o
    have hsz2 : ∀ o, w.heap.size ≤ (x2.alloc o).heap.size := ho.size
    have HS2 : Hid (Sd w r w.heap.size #[.bool true, .int .i64 u.key, .int .i64 u.client, .int .i64 u.sig, .int .i64 u.hash, .slice ha u.late.length hcap] x2 ns ns2 dr 2 v1 [t1]) := ho
    clear ho
    go_wp2_with (refine wpList_append_own_at _ rfl (.tmp 32) (.tmp 37) 30 rfl w.heap.size 3 j0 (.int .i64 0) 1 8 Tryd.underlying30 hi hz0 hz1 hz2 rfl Nat.one_pos _ 1 _ rfl (o2 _) ⟨x2.heap.size, 0, none⟩ 1 1 [.int .i64 t2] rfl rfl (cell_one_new _ _ _) (one_one _) (mx1 1 (by decide)) (mx2 1 (by decide)) (hsz2 _) ?_; intro v2 y2 ho hg hnil hl; replace ho := HS2.out.app _ ho hg hl; obtain ⟨d0, d1, d2, d3, d4, d5⟩ := ho.cells; clear hg hl hnil o2 hsz2)
    replace ho : Sd w r w.heap.size #[.bool true, .int .i64 u.key, .int .i64 u.client, .int .i64 u.sig, .int .i64 u.hash, .slice ha u.late.length hcap] y2 ns ns2 dr 2 v2 [t1, t2] := ho
    clear HS2 d0 d1 d2 d3 d4 d5
    have hn3 := some_r ho.run.st ho.run.stp.wf (g := g) u.key (Hk.out.key.keeps ho.run.stp.pre) (by have := Hr.out; have := ho.run.stp.len; omega)
    obtain ⟨d0, d1, d2, d3, d4, d5⟩ := ho.cells
    have Ho3 : Hid (Sd w r w.heap.size #[.bool true, .int .i64 u.key, .int .i64 u.client, .int .i64 u.sig, .int .i64 u.hash, .slice ha u.late.length hcap] y2 ns ns2 dr 2 v2 [t1, t2]) := ho
    clear ho
    refine hn3.mono ?_
    rintro e x3 ⟨t3, ns3, rfl, r3, m3⟩
    have ho := Ho3.out.ran r3
    have M3 : Hid (Mean2 ns3 [t1, t2, t3] [numT q, numT u.client, noneT g u.key]) := (M2.out.keeps r3.stp.pre).append (.cons m3 .nil)
    clear hn3 Ho3 M2 r3 m3 d0 d1 d2 d3 d4 d5
    have o3 : ∀ o, (x3.alloc o).ownsRow w.heap.size 3 1 v2 2 ([t1, t2].map (Value.int .i64)) := fun o => ho.own.own.alloc o
    have hsz3 : ∀ o, w.heap.size ≤ (x3.alloc o).heap.size := ho.size
    have HS3 : Hid (Sd w r w.heap.size #[.bool true, .int .i64 u.key, .int .i64 u.client, .int .i64 u.sig, .int .i64 u.hash, .slice ha u.late.length hcap] x3 ns ns3 dr 3 v2 [t1, t2]) := ho
    clear ho
    go_wp2_with (refine wpList_append_own_at _ rfl (.tmp 39) (.tmp 44) 30 rfl w.heap.size 3 j0 (.int .i64 0) 1 8 Tryd.underlying30 hi hz0 hz1 hz2 rfl Nat.one_pos _ 2 _ rfl (o3 _) ⟨x3.heap.size, 0, none⟩ 1 1 [.int .i64 t3] rfl rfl (cell_one_new _ _ _) (one_one _) (mx1 2 (by decide)) (mx2 2 (by decide)) (hsz3 _) ?_; intro v3 y3 ho hg hnil hl; replace ho := HS3.out.app _ ho hg hl; obtain ⟨d0, d1, d2, d3, d4, d5⟩ := ho.cells; clear hg hl hnil o3 hsz3)
    replace ho : Sd w r w.heap.size #[.bool true, .int .i64 u.key, .int .i64 u.client, .int .i64 u.sig, .int .i64 u.hash, .slice ha u.late.length hcap] y3 ns ns3 dr 3 v3 [t1, t2, t3] := ho
    clear HS3 d0 d1 d2 d3 d4 d5
    have hn4 := some_r ho.run.st ho.run.stp.wf (g := g) u.sig (Hk.out.sig.keeps ho.run.stp.pre) (by have := Hr.out; have := ho.run.stp.len; omega)
    obtain ⟨d0, d1, d2, d3, d4, d5⟩ := ho.cells
    have Ho4 : Hid (Sd w r w.heap.size #[.bool true, .int .i64 u.key, .int .i64 u.client, .int .i64 u.sig, .int .i64 u.hash, .slice ha u.late.length hcap] y3 ns ns3 dr 3 v3 [t1, t2, t3]) := ho
    clear ho
    refine hn4.mono ?_
    rintro e x4 ⟨t4, ns4, rfl, r4, m4⟩
    have ho := Ho4.out.ran r4
    have M4 : Hid (Mean2 ns4 [t1, t2, t3, t4] [numT q, numT u.client, noneT g u.key, noneT g u.sig]) := (M3.out.keeps r4.stp.pre).append (.cons m4 .nil)
    clear hn4 Ho4 M3 r4 m4 d0 d1 d2 d3 d4 d5
    have o4 : ∀ o, (x4.alloc o).ownsRow w.heap.size 3 1 v3 3 ([t1, t2, t3].map (Value.int .i64)) := fun o => ho.own.own.alloc o
    have hsz4 : ∀ o, w.heap.size ≤ (x4.alloc o).heap.size := ho.size
    have HS4 : Hid (Sd w r w.heap.size #[.bool true, .int .i64 u.key, .int .i64 u.client, .int .i64 u.sig, .int .i64 u.hash, .slice ha u.late.length hcap] x4 ns ns4 dr 4 v3 [t1, t2, t3]) := ho
    clear ho
    go_wp2_with (refine wpList_append_own_at _ rfl (.tmp 46) (.tmp 51) 30 rfl w.heap.size 3 j0 (.int .i64 0) 1 8 Tryd.underlying30 hi hz0 hz1 hz2 rfl Nat.one_pos _ 3 _ rfl (o4 _) ⟨x4.heap.size, 0, none⟩ 1 1 [.int .i64 t4] rfl rfl (cell_one_new _ _ _) (one_one _) (mx1 3 (by decide)) (mx2 3 (by decide)) (hsz4 _) ?_; intro v4 y4 ho hg hnil hl; replace ho := HS4.out.app _ ho hg hl; obtain ⟨d0, d1, d2, d3, d4, d5⟩ := ho.cells; clear hg hl hnil o4 hsz4)
    replace ho : Sd w r w.heap.size #[.bool true, .int .i64 u.key, .int .i64 u.client, .int .i64 u.sig, .int .i64 u.hash, .slice ha u.late.length hcap] y4 ns ns4 dr 4 v4 [t1, t2, t3, t4] := ho
    clear HS4 d0 d1 d2 d3 d4 d5
    have hn5 := some_r ho.run.st ho.run.stp.wf (g := g) u.hash (Hk.out.hash.keeps ho.run.stp.pre) (by have := Hr.out; have := ho.run.stp.len; omega)
    obtain ⟨d0, d1, d2, d3, d4, d5⟩ := ho.cells
    have Ho5 : Hid (Sd w r w.heap.size #[.bool true, .int .i64 u.key, .int .i64 u.client, .int .i64 u.sig, .int .i64 u.hash, .slice ha u.late.length hcap] y4 ns ns4 dr 4 v4 [t1, t2, t3, t4]) := ho
    clear ho
    refine hn5.mono ?_
    rintro e x5 ⟨t5, ns5, rfl, r5, m5⟩
    have ho := Ho5.out.ran r5
    have M5 : Hid (Mean2 ns5 [t1, t2, t3, t4, t5] [numT q, numT u.client, noneT g u.key, noneT g u.sig, noneT g u.hash]) := (M4.out.keeps r5.stp.pre).append (.cons m5 .nil)
    clear hn5 Ho5 M4 r5 m5 d0 d1 d2 d3 d4 d5
    have o5 : ∀ o, (x5.alloc o).ownsRow w.heap.size 3 1 v4 4 ([t1, t2, t3, t4].map (Value.int .i64)) := fun o => ho.own.own.alloc o
    have hsz5 : ∀ o, w.heap.size ≤ (x5.alloc o).heap.size := ho.size
    have HS5 : Hid (Sd w r w.heap.size #[.bool true, .int .i64 u.key, .int .i64 u.client, .int .i64 u.sig, .int .i64 u.hash, .slice ha u.late.length hcap] x5 ns ns5 dr 5 v4 [t1, t2, t3, t4]) := ho
    clear ho
    go_wp2_with (refine wpList_append_own_at _ rfl (.tmp 53) (.tmp 58) 30 rfl w.heap.size 3 j0 (.int .i64 0) 1 8 Tryd.underlying30 hi hz0 hz1 hz2 rfl Nat.one_pos _ 4 _ rfl (o5 _) ⟨x5.heap.size, 0, none⟩ 1 1 [.int .i64 t5] rfl rfl (cell_one_new _ _ _) (one_one _) (mx1 4 (by decide)) (mx2 4 (by decide)) (hsz5 _) ?_; intro v5 y5 ho hg hnil hl; replace ho := HS5.out.app _ ho hg hl; obtain ⟨d0, d1, d2, d3, d4, d5⟩ := ho.cells; clear hg hl hnil o5 hsz5)
    replace ho : Sd w r w.heap.size #[.bool true, .int .i64 u.key, .int .i64 u.client, .int .i64 u.sig, .int .i64 u.hash, .slice ha u.late.length hcap] y5 ns ns5 dr 5 v5 [t1, t2, t3, t4, t5] := ho
    clear HS5 d0 d1 d2 d3 d4 d5
    have hl := ho.list M5.out (by have := Hr.out; simp; omega)
    have Ho : Hid (Sd w r w.heap.size #[.bool true, .int .i64 u.key, .int .i64 u.client, .int .i64 u.sig, .int .i64 u.hash, .slice ha u.late.length hcap] y5 ns ns5 dr 5 v5 [t1, t2, t3, t4, t5]) := ho
    clear ho
    refine hl.mono ?_
    rintro e w6 ⟨t6, ns6, rfl, r6, m6⟩
    have hS6 := Ho.out.ran r6
    have hh := hash_r hS6.run.st hS6.run.stp.wf lLeaf (by decide) (by have := Hr.out; have := hS6.run.stp.len; simp at this; omega) m6
    have HS6 : Hid (RunR r w w6 ns ns6 dr 11) := hS6.run.mono (by simp)
    clear hS6 m6 r6 hl Ho
    go_wp2_with fail
    refine hh.mono ?_
    rintro e w7 ⟨t7, ns7, rfl, r7, m7⟩
    have HT : Hid (leafT g q u = .hash lLeaf (listT [numT q, numT u.client, noneT g u.key, noneT g u.sig, noneT g u.hash])) := by show _ = _; unfold leafT; rw [hf]; rfl
    have M7 : Hid (Means ns7 t7 (leafT g q u)) := by rw [HT.out]; exact m7
    have R7 : Hid (RunR r w w7 ns ns7 dr 12) := (HS6.out.trans r7).mono (by omega)
    clear m7 r7 HT
    go_wp2_with fail
    go_ret
    exact ⟨t7, ns7, rfl, R7.out, M7.out⟩

end Go.Proofs.YtmcjincgppddeaaDoor
