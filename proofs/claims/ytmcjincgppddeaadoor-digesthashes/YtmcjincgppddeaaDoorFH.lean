/-
  The document's hash of a place that is no leaf.
-/
import Derived.Test.YtmcjincgppddeaaDoorFG
import Derived.Deep.RegionHeld3
import Derived.Deep.DrawnRows
namespace Go.Proofs.YtmcjincgppddeaaDoor
open Go.RowKit
set_option linter.unusedSimpArgs false
set_option linter.unusedVariables false
attribute [local go_sem ↓] Go.wp_at_zero Go.wp_at_succ

theorem RunR.cell {r : Nat} {w w' : World} {ns ns' : List Nd} {dr : Int} {c : Nat} (h : RunR r w w' ns ns' dr c) {b : Nat} (hb : b < w.heap.size) (hn : ¬ OwnR w r b) (o : Nat) : w'.cell? ⟨b, o, none⟩ = w.cell? ⟨b, o, none⟩ :=
  World.cell?_of_block (h.mv.block b hb hn)

theorem RefAt.free_new {w : World} {r : Nat} {ns : List Nd} {dr : Int} (h : RefAt w r ns dr) (o : Obj) : ¬ OwnR (w.alloc o) r w.heap.size := by
  intro hk
  have hb : Below w.heap.size w (w.alloc o) := (Below.refl _ _).alloc (Nat.le_refl _) _
  have := h.own_lt (((h.keep (fun k hk => hb.block k (h.own_lt hk))).2 _).1 hk)
  omega

theorem list_rnew {w : World} {r : Nat} {ns : List Nd} {dr : Int} (h : RefAt w r ns dr) (hw : Wf ns) (l : List Int) {L : List Tm} (hL : Mean2 ns l L) (hr : (ns.length : Int) + l.length + 1 < 262144) :
    Calls Tryd.prog 67 #[.pointer (some ⟨r, 0, none⟩), .slice (some ⟨w.heap.size, 0, none⟩) l.length l.length] (w.alloc (.cells (l.map (Value.int .i64)).toArray 3)) fun e w' => ∃ t ns', e = .returned (.int .i64 t) ∧ RunR r w w' ns ns' dr (l.length + 1) ∧ Means ns' t (listT L) := by
  have hb : Below w.heap.size w (w.alloc (.cells (l.map (Value.int .i64)).toArray 3)) := (Below.refl _ _).alloc (Nat.le_refl _) _
  have hIR : IR (w.alloc (.cells (l.map (Value.int .i64)).toArray 3)) r (.slice (some ⟨w.heap.size, 0, none⟩) l.length l.length) l :=
    ⟨_, l.length, rfl, by omega, fun _ => ⟨w.heap.size, 0, rfl, h.free_new _, by simp, fun i x hi => by
      rw [World.cell?, heap_alloc_new]
      simp [hi]⟩⟩
  refine (list_r (h.below hb) hw hIR hL hr).mono ?_
  rintro e w' ⟨t, ns', rfl, hrun, hm⟩
  exact ⟨t, ns', rfl, .ahead h hw hb hrun, hm⟩

theorem width_half {x : Int} (h0 : 0 ≤ x) (h1 : x < 63) (hl : lev x ≠ 0) : (widthI x + 1) / 2 = halfI x ∧ 0 ≤ widthI x ∧ widthI x ≤ 63 ∧ 1 ≤ halfI x ∧ halfI x ≤ 16 := by
  have := forall_lt 63 (fun x => lev x == 0 || decide ((widthI x + 1) / 2 = halfI x ∧ 0 ≤ widthI x ∧ widthI x ≤ 63 ∧ 1 ≤ halfI x ∧ halfI x ≤ 16)) (by decide +kernel) x h0 h1
  simp only [Bool.or_eq_true, beq_iff_eq, decide_eq_true_eq] at this
  exact this.resolve_left hl

theorem wrap_fit {a : Int} (h0 : -9223372036854775808 ≤ a) (h1 : a ≤ 9223372036854775807) : IntKind.i64.wrap a = a := by
  simp [IntKind.wrap, IntKind.bits, IntKind.signed]
  omega

set_option maxRecDepth 100000 in
set_option maxHeartbeats 4000000 in
theorem one_node_no {w : World} {r : Nat} {ns : List Nd} {dr : Int} (h : RefAt w r ns dr) (hw : Wf ns) {g : Int → Tm} {v : Value} {t : Tree} (ht : TR w r v t) (hlen : t.length ≤ 63) {x y z : Nat} {u : PV} (hx : t[x]? = some u) (hf : u.full = false) (hl0 : lev (x : Int) ≠ 0)
    (ey : (x : Int) - halfI x = y) (ez : (x : Int) + halfI x = z) {kb n c : Nat} (hyn : y < n) (hzn : z < n) (hkb : kb < w.heap.size) (hkf : ¬ OwnR w r kb) {a b : Int} {A B : Tm} (ca : w.cell? ⟨kb, y, none⟩ = some (.int .i64 a)) (cb : w.cell? ⟨kb, z, none⟩ = some (.int .i64 b)) (ma : Means ns a A) (mb : Means ns b B) (hr : (ns.length : Int) + 100 < 262144) :
    Calls Tryd.prog 38 #[.pointer (some ⟨r, 0, none⟩), v, .int .i64 x, .slice (some ⟨kb, 0, none⟩) n c] w fun e w' => ∃ t' ns', e = .returned (.int .i64 t') ∧ RunR r w w' ns ns' dr 80 ∧ Means ns' t' (nodeT g u A B) := by
  have hxl := (List.getElem?_eq_some_iff.1 hx).1
  obtain ⟨wh, wp, wq, wr1, wr2⟩ := width_half (x := x) (by omega) (by omega) hl0
  have hwd := fun W => width_any (x : Int) (by omega) (by omega) (w := W)
  have hodd : (x : Int) % 2 = 1 := by have : ¬ (x : Int) % 2 = 0 := fun e => hl0 ((lev_parity (by omega) (by omega)).2 e); omega
  obtain ⟨b', off, cap, hd, rfl, hbl, hfr, hv, hlt⟩ := ht.get hx
  obtain ⟨ha, hcap, rfl, _⟩ := id hlt
  obtain ⟨c0, c1, c2, c3, c4, c5, _⟩ := hv
  have hS := Sd.begin h hw #[.bool u.full, .int .i64 u.key, .int .i64 u.client, .int .i64 u.sig, .int .i64 u.hash, .slice ha u.late.length hcap]
  obtain ⟨W, hW⟩ : ∃ W, w.alloc (.cells #[.bool u.full, .int .i64 u.key, .int .i64 u.client, .int .i64 u.sig, .int .i64 u.hash, .slice ha u.late.length hcap] 47) = W := ⟨_, rfl⟩
  have hbW : Below w.heap.size w W.drew := by rw [← hW]; exact ((Below.refl _ _).alloc (Nat.le_refl _) _).drew
  rw [hW] at hS
  obtain ⟨d0, d1, d2, d3, d4, d5⟩ := hS.cells
  have i0 : (0 : Int) ≤ (x : Int) := by omega
  have i1 : (x : Int) < (t.length : Int) := by omega
  have i2 : (x : Int).tmod 2 = 1 := by rw [Int.tmod_eq_emod_of_nonneg i0]; exact hodd
  have i3 : (widthI x + 1).tdiv 2 = halfI x := by rw [Int.tdiv_eq_ediv_of_nonneg (by omega)]; exact wh
  generalize halfI (x : Int) = H at *
  generalize widthI (x : Int) = D at *
  have k1 : IntKind.i64.wrap ((x : Int) - H) = (y : Int) := by rw [ey]; exact wrap_fit (by omega) (by omega)
  have k2 : IntKind.i64.wrap ((x : Int) + H) = (z : Int) := by rw [ez]; exact wrap_fit (by omega) (by omega)
  have j0 : (0 : Int) ≤ (y : Int) := by omega
  have j3 : (0 : Int) ≤ (z : Int) := by omega
  clear ey ez
  have j1 : (y : Int) < (n : Int) := by omega
  have j2 : (z : Int) < (n : Int) := by omega
  have Hr : Room ns.length 100 := ⟨hr⟩
  have e1 := (hbW.cell (p := ⟨kb, y, none⟩) hkb).trans ca
  have e2 := (hbW.cell (p := ⟨kb, z, none⟩) hkb).trans cb
  have hR : RunR r w W.drew ns ns dr 0 := .ofBelow h hw hbW
  have hQ : kb < W.drew.heap.size ∧ ¬ OwnR W.drew r kb := ⟨Nat.lt_of_lt_of_le hkb hbW.size, hR.mv.free hkb hkf⟩
  have HT : Hid (nodeT g u A B = .hash lBlank (listT [A, B])) := by show _ = _; unfold nodeT; rw [hf]; rfl
  have hM : Mean2 ns [a, b] [A, B] := .cons ma (.cons mb .nil)
  rw [hf] at d0 hW c0 hS
  rw [HT.out]
  clear hr hlt ht h hw hS hx hl0 hodd ma mb hbW HT hkb hkf ca cb
  go_enter Tryd.func38, Tryd.ntmps38
  go_wp2_with (first
    | (rw [hW])
    | (go_at_call 58; refine (hwd _).mono ?_; rintro e w' ⟨rfl, hw2⟩; obtain rfl := hw2.symm)
    | fail)
  go_region_held3 (fun w' => w'.cell? ⟨kb, y, none⟩ = some (.int .i64 a) ∧ w'.cell? ⟨kb, z, none⟩ = some (.int .i64 b))
    (first | exact ⟨e1, e2⟩ | exact ⟨cell_al _ e1, cell_al _ e2⟩)
    (first
      | (go_at_call 67; refine (list_rnew hR.st hR.stp.wf [a, b] hM ?_).mono ?_; (have := hR.stp.len; have := Hr.out; simp only [List.length_cons, List.length_nil]; omega); rintro e w6 ⟨t6, ns6, rfl, r6, m6⟩; have zz := fun o => r6.cell hQ.1 hQ.2 o; replace e1 := (zz _).trans e1; replace e2 := (zz _).trans e2; replace hQ := And.intro (Nat.lt_of_lt_of_le hQ.1 r6.mv.size) (r6.mv.free hQ.1 hQ.2); replace hR := hR.trans r6)
      | (go_at_call 66; refine (hash_r hR.st hR.stp.wf lBlank (by decide) ?_ m6).mono ?_; (have q := hR.stp.len; have := Hr.out; simp only [List.length_cons, List.length_nil] at q; omega); rintro e w7 ⟨t7, ns7, rfl, r7, m7⟩; have zz := fun o => r7.cell hQ.1 hQ.2 o; replace e1 := (zz _).trans e1; replace e2 := (zz _).trans e2; replace hR := hR.trans r7)
      | fail)
  go_wp2_with fail
  go_ret
  exact ⟨t7, ns7, rfl, hR.mono (by simp), m7⟩

end Go.Proofs.YtmcjincgppddeaaDoor
