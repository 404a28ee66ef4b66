/-
  The hash of a parent; the hash of a place.
-/
import Derived.Test.YtmcjincgppddeaaDoorEC
import Derived.Deep.RegionHeld3
import Derived.Deep.DrawnRows
namespace Go.Proofs.YtmcjincgppddeaaDoor
open Go.RowKit
set_option linter.unusedSimpArgs false
set_option linter.unusedVariables false
attribute [local go_sem ↓] Go.wp_at_zero Go.wp_at_succ

set_option maxRecDepth 100000 in
set_option maxHeartbeats 4000000 in
theorem parentHash_no {w : World} {s : Nat} {ns : List Nd} {dr : Int} (h : Seat w s ns dr) {g : Int → Tm} (key client sig hash : Int) (late : List Int) (a : Option Addr) (n c : Nat) {l r : Int} {L R : Tm} (hl : Means ns l L) (hrr : Means ns r R) (hr : (ns.length : Int) + 12 < 262144) :
    Calls Tryd.prog 72 #[.pointer (some ⟨s, 0, none⟩), .agg #[.bool false, .int .i64 key, .int .i64 client, .int .i64 sig, .int .i64 hash, .slice a n c], .int .i64 l, .int .i64 r] w fun e w' => ∃ t ns', e = .returned (.int .i64 t) ∧ Run s w w' ns ns' dr 80 ∧ Means ns' t (nodeT g ⟨false, key, client, sig, hash, late⟩ L R) := by
  have hs := h.st.lt
  have hT : nodeT g ⟨false, key, client, sig, hash, late⟩ L R = .hash lBlank (listT [L, R]) := by simp [nodeT]
  rw [hT]
  clear hT
  have hal := h.al (.cells #[.bool false, .int .i64 key, .int .i64 client, .int .i64 sig, .int .i64 hash, .slice a n c] 47)
  have hR0 := Run.ofBelow h ((Below.refl _ _).alloc (Nat.le_refl _) (.cells #[.bool false, .int .i64 key, .int .i64 client, .int .i64 sig, .int .i64 hash, .slice a n c] 47))
  have c0 : (w.alloc (.cells #[.bool false, .int .i64 key, .int .i64 client, .int .i64 sig, .int .i64 hash, .slice a n c] 47)).cell? ⟨w.heap.size, 0, none⟩ = some (.bool false) := by go_simp
  obtain ⟨W, hW⟩ : ∃ W, w.alloc (.cells #[.bool false, .int .i64 key, .int .i64 client, .int .i64 sig, .int .i64 hash, .slice a n c] 47) = W := ⟨_, rfl⟩
  have hbl : w.heap.size < W.heap.size := by rw [← hW]; simp
  rw [hW] at hal hR0 c0
  have hln := list_new hal [l, r] (.cons hl (.cons hrr .nil)) (by simp; omega)
  go_enter Tryd.func72, Tryd.ntmps72
  go_wp2_with (rw [hW])
  refine hln.mono ?_
  rintro e w2 ⟨t2, ns2, rfl, r2, m2⟩
  have hst2 := r2.st.len
  have hR2 := hR0.trans r2
  have hhm := hash_m r2.seat lBlank (by decide) (by simp at hst2; omega) m2
  go_wp2_with fail
  refine hhm.mono ?_
  rintro e w3 ⟨t3, ns3, rfl, r3, m3⟩
  go_wp2_with fail
  go_ret
  exact ⟨t3, ns3, rfl, (hR2.trans r3).mono (by simp), m3⟩

set_option maxRecDepth 100000 in
set_option maxHeartbeats 8000000 in
theorem parentHash_yes {w : World} {s : Nat} {ns : List Nd} {dr : Int} (h : Seat w s ns dr) {g : Int → Tm} (key client sig hash : Int) (late : List Int) {lt : Value} (hlt : IS w s lt late) (hlen : late.length ≤ 32) (hle : ∀ i ∈ late, 0 ≤ i ∧ i < 64) {l r : Int} {L R : Tm} (hl : Means ns l L) (hrr : Means ns r R)
    (hk : Has ns g key) (hh : Has ns g hash) (hr : (ns.length : Int) + 200 < 262144) :
    Calls Tryd.prog 72 #[.pointer (some ⟨s, 0, none⟩), .agg #[.bool true, .int .i64 key, .int .i64 client, .int .i64 sig, .int .i64 hash, lt], .int .i64 l, .int .i64 r] w fun e w' => ∃ t ns', e = .returned (.int .i64 t) ∧ Run s w w' ns ns' dr 80 ∧ Means ns' t (nodeT g ⟨true, key, client, sig, hash, late⟩ L R) := by
  have hs := h.st.lt
  have h2 : 2 < w.heap.size := h.tab.size
  have hT : nodeT g ⟨true, key, client, sig, hash, late⟩ L R = .hash lNode (listT [noneT g key, noneT g hash, listT (late.map numT), L, R]) := by simp [nodeT]
  rw [hT]
  clear hT
  obtain ⟨a, c, rfl, _⟩ := id hlt
  have hfr := free_new h.st (.cells #[.bool true, .int .i64 key, .int .i64 client, .int .i64 sig, .int .i64 hash, .slice a late.length c] 47)
  have hb0 : Below w.heap.size w (w.alloc (.cells #[.bool true, .int .i64 key, .int .i64 client, .int .i64 sig, .int .i64 hash, .slice a late.length c] 47)) := (Below.refl _ _).alloc (Nat.le_refl _) _
  have c0 : (w.alloc (.cells #[.bool true, .int .i64 key, .int .i64 client, .int .i64 sig, .int .i64 hash, .slice a late.length c] 47)).cell? ⟨w.heap.size, 0, none⟩ = some (.bool true) := by go_simp
  have e1 : (w.alloc (.cells #[.bool true, .int .i64 key, .int .i64 client, .int .i64 sig, .int .i64 hash, .slice a late.length c] 47)).drew.cell? ⟨w.heap.size, 1, none⟩ = some (.int .i64 key) := by go_simp
  have e4 : (w.alloc (.cells #[.bool true, .int .i64 key, .int .i64 client, .int .i64 sig, .int .i64 hash, .slice a late.length c] 47)).drew.cell? ⟨w.heap.size, 4, none⟩ = some (.int .i64 hash) := by go_simp
  have e5 : (w.alloc (.cells #[.bool true, .int .i64 key, .int .i64 client, .int .i64 sig, .int .i64 hash, .slice a late.length c] 47)).drew.cell? ⟨w.heap.size, 5, none⟩ = some (.slice a late.length c) := by go_simp
  obtain ⟨W, hW⟩ : ∃ W, w.alloc (.cells #[.bool true, .int .i64 key, .int .i64 client, .int .i64 sig, .int .i64 hash, .slice a late.length c] 47) = W := ⟨_, rfl⟩
  have hbW : Below w.heap.size w W.drew := by rw [← hW]; exact hb0.drew
  have hsz : w.heap.size < W.drew.heap.size := by rw [← hW]; simp
  rw [hW] at c0 e1 e4 e5
  have hR := Run.ofBelow h hbW
  have hB : w.heap.size < W.drew.heap.size ∧ ¬ Own W.drew s w.heap.size := by
    refine ⟨hsz, fun ho => ?_⟩
    have := (own_below1 hs hbW _).1 ho
    have := h.st.own_lt this
    omega
  have hIS := hlt.below hs hbW
  have hM : Mean2 ns [] [] := .nil
  clear hfr hb0 hbW hsz
  go_enter Tryd.func72, Tryd.ntmps72
  go_wp2_with (rw [hW])
  go_region_held3 (fun w' => w'.cell? ⟨w.heap.size, 1, none⟩ = some (.int .i64 key) ∧ w'.cell? ⟨w.heap.size, 4, none⟩ = some (.int .i64 hash) ∧ w'.cell? ⟨w.heap.size, 5, none⟩ = some (.slice a late.length c))
    (first | exact ⟨e1, e4, e5⟩ | exact ⟨cell_al _ e1, cell_al _ e4, cell_al _ e5⟩)
    (first
      | (go_at_call_of 92 key; refine (orNone_m hR.seat key (hk.keeps hR.st.pre) ?_).mono ?_; (have := hR.st.len; omega); rintro e w3 ⟨t3, ns3, rfl, r3, m3⟩; have z := fun o => r3.cell hB.1 hB.2 o; replace e1 := (z 1).trans e1; replace e4 := (z 4).trans e4; replace e5 := (z 5).trans e5; replace hIS := hIS.moved r3.mv; replace hM := (hM.keeps r3.st.pre).append (.cons m3 .nil); replace hR := hR.trans r3; replace hB := And.intro (Nat.lt_of_lt_of_le hB.1 r3.mv.size) (r3.mv.free hB.1 hB.2))
      | (go_at_call_of 92 hash; refine (orNone_m hR.seat hash (hh.keeps hR.st.pre) ?_).mono ?_; (have := hR.st.len; omega); rintro e w4 ⟨t4, ns4, rfl, r4, m4⟩; have z := fun o => r4.cell hB.1 hB.2 o; replace e1 := (z 1).trans e1; replace e4 := (z 4).trans e4; replace e5 := (z 5).trans e5; replace hIS := hIS.moved r4.mv; replace hM := (hM.keeps r4.st.pre).append (.cons m4 .nil); replace hR := hR.trans r4; replace hB := And.intro (Nat.lt_of_lt_of_le hB.1 r4.mv.size) (r4.mv.free hB.1 hB.2))
      | (go_at_call 93; refine (numbers_m hR.seat hIS (Nat.le_trans hlen (by decide)) hle ?_).mono ?_; (have := hR.st.len; omega); rintro e w5 ⟨t5, ns5, rfl, r5, m5⟩; have z := fun o => r5.cell hB.1 hB.2 o; replace e1 := (z 1).trans e1; replace e4 := (z 4).trans e4; replace e5 := (z 5).trans e5; replace hM := ((hM.keeps r5.st.pre).append (.cons m5 .nil)).append (.cons (hl.keeps (hR.st.pre.trans r5.st.pre)) (.cons (hrr.keeps (hR.st.pre.trans r5.st.pre)) .nil)); replace hR := hR.trans r5; replace hB := And.intro (Nat.lt_of_lt_of_le hB.1 r5.mv.size) (r5.mv.free hB.1 hB.2))
      | (go_at_call 32; refine (list_new hR.seat [t3, t4, t5, l, r] hM ?_).mono ?_; (have := hR.st.len; simp only [List.length_cons, List.length_nil]; omega); rintro e w6 ⟨t6, ns6, rfl, r6, m6⟩; have z := fun o => r6.cell hB.1 hB.2 o; replace e1 := (z 1).trans e1; replace e4 := (z 4).trans e4; replace e5 := (z 5).trans e5; replace hB := And.intro (Nat.lt_of_lt_of_le hB.1 r6.mv.size) (r6.mv.free hB.1 hB.2); replace hR := hR.trans r6)
      | (go_at_call 31; refine (hash_m hR.seat lNode (by decide) ?_ m6).mono ?_; (have := hR.st.len; simp only [List.length_cons, List.length_nil] at this; omega); rintro e w7 ⟨t7, ns7, rfl, r7, m7⟩; have z := fun o => r7.cell hB.1 hB.2 o; replace e1 := (z 1).trans e1; replace e4 := (z 4).trans e4; replace e5 := (z 5).trans e5; replace hR := hR.trans r7)
      | fail)
  go_wp2_with fail
  go_ret
  exact ⟨t7, ns7, rfl, hR.mono (by simp; omega), m7⟩

/-- What is asked of a tree's numbers at and below a place. -/
structure Known (ns : List Nd) (g : Int → Tm) (u : PV) : Prop where
  key : Has ns g u.key
  sig : Has ns g u.sig
  hash : Has ns g u.hash
  lo : -9223372036854775808 ≤ u.client
  hi : u.client ≤ 9223372036854775807

theorem Known.keeps {ns ns' : List Nd} {g : Int → Tm} {u : PV} (h : Known ns g u) (hp : ns <+: ns') : Known ns' g u := ⟨h.key.keeps hp, h.sig.keeps hp, h.hash.keeps hp, h.lo, h.hi⟩

theorem TS.get {w : World} {s : Nat} {v : Value} {t : Tree} (h : TS w s v t) {x : Nat} {u : PV} (hx : t[x]? = some u) : ∃ b off cap hd, v = .slice (some ⟨b, off, none⟩) t.length cap ∧ b < w.heap.size ∧ ¬ Own w s b ∧ VAt w b (off + x * 6) u hd ∧ IS w s hd u.late := by
  obtain ⟨a, cap, rfl, hl, hc⟩ := h
  obtain ⟨b, off, rfl, h0, h2, h3⟩ := hc (by rintro rfl; simp at hx)
  obtain ⟨hd, k⟩ := h3 x u hx
  exact ⟨b, off, cap, hd, rfl, h2, h0, k.at_, k.late⟩

theorem leafHash_m {w : World} {s : Nat} {ns : List Nd} {dr : Int} (h : Seat w s ns dr) {g : Int → Tm} (i : Int) (hi : 0 ≤ i ∧ i < 64) {u : PV} {hd : Value} (hlt : IS w s hd u.late) (hk : Known ns g u) (hr : (ns.length : Int) + 12 < 262144) :
    Calls Tryd.prog 71 #[.pointer (some ⟨s, 0, none⟩), .int .i64 i, u.val hd] w fun e w' => ∃ t ns', e = .returned (.int .i64 t) ∧ Run s w w' ns ns' dr 12 ∧ Means ns' t (leafT g i u) := by
  obtain ⟨a, c, rfl, _⟩ := hlt
  obtain ⟨full, key, client, sig, hash, late⟩ := u
  cases full with
  | false => exact leafHash_no h i hi key client sig hash late a _ c hr
  | true => exact leafHash_yes h i hi key client sig hash late a _ c hk.key hk.sig hk.hash hk.lo hk.hi hr

theorem parentHash_m {w : World} {s : Nat} {ns : List Nd} {dr : Int} (h : Seat w s ns dr) {g : Int → Tm} {u : PV} {hd : Value} (hlt : IS w s hd u.late) (hlen : u.late.length ≤ 32) (hle : ∀ i ∈ u.late, 0 ≤ i ∧ i < 64) (hk : Known ns g u) {l r : Int} {L R : Tm} (hl : Means ns l L) (hrr : Means ns r R) (hr : (ns.length : Int) + 200 < 262144) :
    Calls Tryd.prog 72 #[.pointer (some ⟨s, 0, none⟩), u.val hd, .int .i64 l, .int .i64 r] w fun e w' => ∃ t ns', e = .returned (.int .i64 t) ∧ Run s w w' ns ns' dr 80 ∧ Means ns' t (nodeT g u L R) := by
  obtain ⟨full, key, client, sig, hash, late⟩ := u
  cases full with
  | false =>
    obtain ⟨a, c, rfl, _⟩ := hlt
    exact parentHash_no h key client sig hash late a _ c hl hrr (by omega)
  | true => exact parentHash_yes h key client sig hash late hlt hlen hle hl hrr hk.key hk.hash hr

end Go.Proofs.YtmcjincgppddeaaDoor
