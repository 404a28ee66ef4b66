/-
  Whether any list of vertices is a right tree: what comes in, the document's Check, and the law TreeChecks.
-/
import Derived.Test.YtmcjincgppddeaaDoorAr
import Derived.SizedLaws
namespace Go.Proofs.YtmcjincgppddeaaDoor
open Go.RowKit Go.WideShapes Go.ChangeShapes Go.Deep Go.Joins Go.Lib
set_option linter.unusedSimpArgs false
set_option linter.unusedVariables false

theorem bytes3 : Tryd.prog.bytesOf 3 = 8 := by kernel_rfl

theorem open_nums1s {H : Type} {enc : TypeId × Value → H} {W : World} {c : Value} {fuel : Nat} {y : DataW H × List MemPlace} (hf : DataW.trod enc Tryd.prog W 0 (fun _ => true) true fuel 30 [c] = some y) (hw : ∀ n ∈ y.1.weights Tryd.prog 30, n ≤ reachBytes) : ∃ l, IntsAt W c l ∧ l.length * 8 ≤ 140737488355328 := by
  rcases open_ints Tryd.underlying30 Tryd.underlying3 cells3 hf with ⟨hcs, _⟩ | ⟨x, len, cap, zs, hcs, _, hl, hm, hz, hy, hcell, hwz⟩
  · simp at hcs
    subst hcs
    exact ⟨[], ⟨none, 0, rfl, by simp, fun h => absurd rfl h⟩, by simp⟩
  · simp at hcs
    subst hcs
    have hzl : zs.length = cap := by simpa using hz
    have hbytes : zs.length * 8 ≤ 140737488355328 := by
      have := hw (zs.length * 8) (by
        rw [hy]
        simp only [DataW.weights, Tryd.underlying30, bytes3]
        refine List.mem_cons.2 (.inl ?_)
        have : (lits IntKind.i64 (zs.take len) (H := H)).length + (lits IntKind.i64 (zs.drop len) (H := H)).length = zs.length := by simp [lits]; omega
        rw [this])
      have h2 : reachBytes = 140737488351232 := rfl
      omega
    refine ⟨zs.take len, ⟨some x, cap, by simp; omega, by simp; unfold maxLen at hm; omega, fun hne => ?_⟩, by simp; omega⟩
    have hpos : 0 < len := by
      rcases Nat.eq_zero_or_pos len with h0 | h0
      · subst h0; simp at hne
      · exact h0
    have h00 := hcell 0 (by omega)
    have hsp : x.spot = none := by
      have := spot_none h00
      simpa [Addr.add] using this
    obtain ⟨b, off, sp⟩ := x
    simp at hsp
    subst hsp
    refine ⟨b, off, rfl, World.block_lt_of_cell? W _ (by simpa [Addr.add] using h00), fun i y hi => ?_⟩
    have hil : i < len ∧ i < zs.length := by
      have := (List.getElem?_eq_some_iff.1 hi).1
      simp at this; omega
    have ad : ∀ j, (⟨b, off, none⟩ : Addr).add j = ⟨b, off + j, none⟩ := fun j => by unfold Addr.add; split <;> simp_all
    have g := hcell i hil.2
    rw [ad] at g
    rw [g]
    simp [List.getElem?_take, hil.1] at hi
    simp [List.getD, hi]

theorem bytes24 : Tryd.prog.bytesOf 47 = 64 := by kernel_rfl

set_option maxRecDepth 100000 in
theorem open_vcells_s {H : Type} {enc : TypeId × Value → H} {W : World} {c0 c1 c2 c3 c4 c5 : Value} {fuel : Nat} {y : DataW H × List MemPlace} (hf : DataW.trod enc Tryd.prog W 0 (fun _ => true) true fuel 47 [c0, c1, c2, c3, c4, c5] = some y) (hw : ∀ n ∈ y.1.weights Tryd.prog 47, n ≤ reachBytes) :
    ∃ u : PV, c0 = .bool u.full ∧ c1 = .int .i64 u.key ∧ c2 = .int .i64 u.client ∧ c3 = .int .i64 u.sig ∧ c4 = .int .i64 u.hash ∧ IntsAt W c5 u.late ∧ u.late.length * 8 ≤ 140737488355328 := by
  obtain ⟨xs, n, _, rfl, hl, hlen, hfs⟩ := DataW.trod_struct Tryd.underlying47 hf
  match xs, hlen with
  | [y0, y1, y2, y3, y4, y5], _ =>
    have t0 := hfs 0 _ rfl
    have t1 := hfs 1 _ rfl
    have t2 := hfs 2 _ rfl
    have t3 := hfs 3 _ rfl
    have t4 := hfs 4 _ rfl
    have t5 := hfs 5 _ rfl
    simp [cells3, cells4, cells22] at t0 t1 t2 t3 t4 t5
    obtain ⟨x0, q0, _⟩ := DataW.trod_bool Tryd.underlying4 t0
    obtain ⟨x1, q1, _⟩ := DataW.trod_int Tryd.underlying3 t1
    obtain ⟨x2, q2, _⟩ := DataW.trod_int Tryd.underlying3 t2
    obtain ⟨x3, q3, _⟩ := DataW.trod_int Tryd.underlying3 t3
    obtain ⟨x4, q4, _⟩ := DataW.trod_int Tryd.underlying3 t4
    simp at q0 q1 q2 q3 q4
    obtain ⟨l, hl5, hl6⟩ := open_nums1s t5 (fun n hn => hw n (by
      simp only [DataW.weights, Tryd.underlying47]
      exact DataW.weights_mem_each (j := 5) (t := 30) (d := y5.1) rfl rfl n hn))
    exact ⟨⟨x0, x1, x2, x3, x4, l⟩, q0, q1, q2, q3, q4, hl5, hl6⟩

theorem weightsAll_mem {H : Type} {P : Program} {e : TypeId} : ∀ {ds : List (DataW H)} {d : DataW H}, d ∈ ds → ∀ n ∈ d.weights P e, n ∈ DataW.weightsAll P e ds
  | [], d, h, n, hn => by simp at h
  | a :: r, d, h, n, hn => by
    unfold DataW.weightsAll
    rcases List.mem_cons.1 h with rfl | h
    · exact List.mem_append_left _ hn
    · exact List.mem_append_right _ (weightsAll_mem h n hn)

theorem list6 {α : Type} {cs : List α} (h : cs.length = 6) : ∃ c0 c1 c2 c3 c4 c5, cs = [c0, c1, c2, c3, c4, c5] := by
  match cs, h with
  | [c0, c1, c2, c3, c4, c5], _ => exact ⟨c0, c1, c2, c3, c4, c5, rfl⟩

/-- A list of vertices that came in. -/
def TreeIn (W : World) (v : Value) (t : Tree) : Prop := TreeAt W v t ∧ ∀ (x : Nat) (u : PV), t[x]? = some u → u.late.length * 8 ≤ 140737488355328

set_option maxRecDepth 100000 in
theorem open_tree {H : Type} {enc : TypeId × Value → H} {W : World} {r : Reach} {base : Nat} {v : Value} {d : DataW H} {p : List MemPlace} (hv : Value.okWide Tryd.prog W r base 22 v) (h : DataW.Trod enc Tryd.prog W 0 (fun _ => true) true 22 v d p) (hw : ∀ n ∈ d.weights Tryd.prog 22, n ≤ reachBytes) : ∃ t, TreeIn W v t := by
  obtain ⟨a0, len, cap, rfl⟩ := okWide_slice Tryd.underlying22 hv
  obtain ⟨fuel, hf⟩ := h
  rcases open_slice Tryd.underlying22 hf with ⟨hcs, _⟩ | ⟨a, len', cap', m, n, D, Pl, hcs, _, hl, hm, hmm, hx, hel⟩
  · simp [Value.cells] at hcs
    obtain ⟨rfl, rfl, rfl⟩ := hcs
    exact ⟨[], ⟨none, 0, rfl, by simp, fun h => absurd rfl h⟩, by simp⟩
  · simp [Value.cells] at hcs
    obtain ⟨rfl, rfl, rfl⟩ := hcs
    rw [cells24] at hel
    simp only [if_true] at hmm
    have hxd : d = .slice ((List.range len).map D) ((List.range (m - len)).map fun j => D (len + j)) := congrArg Prod.fst hx
    have hwD : ∀ i, i < len → ∀ q ∈ (D i).weights Tryd.prog 47, q ≤ reachBytes := fun i hi q hq => hw q (by
      rw [hxd]
      simp only [DataW.weights, Tryd.underlying22]
      exact List.mem_cons_of_mem _ (List.mem_append_left _ (weightsAll_mem (d := D i) (List.mem_map.2 ⟨i, List.mem_range.2 hi, rfl⟩) q hq)))
    have hlb : len * 64 ≤ 140737488355328 := by
      have := hw ((len + (m - len)) * 64) (by
        rw [hxd]
        simp only [DataW.weights, Tryd.underlying22, bytes24]
        exact List.mem_cons.2 (.inl (by simp)))
      have h2 : reachBytes = 140737488351232 := rfl
      omega
    have key : ∀ i, i < len → ∃ x : PV × Value, (IntsAt W x.2 x.1.late ∧ x.1.late.length * 8 ≤ 140737488355328) ∧ ∀ (r : Nat) (c : Value), (vcells x.1 x.2)[r]? = some c → W.cell? ((a.add (i * 6)).add r) = some c := by
      intro i hi
      obtain ⟨cs', hc, ht⟩ := hel i (by omega)
      obtain ⟨_, hlen, hcell⟩ := World.cells?_some hc
      obtain ⟨c0, c1, c2, c3, c4, c5, rfl⟩ := list6 hlen
      obtain ⟨u, rfl, rfl, rfl, rfl, rfl, hi5, hi6⟩ := open_vcells_s ht (hwD i hi)
      refine ⟨(u, c5), ⟨hi5, hi6⟩, fun r c hrc => ?_⟩
      have h3 := (List.getElem?_eq_some_iff.1 hrc).1
      rw [hcell r (by simpa [vcells] using h3)]
      exact hrc
    obtain ⟨f, hfn⟩ := @choose_lt (PV × Value) ⟨(PV.blank, .bool false)⟩ len _ key
    refine ⟨(List.range len).map fun i => (f i).1, ⟨some a, cap, by simp, by simp; omega, fun hne => ?_⟩, fun x u hu => ?_⟩
    · have hpos : 0 < len := by
        rcases Nat.eq_zero_or_pos len with h0 | h0
        · subst h0; simp at hne
        · exact h0
      have h00 := (hfn 0 hpos).2 0 _ rfl
      have hsp : a.spot = none := by
        have := spot_none h00
        simpa [Addr.add] using this
      obtain ⟨b, off, sp⟩ := a
      simp at hsp
      subst hsp
      have ad2 : ∀ o j, (⟨b, o, none⟩ : Addr).add j = ⟨b, o + j, none⟩ := fun o j => by unfold Addr.add; split <;> simp_all
      refine ⟨b, off, rfl, World.block_lt_of_cell? W _ (by simpa [ad2] using h00), fun i u hi => ?_⟩
      have hil : i < len := by
        have := (List.getElem?_eq_some_iff.1 hi).1
        simpa using this
      simp [hil] at hi
      obtain ⟨⟨g0, _⟩, g1⟩ := hfn i hil
      rw [hi] at g0 g1
      have gc : ∀ r c, (vcells u (f i).2)[r]? = some c → W.cell? ⟨b, off + i * 6 + r, none⟩ = some c := fun r c hrc => by
        have := g1 r c hrc
        rw [ad2, ad2] at this
        exact this
      exact ⟨(f i).2, gc 0 _ rfl, gc 1 _ rfl, gc 2 _ rfl, gc 3 _ rfl, gc 4 _ rfl, gc 5 _ rfl, g0⟩
    · have hil : x < len := by
        have := (List.getElem?_eq_some_iff.1 hu).1
        simpa using this
      simp [hil] at hu
      rw [← hu]
      exact (hfn x hil).1.2

theorem OwnT.tree2 {B : Nat} {w : World} {v : Value} {t : Tree} {hs : List Value} (h : OwnT B w v t hs t.length) (hl : t.length ≤ 200) (hlate : ∀ (x : Nat) (u : PV), t[x]? = some u → (u.late.length : Int) ≤ 9223372036854775807) : TreeAt w v t := by
  by_cases hne : 0 < t.length
  · obtain ⟨g, cap, rfl, hb, hg⟩ := h.form hne
    refine ⟨_, cap, rfl, by omega, fun _ => ⟨g, 0, rfl, hg, fun x u hu => ?_⟩⟩
    have hx := (List.getElem?_eq_some_iff.1 hu).1
    obtain ⟨a, ha⟩ := h.head hx
    obtain ⟨c0, c1, c2, c3, c4, c5⟩ := h.vat hu ha
    rw [Nat.zero_add]
    exact ⟨a, c0, c1, c2, c3, c4, c5, ownsRow_ints (h.late x u a hx hu ha) (hlate x u hu)⟩
  · have : t = [] := List.eq_nil_of_length_eq_zero (by omega)
    subst this
    rcases h.row.2 with ⟨rfl, _⟩ | ⟨g, cap, cur, e, _⟩
    · exact ⟨none, 0, rfl, by simp, fun h => absurd rfl h⟩
    · exact ⟨_, cap, e, by simp, fun h => absurd rfl h⟩

set_option maxRecDepth 100000 in
set_option maxHeartbeats 4000000 in
theorem refCheck_not {w : World} {v : Value} {t : Tree} (ht : TreeAt w v t) (hl : t.length ≤ 200) (hs : shB t = false) :
    Calls Tryd.prog 33 #[v] w fun e w' => e = .returned (.bool false) ∧ w' = w := by
  obtain ⟨va, vcap, rfl, _⟩ := id ht
  have i1 : (t.length : Int) ≤ 200 := by omega
  by_cases ho : t.length % 2 = 0
  · have k1 : ((t.length : Int) % 2 == 0) = true := by simp; omega
    go_enter Tryd.func33, Tryd.ntmps33
    go_wp2_with fail
    go_ret
    exact ⟨rfl, rfl⟩
  · have k1 : ((t.length : Int) % 2 == 0) = false := by simp; omega
    have hr : rightB (lv t) = false := by
      have e : ((t.length : Int) == 2 * lv t - 1) = true := by simp [lv]; omega
      simpa [shB, e] using hs
    have hrr := refRight_any (w := w) (lv t)
    rw [hr] at hrr
    have hlv := refLeaves_any ht
    go_enter Tryd.func33, Tryd.ntmps33
    go_wp2_with first
      | (go_at_call 29; refine hlv.mono ?_; rintro e w' ⟨rfl, hw⟩; obtain rfl := hw.symm)
      | (go_at_call 61; refine hrr.mono ?_; rintro e w' ⟨rfl, hw⟩; obtain rfl := hw.symm)
    go_ret
    exact ⟨rfl, rfl⟩

theorem refCheck_any {w : World} {v : Value} {t : Tree} (ht : TreeAt w v t) (hl : t.length ≤ 200) :
    Calls Tryd.prog 33 #[v] w fun e w' => e = .returned (.bool (checkB t)) ∧ Below w.heap.size w w' := by
  cases hs : shB t with
  | true => exact refCheck_sh ht (shB_iff.1 hs)
  | false =>
    refine (refCheck_not ht hl hs).mono ?_
    rintro e w' ⟨rfl, rfl⟩
    exact ⟨by simp [checkB, hs], Below.refl _ _⟩

end Go.Proofs.YtmcjincgppddeaaDoor
