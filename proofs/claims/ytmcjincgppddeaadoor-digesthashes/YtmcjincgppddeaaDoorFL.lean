/-
  The document's tree hash.
-/
import Derived.Test.YtmcjincgppddeaaDoorFK
namespace Go.Proofs.YtmcjincgppddeaaDoor
open Go.RowKit
set_option linter.unusedSimpArgs false
set_option linter.unusedVariables false

set_option maxRecDepth 100000 in
set_option maxHeartbeats 2000000 in
theorem RTree_m (hD : DigitsOk) {w : World} {r : Nat} {ns : List Nd} {dr : Int} (h : RefAt w r ns dr) (hw : Wf ns) {g : Int → Tm} {v : Value} {t : Tree} (hf : Fit t) (ht : TR w r v t) (hk : ∀ z : Nat, z < t.length → Known ns g (vx t z)) (hr : (ns.length : Int) + 40000 < 262144) :
    Calls Tryd.prog 20 #[.pointer (some ⟨r, 0, none⟩), v] w fun e w' => ∃ t' ns', e = .returned (.int .i64 t') ∧ RunR r w w' ns ns' dr 40000 ∧ Means ns' t' (treeT g t) := by
  have hs := hf.sh
  have hb := hs.bounds
  have hA := All_m hD h hw hf ht hk hr
  have hri := root_in hs
  have hlr := lev_nn hri
  have htr := ht
  have h63 : t.length ≤ 63 := by omega
  have Hb : Hid ((lv t : Int) - 1 < t.length ∧ 1 ≤ lv t) := by
    have h1 := hs.1
    have := inB_bounds hri
    exact ⟨by omega, by omega⟩
  have Hlr : Hid (0 ≤ lev ((lv t : Int) - 1) ∧ lev ((lv t : Int) - 1) ≤ 5) := hlr
  have hLv := fun (W : World) (hW : TreeAt W v t) => refLeaves_any hW
  clear hr hk hD h hw hlr hri hb
  go_enter Tryd.func20, Tryd.ntmps20
  go_wp2_with fail
  refine hA.mono ?_
  rintro e w1 ⟨kb, xs, ns', rfl, HA, HU⟩
  have ht1 := (htr.moved HA.run.mv).tree
  obtain ⟨k, hk⟩ : ∃ k : Nat, (lv t : Int) - 1 = k := ⟨lv t - 1, by have := Hb.out.2; omega⟩
  have hkl : k < t.length := by have := Hb.out.1; omega
  obtain ⟨y, hy, my⟩ := HU k hkl (.inl (by have := Hlr.out.2; rw [hk] at this; omega))
  have hcl := HA.own.own.cellAt k (by simp [HA.len]; omega)
  have hcy : w1.cell? ⟨kb, k, none⟩ = some (.int .i64 y) := by rw [hcl]; simp [hy]
  have i0 : (0 : Int) ≤ (k : Int) := by omega
  have i1 : (k : Int) < (t.length : Int) := by omega
  have HM : Hid (Means ns' y (treeT g t)) := by
    show Means _ _ _
    unfold treeT
    rw [hk]; exact my
  have HR : Hid (RunR r w w1 ns ns' dr 40000) := HA.run
  have k0 : IntKind.i64.wrap ((lv t : Int) - 1) = (k : Int) := by rw [hk]; exact wrap_fit (by omega) (by omega)
  clear HA HU hcl hy my hA hk
  go_wp2_with (first
    | (go_at_call 29; refine (hLv _ ht1).mono ?_; rintro e w' ⟨rfl, hw2⟩; obtain rfl := hw2.symm)
    | fail)
  go_ret
  exact ⟨y, ns', rfl, HR.out, HM.out⟩

end Go.Proofs.YtmcjincgppddeaaDoor
