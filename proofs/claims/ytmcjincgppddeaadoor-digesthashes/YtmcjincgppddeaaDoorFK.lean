/-
  The document's hashes of all places, and of the tree.
-/
import Derived.Test.YtmcjincgppddeaaDoorFJ
namespace Go.Proofs.YtmcjincgppddeaaDoor
open Go.RowKit
set_option linter.unusedSimpArgs false
set_option linter.unusedVariables false

theorem rmake_own {w : World} {r : Nat} {ns : List Nd} {dr : Int} (h : RefAt w r ns dr) (n : Nat) (hn : n ≤ 1000) :
    (Instr.makeSlice 30 (.int .i64 (n : Int)) (.int .i64 (n : Int))).run Tryd.prog w = .ok (.slice (some ⟨w.heap.size, 0, none⟩) n n) (w.alloc (.cells ((List.replicate n 0).map (Value.int .i64)).toArray 3)) ∧
    OwnX w.heap.size (w.alloc (.cells ((List.replicate n 0).map (Value.int .i64)).toArray 3)) r (.slice (some ⟨w.heap.size, 0, none⟩) n n) n ((List.replicate n 0).map (Value.int .i64)) := by
  obtain ⟨i0, hi, hz0, hz1, hz2⟩ := info_parts Tryd.infoI
  have hr := run_make (P := Tryd.prog) w 30 3 i0 (.int .i64 0) Tryd.underlying30 hi hz0 .i64 .i64 n n (by omega) (Int.le_refl _) (by rw [hz2]; omega) (by omega)
  have hc : (Value.int .i64 0).cells = #[.int .i64 0] := rfl
  have e : madeCells (Value.int .i64 0).cells (((n : Nat) : Int).toNat * i0.size) = ((List.replicate n 0).map (Value.int .i64)).toArray := by
    apply Array.ext
    · simp [madeCells, hz1]
    · intro i h1 h2
      simp [madeCells, hz1, hc, Nat.mod_one]
  rw [e] at hr
  refine ⟨by rw [hr]; simp, ⟨by simp, .inr ⟨w.heap.size, n, _, rfl, Nat.le_refl _, heap_alloc_new w _, Nat.le_refl _, by unfold maxLen; omega, by simp, by simp⟩⟩, fun g hg => ?_⟩
  simp [Value.ownBlock] at hg
  subst hg
  exact h.free_new _

/-- Under way: the hashes known so far in a list of the call's own. -/
structure Al (w0 : World) (r kb n : Nat) (W : World) (ns nsj : List Nd) (dr : Int) (c : Nat) (xs : List Int) : Prop where
  run : RunR r w0 W ns nsj dr c
  own : OwnX w0.heap.size W r (.slice (some ⟨kb, 0, none⟩) n n) n (xs.map (Value.int .i64))
  len : xs.length = n

set_option maxRecDepth 100000 in
set_option maxHeartbeats 8000000 in
theorem All_m (hD : DigitsOk) {w : World} {r : Nat} {ns : List Nd} {dr : Int} (h : RefAt w r ns dr) (hw : Wf ns) {g : Int → Tm} {v : Value} {t : Tree} (hf : Fit t) (ht : TR w r v t) (hk : ∀ z : Nat, z < t.length → Known ns g (vx t z)) (hr : (ns.length : Int) + 40000 < 262144) :
    Calls Tryd.prog 13 #[.pointer (some ⟨r, 0, none⟩), v] w fun e w' => ∃ kb xs ns', e = .returned (.slice (some ⟨kb, 0, none⟩) t.length t.length) ∧ Al w r kb t.length w' ns ns' dr 40000 xs ∧ Upto g t ns' xs 6 0 := by
  have hs := hf.sh
  have hb := hs.bounds
  have ht0 := ht
  obtain ⟨va, vcap, rfl, htl, _⟩ := id ht.tree
  obtain ⟨hmk, hown⟩ := rmake_own h t.length (by omega)
  have q22 : ∀ (w : World) (a : Option Addr) (n c : Nat), (Builtin.len_ #[22] 3 #[.slice a n c]).run Tryd.prog w = .ok (goInt n) w := fun w a n c => run_len_slice w _ _ _ _ _ Tryd.underlying22
  have hB : Below w.heap.size w (w.alloc (.cells ((List.replicate t.length 0).map (Value.int .i64)).toArray 3)) := (Below.refl _ _).alloc (Nat.le_refl _) _
  have hA0 : Al w r w.heap.size t.length (w.alloc (.cells ((List.replicate t.length 0).map (Value.int .i64)).toArray 3)) ns ns dr 0 (List.replicate t.length 0) := ⟨.ofBelow h hw hB, hown, by simp⟩
  obtain ⟨w1, hw1⟩ : ∃ w1, w.alloc (.cells ((List.replicate t.length 0).map (Value.int .i64)).toArray 3) = w1 := ⟨_, rfl⟩
  rw [hw1] at hmk hA0
  obtain ⟨kb, hkb⟩ : ∃ kb, w.heap.size = kb := ⟨_, rfl⟩
  rw [hkb] at hmk
  rw [hkb] at hA0
  have HA0 : Hid (Al w r kb t.length w1 ns ns dr 0 (List.replicate t.length 0)) := hA0
  have Hk : Hid (∀ z : Nat, z < t.length → Known ns g (vx t z)) := hk
  have Ht : Hid (TR w r (.slice va t.length vcap) t) := ht0
  have HF : Hid (Fit t) := hf
  have HD : Hid DigitsOk := hD
  have Hr : Room ns.length 40000 := ⟨hr⟩
  have hT63 : t.length ≤ 63 := by omega
  clear hr hk hf hD ht ht0 hown hB hw1 hkb hA0 hs hb htl h hw
  go_enter Tryd.func13, Tryd.ntmps13
  go_wp2_with (first | rw [q22] | rw [hmk] | fail)
  go_loopw [6] (fun kv wr => ∃ (k : Nat) (nsj : List Nd) (xs : List Int), k ≤ 7 ∧ kv = .int .i64 k ∧ Hid (Al w r kb t.length wr ns nsj dr (k * 5040) xs) ∧ Hid (Upto g t nsj xs k 0)) (fun kv _ => 7 - (intOf kv).toNat)
  case atStart => exact ⟨0, ns, _, by omega, rfl, by simpa using HA0, fun z hz hc => by have := lev_nn (x := (z : Int)) (n := lv t) (by have h1 := HF.out.sh.1; have h2 := HF.out.sh.2; simp [inB, h1]; omega); omega⟩
  case round =>
    obtain ⟨k, nsj, xs, hk7, rfl, HA, HU⟩ := hrel
    by_cases hlt : k < 7
    · have l1 : (k : Int) < 7 := by omega
      go_wp2_with (first | rw [q22] | fail)
      go_loopw [7] (fun xv wq => ∃ (x : Nat) (nsq : List Nd) (ys : List Int), x ≤ t.length ∧ xv = .int .i64 x ∧ Hid (Al w r kb t.length wq ns nsq dr (k * 5040 + 80 * x) ys) ∧ Hid (Upto g t nsq ys k x)) (fun xv _ => t.length - (intOf xv).toNat)
      case atStart => exact ⟨0, nsj, xs, Nat.zero_le _, rfl, by simpa using HA, HU⟩
      case round =>
        clear HA HU
        obtain ⟨x, nsq, ys, hx, rfl, HA, HU⟩ := hrel
        by_cases hxl : x < t.length
        · have i1 : (x : Int) < (t.length : Int) := by omega
          have i0 : (0 : Int) ≤ (x : Int) := by omega
          have hlvl := fun W => refLevel_any (x : Int) (by omega) (w := W)
          by_cases hle : lev (x : Int) = k
          · rw [hle] at hlvl
            obtain ⟨hge, hkl, _, cur, hcur⟩ := HA.out.own.head
            have hone := one_any HD.out HA.out.run.st HA.out.run.stp.wf (g := g) HF.out (Ht.out.moved HA.out.run.mv) hxl ((Hk.out x hxl).keeps HA.out.run.stp.pre) hkl (HA.out.own.free kb rfl)
              (fun _ z hz hlz => by
                obtain ⟨y, h1, h2⟩ := HU.out z hz (.inl (by omega))
                refine ⟨y, ?_, h2⟩
                have := HA.out.own.own.cellAt z (by simp [HA.out.len]; omega)
                rw [this]
                simp [h1])
              (by have := HA.out.run.stp.len; have := Hr.out; omega)
            have hge' : Hid (w.heap.size ≤ kb) := hge
            clear hge hcur hkl
            go_wp2_with (first
              | rw [q22]
              | (go_at_call 37; refine (hlvl _).mono ?_; rintro e w' ⟨rfl, hw2⟩; obtain rfl := hw2.symm)
              | fail)
            refine hone.mono ?_
            rintro e w2 ⟨t2, ns2, rfl, r2, m2⟩
            have hO2 := HA.out.own.moved r2.mv
            have hR2 := HA.out.run.trans r2
            obtain ⟨hR3, hO3⟩ := hR2.stored hO2 x (.int .i64 t2)
            obtain ⟨_, hgl, _, cur, hcur⟩ := hO2.head
            have hcl := hO2.own.cellAt x (by simp [HA.out.len]; omega)
            have hfz : w2.frozen? ⟨kb, x, none⟩ = false := frozen_of_heap hcur _
            obtain ⟨u, hcu⟩ : ∃ u, w2.cell? ⟨kb, x, none⟩ = some u := by
              rw [hcl]
              exact ⟨_, List.getElem?_eq_getElem (by simp [HA.out.len]; omega)⟩
            have HA3 : Hid (Al w r kb t.length (w2.setCell ⟨kb, x, none⟩ (.int .i64 t2)) ns ns2 dr (k * 5040 + 80 * x + 80) (ys.set x t2)) := ⟨hR3, by rw [List.map_set]; exact hO3, by simp [HA.out.len]⟩
            have HU3 : Hid (Upto g t ns2 (ys.set x t2) k (x + 1)) := HU.out.put r2.stp.pre (by rw [HA.out.len]; exact hxl) m2
            clear hO2 hR2 hR3 hO3 hcl hcur m2 r2 HA HU hone
            go_wp2_with fail
            go_roundw
            case rel => exact ⟨x + 1, ns2, ys.set x t2, by omega, by go_num, HA3, HU3⟩
            case measure => simp [intOf]; omega
          · have hne : (lev (x : Int) == (k : Int)) = false := by simpa using hle
            have HU3 : Hid (Upto g t nsq ys k (x + 1)) := HU.out.skip hle
            have HA3 : Hid (Al w r kb t.length wr ns nsq dr (k * 5040 + 80 * (x + 1)) ys) := ⟨HA.out.run.mono (by omega), HA.out.own, HA.out.len⟩
            clear HA HU
            go_wp2_with (first
              | rw [q22]
              | (go_at_call 37; refine (hlvl _).mono ?_; rintro e w' ⟨rfl, hw2⟩; obtain rfl := hw2.symm)
              | fail)
            go_roundw
            case rel => exact ⟨x + 1, nsq, ys, by omega, by go_num, HA3, HU3⟩
            case measure => simp [intOf]; omega
        · have e : x = t.length := by omega
          have HU3 : Hid (Upto g t nsq ys (k + 1) 0) := by
            have := HU.out
            rw [e] at this
            exact this.next
          have HA3 : Hid (Al w r kb t.length wr ns nsq dr ((k + 1) * 5040) ys) := ⟨HA.out.run.mono (by omega), HA.out.own, HA.out.len⟩
          clear HA HU
          go_wp2_with (first | rw [q22] | fail)
          go_roundw
          case rel => exact ⟨k + 1, nsq, ys, by omega, by go_num, HA3, HU3⟩
          case measure => simp [intOf]; omega
    · have e : k = 7 := by omega
      subst e
      go_wp2_with fail
      go_ret
      exact ⟨kb, xs, nsj, rfl, ⟨HA.out.run.mono (by omega), HA.out.own, HA.out.len⟩, fun z hz hc => HU.out z hz (by omega)⟩

end Go.Proofs.YtmcjincgppddeaaDoor
