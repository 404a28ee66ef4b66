/-
  Lists put together: append of a whole list, slices.Grow, slices.Concat.
-/
import Derived.Test.YtmcjincgppddeaaDoorTA
import Derived.Lib.AppendZeros
import Derived.Lib.AppendZerosOnto
namespace Go.Proofs.YtmcjincgppddeaaDoor
open Go.RowKit 
set_option linter.unusedSimpArgs false
set_option linter.unusedVariables false

/-- A list of numbers in a row of its own. -/
abbrev OwnI (B : Nat) (W : World) (v : Value) (l : List Int) : Prop := W.ownsRow B 3 1 v l.length (l.map (Value.int .i64))

theorem run_append_ints (w : World) (ty : TypeId) (base : Nat) (v : Value) (n : Nat) (xs : List Value) (hown : w.ownsRow base 3 1 v n xs) (vx : Value) (l : List Int) (hx : IntsAt w vx l)
    (h63 : n + l.length ≤ maxLen) (hb : (n + l.length) * 8 ≤ 140737488355328) (hbase : base ≤ w.heap.size) :
    ∃ v' w', (Builtin.append_ #[30, 30] ty #[v, vx]).run Tryd.prog w = .ok v' w' ∧ w'.ownsRow base 3 1 v' (n + l.length) (xs ++ l.map (Value.int .i64)) ∧ w.grownBy w' v.ownBlock ∧ (v'.ownBlock = v.ownBlock ∨ v'.ownBlock = some w.heap.size) := by
  obtain ⟨i0, hi, hz0, hz1, hz2⟩ := info_parts Tryd.infoI
  obtain ⟨a, cap, rfl, hl, hc⟩ := hx
  cases a with
  | none =>
    have hl0 : l = [] := by
      rcases Decidable.em (l.length = 0) with h | h
      · exact List.eq_nil_of_length_eq_zero h
      · obtain ⟨b, off, e, _⟩ := hc (by rintro rfl; simp at h)
        cases e
    subst hl0
    refine ⟨v, w, ?_, by simpa using hown, ⟨rfl, rfl, rfl, Nat.le_refl _, fun _ _ _ => rfl⟩, Or.inl rfl⟩
    rcases hown.2 with ⟨rfl, rfl⟩ | ⟨g, cap', cur, rfl, _, _, hnc, _⟩
    · simp [Builtin.append_, run_underlying Tryd.underlying30, sizeOf, typeInfo, hi, Builtin.lenOf, Builtin.firstCells]
    · simp [Builtin.append_, run_underlying Tryd.underlying30, sizeOf, typeInfo, hi, Builtin.lenOf, Builtin.firstCells, hnc, storeCells]
  | some ad =>
    obtain ⟨v', w', hr, h2, h3, h4, h5⟩ := run_append_own_at (P := Tryd.prog) w base 30 ty 3 i0 (.int .i64 0) 1 8 Tryd.underlying30 hi hz0 hz1 hz2 rfl (by decide) v n xs hown ad l.length cap (l.map (Value.int .i64)) (by simp) (fun j u hu => by
      have hne : l ≠ [] := by rintro rfl; simp at hu
      obtain ⟨b, off, e, _, hcell⟩ := hc hne
      cases e
      simp at hu
      obtain ⟨x, hx, rfl⟩ := hu
      have : (⟨b, off, none⟩ : Addr).add j = ⟨b, off + j, none⟩ := by unfold Addr.add; split <;> simp_all
      rw [this]
      exact hcell j x hx) (by intro u hu; simp at hu; obtain ⟨x, _, rfl⟩ := hu; rfl) h63 hb hbase
    exact ⟨v', w', hr, h2, h3, h5⟩

set_option maxHeartbeats 1000000 in
set_option maxRecDepth 100000 in
theorem grow_any (n : Nat) (hn : 0 < n) (hb : n ≤ 65536) (w : World) :
    Calls Tryd.prog 110 #[.slice none 0 0, .int .i64 n] w fun e w' => ∃ v', e = .returned v' ∧ w'.ownsRow w.heap.size 3 1 v' 0 [] ∧ Below w.heap.size w w' := by
  obtain ⟨i0, hi, hz0, hz1, hz2⟩ := info_parts Tryd.infoI
  have hrun := Lib.run_append_grow_zeros (P := Tryd.prog) w 30 3 30 3 i0 (.int .i64 0) .i64 .i64 Tryd.underlying30 Tryd.underlying3 hi hz0 none 0 0 [] (by simp [Builtin.firstCells]) n hn (by omega) (by omega) (by omega) (by rw [hz2]; omega) (by rw [hz2]; exact growslice_fits (by omega) (by omega))
  have hge := grownCap_ge w (0 + n) 0 3
  have hle := grownCap_le_maxLen w (0 + n) 0 3 (by unfold maxLen; omega)
  obtain ⟨G, hG⟩ : ∃ G, grownCap w (0 + n) 0 3 = G := ⟨_, rfl⟩
  rw [hG] at hrun hge hle
  have hml : maxLen = 9223372036854775807 := rfl
  have i1 : (0 : Int) < (n : Int) := by omega
  go_enter Tryd.func110, Tryd.ntmps110
  go_wp2_with (refine Lib.wpList_append_run _ rfl (.tmp 20) (.tmp 21) 30 3 rfl _ _ rfl rfl _ _ hrun ?_)
  go_ret
  refine ⟨_, rfl, (World.ownsRow_made w _ G (Nat.le_refl _) hle ?_).drew, ((Below.refl _ w).alloc (Nat.le_refl _) _).drew⟩
  simp [Builtin.zeroCells]
  omega

set_option maxHeartbeats 1000000 in
set_option maxRecDepth 100000 in
theorem grow_zero (w : World) :
    Calls Tryd.prog 110 #[.slice none 0 0, .int .i64 0] w fun e w' => e = .returned (.slice none 0 0) ∧ w' = w := by
  go_enter Tryd.func110, Tryd.ntmps110
  go_wp2_with fail
  go_ret
  exact ⟨rfl, rfl⟩

theorem grow_all (n : Nat) (hb : n ≤ 65536) (w : World) :
    Calls Tryd.prog 110 #[.slice none 0 0, .int .i64 n] w fun e w' => ∃ v', e = .returned v' ∧ w'.ownsRow w.heap.size 3 1 v' 0 [] ∧ Below w.heap.size w w' := by
  by_cases h : n = 0
  · subst h
    refine (grow_zero w).mono ?_
    rintro e w' ⟨rfl, rfl⟩
    exact ⟨_, rfl, World.ownsRow_nil _ _ _ _, Below.refl _ _⟩
  · exact grow_any n (by omega) hb w

set_option maxHeartbeats 2000000 in
set_option maxRecDepth 100000 in
theorem concat_any {w : World} {p : Nat} {va vb : Value} {a b : List Int} (c0 : w.cell? ⟨p, 0, none⟩ = some va) (c1 : w.cell? ⟨p, 1, none⟩ = some vb) (ha : IntsAt w va a) (hb : IntsAt w vb b) (hla : a.length ≤ 16384) (hlb : b.length ≤ 16384) :
    Calls Tryd.prog 98 #[.slice (some ⟨p, 0, none⟩) 2 2] w fun e w' => ∃ v', e = .returned v' ∧ OwnI w.heap.size w' v' (a ++ b) ∧ Below w.heap.size w w' := by
  have hpw : p < w.heap.size := World.block_lt_of_cell? w _ c0
  have hia := ha
  have hib := hb
  obtain ⟨aa, capa, rfl, _, _⟩ := ha
  obtain ⟨ab, capb, rfl, _, _⟩ := hb
  have i1 : (a.length : Int) ≤ 16384 := by omega
  have i2 : (b.length : Int) ≤ 16384 := by omega
  go_enter Tryd.func98, Tryd.ntmps98
  go_wp2_with fail
  go_loop [3, 11] (fun s k => (k = .int .i64 0 ∧ s = .int .i64 0) ∨ (k = .int .i64 1 ∧ s = .int .i64 a.length) ∨ (k = .int .i64 2 ∧ s = .int .i64 (a.length + b.length))) (fun _ k => 2 - (intOf k).toNat)
  case atStart => exact .inl ⟨rfl, rfl⟩
  case round =>
    rcases hrel with ⟨rfl, rfl⟩ | ⟨rfl, rfl⟩ | ⟨rfl, rfl⟩
    · go_wp2_with fail
      exact ⟨.inr (.inl ⟨rfl, by simp⟩), by simp [intOf]⟩
    · go_wp2_with fail
      exact ⟨.inr (.inr ⟨rfl, by simp⟩), by simp [intOf]⟩
    · have hg := grow_all (a.length + b.length) (by omega) w
      rw [show ((a.length + b.length : Nat) : Int) = (a.length : Int) + (b.length : Int) by omega] at hg
      go_wp2_with fail
      refine hg.mono ?_
      rintro e w1 ⟨v1, rfl, o1, b1⟩
      go_wp2_with fail
      go_loopw [6, 27] (fun v k wr => ∃ l : List Int, OwnI w.heap.size wr v l ∧ Below w.heap.size w wr ∧ ((k = .int .i64 0 ∧ l = []) ∨ (k = .int .i64 1 ∧ l = a) ∨ (k = .int .i64 2 ∧ l = a ++ b))) (fun _ k _ => 2 - (intOf k).toNat)
      case atStart => exact ⟨[], o1, b1, .inl ⟨rfl, rfl⟩⟩
      case round =>
        obtain ⟨l, ho, hB, hk⟩ := hrel
        have d0 := (hB.cell (p := ⟨p, 0, none⟩) hpw).trans c0
        have d1 := (hB.cell (p := ⟨p, 1, none⟩) hpw).trans c1
        have ja := hia.below hB
        have jb := hib.below hB
        have hsz := hB.size
        rcases hk with ⟨rfl, rfl⟩ | ⟨rfl, rfl⟩ | ⟨rfl, rfl⟩
        · obtain ⟨v2, w2, hr2, o2, g2, _⟩ := run_append_ints wr 30 w.heap.size u6 0 [] ho _ a ja (by unfold maxLen; omega) (by omega) hsz
          have b2 := hB.grown g2 hsz (fun k hk => (ho.lt k hk).1)
          go_wp2_with (refine Lib.wpList_append_run _ rfl (.tmp 31) (.tmp 32) 30 30 rfl _ _ rfl rfl _ _ hr2 ?_)
          go_roundw
          case rel => exact ⟨a, by simpa [OwnI] using o2, b2, .inr (.inl ⟨rfl, rfl⟩)⟩
          case measure => simp [intOf]
        · obtain ⟨v2, w2, hr2, o2, g2, _⟩ := run_append_ints wr 30 w.heap.size u6 l.length _ ho _ b jb (by unfold maxLen; omega) (by omega) hsz
          have b2 := hB.grown g2 hsz (fun k hk => (ho.lt k hk).1)
          go_wp2_with (refine Lib.wpList_append_run _ rfl (.tmp 31) (.tmp 32) 30 30 rfl _ _ rfl rfl _ _ hr2 ?_)
          go_roundw
          case rel => exact ⟨l ++ b, by simpa [OwnI] using o2, b2, .inr (.inr ⟨rfl, rfl⟩)⟩
          case measure => simp [intOf]
        · go_wp2_with fail
          go_ret
          exact ⟨_, rfl, ho, hB⟩

end Go.Proofs.YtmcjincgppddeaaDoor
