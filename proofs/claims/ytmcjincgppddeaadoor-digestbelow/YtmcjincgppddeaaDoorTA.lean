/-
  Where a tree lies in memory, and the calls that read it: how many leaves, which are full.
-/
import Derived.Test.YtmcjincgppddeaaDoorTPure
import Derived.Laws.OwnMore
namespace Go.Proofs.YtmcjincgppddeaaDoor
open Go.RowKit 
set_option linter.unusedSimpArgs false
set_option linter.unusedVariables false

def PV.val (u : PV) (h : Value) : Value := .agg #[.bool u.full, .int .i64 u.key, .int .i64 u.client, .int .i64 u.sig, .int .i64 u.hash, h]

/-- A vertex at a place of a row. -/
structure VAt (w : World) (b o : Nat) (u : PV) (h : Value) : Prop where
  c0 : w.cell? ⟨b, o, none⟩ = some (.bool u.full)
  c1 : w.cell? ⟨b, o + 1, none⟩ = some (.int .i64 u.key)
  c2 : w.cell? ⟨b, o + 2, none⟩ = some (.int .i64 u.client)
  c3 : w.cell? ⟨b, o + 3, none⟩ = some (.int .i64 u.sig)
  c4 : w.cell? ⟨b, o + 4, none⟩ = some (.int .i64 u.hash)
  c5 : w.cell? ⟨b, o + 5, none⟩ = some h
  late : IntsAt w h u.late

/-- A tree that is only read; all of it lies in blocks from B on. -/
structure TRow (w : World) (b off : Nat) (t : Tree) : Prop where
  lt : b < w.heap.size
  at_ : ∀ (x : Nat) (u : PV), t[x]? = some u → ∃ h, VAt w b (off + x * 6) u h

def TreeAt (w : World) (v : Value) (t : Tree) : Prop :=
  ∃ a cap, v = .slice a t.length cap ∧ (t.length : Int) ≤ 9223372036854775806 ∧ (t ≠ [] → ∃ b off, a = some ⟨b, off, none⟩ ∧ TRow w b off t)

theorem VAt.below {w w' : World} {b o : Nat} {u : PV} {h : Value} (k : VAt w b o u h) (hlt : b < w.heap.size) (hb : Below w.heap.size w w') : VAt w' b o u h := by
  obtain ⟨c0, c1, c2, c3, c4, c5, l⟩ := k
  exact ⟨(hb.cell (p := ⟨b, _, none⟩) hlt).trans c0, (hb.cell (p := ⟨b, _, none⟩) hlt).trans c1, (hb.cell (p := ⟨b, _, none⟩) hlt).trans c2, (hb.cell (p := ⟨b, _, none⟩) hlt).trans c3, (hb.cell (p := ⟨b, _, none⟩) hlt).trans c4, (hb.cell (p := ⟨b, _, none⟩) hlt).trans c5, l.below hb⟩

theorem TRow.below {w w' : World} {b off : Nat} {t : Tree} (k : TRow w b off t) (hb : Below w.heap.size w w') : TRow w' b off t := by
  refine ⟨Nat.lt_of_lt_of_le k.lt hb.size, fun x u hx => ?_⟩
  obtain ⟨h, hv⟩ := k.at_ x u hx
  exact ⟨h, hv.below k.lt hb⟩

theorem TreeAt.below {w w' : World} {v : Value} {t : Tree} (k : TreeAt w v t) (hb : Below w.heap.size w w') : TreeAt w' v t := by
  obtain ⟨a, cap, e, hl, hc⟩ := k
  refine ⟨a, cap, e, hl, fun hne => ?_⟩
  obtain ⟨b, off, ha, hr⟩ := hc hne
  exact ⟨b, off, ha, hr.below hb⟩

def leavesI (t : Tree) : Int := if shB t then lv t else 0

set_option maxHeartbeats 1000000 in
theorem Leaves_any {w : World} {v : Value} {t : Tree} (ht : TreeAt w v t) :
    Calls Tryd.prog 43 #[v] w fun e w' => e = .returned (.int .i64 (leavesI t)) ∧ w' = w := by
  obtain ⟨a, cap, rfl, hl, _⟩ := ht
  have e1 : ((t.length : Int) + 1) / 2 = (lv t : Int) := by unfold lv; omega
  have hb : (lv t : Int) ≤ 4611686018427387904 := by unfold lv; omega
  cases h2 : ((t.length : Int) != 2 * (lv t : Int) - 1) with
  | true =>
    have e2 : leavesI t = 0 := by
      have : ((t.length : Int) == 2 * (lv t : Int) - 1) = false := by simpa [bne] using h2
      simp [leavesI, shB, this]
    rw [e2]
    go_enter Tryd.func43, Tryd.ntmps43
    go_wp2_with first | rw [e1] | rw [h2]
    go_ret
    exact ⟨rfl, rfl⟩
  | false =>
    have e3 : ((t.length : Int) == 2 * (lv t : Int) - 1) = true := by simpa [bne] using h2
    have e2 : leavesI t = if rightB (lv t) then (lv t : Int) else 0 := by simp [leavesI, shB, e3]
    cases hr : rightB (lv t) with
    | true =>
      rw [e2, hr]
      go_enter Tryd.func43, Tryd.ntmps43
      go_wp2_with first | rw [e1] | rw [h2] | (go_at_call 73; refine (right_any _ _).mono ?_; rintro e w' ⟨rfl, rfl⟩; rw [hr])
      go_ret
      exact ⟨rfl, rfl⟩
    | false =>
      rw [e2, hr]
      go_enter Tryd.func43, Tryd.ntmps43
      go_wp2_with first | rw [e1] | rw [h2] | (go_at_call 73; refine (right_any _ _).mono ?_; rintro e w' ⟨rfl, rfl⟩; rw [hr])
      go_ret
      exact ⟨rfl, rfl⟩

theorem Leaves_sh {w : World} {v : Value} {t : Tree} (ht : TreeAt w v t) (hs : Sh t) :
    Calls Tryd.prog 43 #[v] w fun e w' => e = .returned (.int .i64 (lv t)) ∧ w' = w := by
  have := Leaves_any ht
  rwa [show leavesI t = (lv t : Int) by simp [leavesI, shB_iff.2 hs]] at this

set_option maxHeartbeats 1000000 in
theorem refLeaves_any {w : World} {v : Value} {t : Tree} (ht : TreeAt w v t) :
    Calls Tryd.prog 29 #[v] w fun e w' => e = .returned (.int .i64 (lv t)) ∧ w' = w := by
  obtain ⟨a, cap, rfl, hl, _⟩ := ht
  have e1 : ((t.length : Int) + 1) / 2 = (lv t : Int) := by unfold lv; omega
  go_enter Tryd.func29, Tryd.ntmps29
  go_wp2_with (rw [e1])
  go_ret
  exact ⟨rfl, rfl⟩

set_option maxHeartbeats 1000000 in
theorem tIsLeaf_any (i n : Int) (w : World) :
    Calls Tryd.prog 78 #[.int .i64 i, .int .i64 n] w fun e w' => e = .returned (.bool (decide (0 ≤ i) && decide (i < n))) ∧ w' = w := by
  go_enter Tryd.func78, Tryd.ntmps78
  go_wp2
  all_goals go_ret
  all_goals exact ⟨by simp [*] <;> omega, rfl⟩

/-- One vertex of a tree that is read. -/
theorem TreeAt.get {w : World} {v : Value} {t : Tree} (h : TreeAt w v t) {x : Nat} {u : PV} (hx : t[x]? = some u) : ∃ b off cap hd, v = .slice (some ⟨b, off, none⟩) t.length cap ∧ b < w.heap.size ∧ VAt w b (off + x * 6) u hd := by
  obtain ⟨a, cap, rfl, hl, hc⟩ := h
  obtain ⟨b, off, rfl, hr⟩ := hc (by rintro rfl; simp at hx)
  obtain ⟨hd, hv⟩ := hr.at_ x u hx
  exact ⟨b, off, cap, hd, rfl, hr.lt, hv⟩

set_option maxRecDepth 100000 in
set_option maxHeartbeats 2000000 in
theorem withLate_any (x : Int) {w : World} {v : Value} {l : List Int} (hl : IntsAt w v l) (hlen : l.length ≤ 64) (hle : ∀ i ∈ l, 0 ≤ i ∧ i < 64) :
    Calls Tryd.prog 97 #[.int .i64 x, v] w fun e w' => ∃ v', e = .returned v' ∧ Made w.heap.size w' v' (x :: l.map (fun i => 2 * i)) ∧ Below w.heap.size w w' := by
  obtain ⟨i0, hi, hz0, hz1, hz2⟩ := info_parts Tryd.infoI
  obtain ⟨a, cap, rfl, hl1, hc⟩ := hl
  go_enter Tryd.func97, Tryd.ntmps97
  go_wp2_with fail
  go_loopw [5, 12] (fun c k wr => ∃ j : Nat, j ≤ l.length ∧ k = .int .i64 j ∧ Made w.heap.size wr c (x :: (l.take j).map (fun i => 2 * i)) ∧ Below w.heap.size w wr) (fun _ k _ => l.length - (intOf k).toNat)
  case atStart => exact ⟨0, Nat.zero_le _, rfl, ⟨by simpa using World.ownsRow_lit w #[.int .i64 x] 1 (Nat.le_refl _) (by decide) (by simp), by simp⟩, (Below.refl _ _).alloc (Nat.le_refl _) _⟩
  case round =>
    obtain ⟨j, hj, rfl, ⟨hown, hnil⟩, hB⟩ := hrel
    have hsz := hB.size
    by_cases hlt : j < l.length
    · obtain ⟨y, hy⟩ : ∃ y, l[j]? = some y := ⟨l[j], by simp [hlt]⟩
      obtain ⟨b, off, rfl, hbl, hcell⟩ := hc (by rintro rfl; simp at hy)
      have c0 := (hB.cell (p := ⟨b, off + j, none⟩) hbl).trans (hcell j y hy)
      have hy2 := hle y (List.mem_of_getElem? hy)
      have i1 : (j : Int) < (l.length : Int) := by omega
      have Hs : Hid (x :: (l.take (j + 1)).map (fun i => 2 * i) = (x :: (l.take j).map (fun i => 2 * i)) ++ [2 * y]) := by simp [Hid, List.take_add_one, hy]
      have hml : (x :: (l.take j).map (fun i => 2 * i)).length ≤ 65 := by simp; omega
      clear hcell hc hy
      obtain ⟨M, hM⟩ : ∃ M, x :: (l.take j).map (fun i => 2 * i) = M := ⟨_, rfl⟩
      rw [hM] at hml hown hnil Hs
      have Hm1 : Hid (M.length + 1 ≤ maxLen) := by show _ ≤ maxLen; unfold maxLen; omega
      have Hm2 : Hid ((M.length + 1) * 8 ≤ 140737488355328) := by show _ ≤ _; omega
      have hone : ∀ u ∈ [Value.int .i64 (2 * y)], u.oneCell' = true := by intro u hu; simp at hu; subst hu; rfl
      have hp0 : w.heap.size ≤ (wr.alloc (.cells #[.int .i64 (2 * y)] 3)).heap.size := by simp; omega
      clear hml hM
      go_wp2_with (refine wpList_append_own_at _ rfl (.tmp 16) (.tmp 19) 30 rfl w.heap.size 3 i0 (.int .i64 0) 1 8 Tryd.underlying30 hi hz0 hz1 hz2 rfl Nat.one_pos _ M.length _ rfl (hown.alloc _) ⟨wr.heap.size, 0, none⟩ 1 1 [.int .i64 (2 * y)] rfl rfl (cell_one_new _ _ _) hone Hm1.out Hm2.out hp0 ?_; intro v7 w7 ho7 hg7 hnil7 hl7)
      have b7 := (hB.alloc hsz (.cells #[.int .i64 (2 * y)] 3)).grown hg7 hp0 (fun k hk => (hown.lt k hk).1)
      go_roundw
      case rel => exact ⟨j + 1, by omega, by go_num, by rw [Hs.out]; exact Made.more ho7 hnil7 (by decide), b7⟩
      case measure => simp [intOf]; omega
    · have e : l.take j = l := List.take_of_length_le (by omega)
      rw [e] at hown hnil
      have HM : Hid (Made w.heap.size wr u5 (x :: l.map (fun i => 2 * i))) := ⟨hown, hnil⟩
      clear hown hnil
      go_wp2_with fail
      all_goals go_ret
      all_goals exact ⟨_, rfl, HM.out, hB⟩

end Go.Proofs.YtmcjincgppddeaaDoor
