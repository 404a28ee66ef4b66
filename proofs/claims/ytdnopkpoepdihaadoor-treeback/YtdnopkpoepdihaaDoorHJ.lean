/-
  The document's paths and copaths, as lists that are made.
-/
import Derived.Test.YtdnopkpoepdihaaDoorHI
namespace Go.Proofs.YtdnopkpoepdihaaDoor
open Go.RowKit
set_option linter.unusedSimpArgs false
set_option linter.unusedVariables false

def mz (p : Int) : Nat := if p < 0 then 0 else 7 - (lev p).toNat
theorem mz_less {q n : Int} (hq : inB q n = true) (hr : (q == n - 1) = false) : mz (parR (parI q) n) < mz (parI q) := by
  have hlp := lev_par hq hr
  have hpin := par_in hq hr
  have h2 := (par_ge hq hr).2.1
  unfold mz
  rw [if_neg (show ¬ parI q < 0 by omega)]
  split
  · omega
  · rename_i hge
    have hr2 : (parI q == n - 1) = false := by
      cases h : (parI q == n - 1) with
      | false => rfl
      | true => exact absurd (by simp [parR, h]) hge
    have := lev_par hpin hr2
    rw [(par_ge hpin hr2).1]
    omega

theorem Made.more {b : Nat} {w7 : World} {v7 : Value} {pre : List Int} {a : Int} {v : Value} {k : Nat} (ho : w7.ownsRow b 3 1 v7 (pre.length + 1) (pre.map (Value.int .i64) ++ [.int .i64 a])) (hn : v7 = .slice none 0 0 ↔ v = .slice none 0 0 ∧ k = 0) (hk : k ≠ 0) : Made b w7 v7 (pre ++ [a]) :=
  ⟨by simpa using ho, by simp; intro e; exact hk (hn.1 e).2⟩

set_option maxRecDepth 100000 in
set_option maxHeartbeats 2000000 in
theorem refPath_any (x n : Int) (hx : inB x n = true) {w : World} :
    Calls Tryd.prog 51 #[.int .i64 x, .int .i64 n] w fun e W' => ∃ v, e = .returned v ∧ Made w.heap.size W' v (pathI x n) ∧ Below w.heap.size w W' := by
  obtain ⟨i0, hi, hz0, hz1, hz2⟩ := info_parts Tryd.infoI
  go_enter Tryd.func51, Tryd.ntmps51
  go_wp2_with fail
  refine (refParent_any _ _ hx).mono ?_
  rintro e w' ⟨rfl, rfl⟩
  go_wp2_with fail
  go_loopw [5, 6] (fun v p wr => ∃ (pre : List Int) (q : Int) (f : Nat), p = .int .i64 (parR q n) ∧ pathI x n = pre ++ pathF f q n ∧ upOk f q n = true ∧ inB q n = true ∧ pre.length + f = 6 ∧ Made w'.heap.size wr v pre ∧ Below w'.heap.size w' wr) (fun _ p _ => mz (intOf p))
  case atStart => exact ⟨[], x, 6, rfl, path_eq hx, up_ok hx, hx, rfl, ⟨World.ownsRow_nil _ _ _ _, by simp⟩, Below.refl _ _⟩
  case round =>
    obtain ⟨pre, q, f, rfl, hp, hok, hq, hf, ⟨hown, hnil⟩, hB⟩ := hrel
    have Hp : Hid (pathI x n = pre ++ pathF f q n) := hp
    have Hok : Hid (upOk f q n = true) := hok
    clear hp hok
    cases hr : (q == n - 1) with
    | true =>
      have e1 : parR q n = -1 := by simp [parR, hr]
      have e2 : pathI x n = pre := by rw [Hp.out, pathF_root hr]; simp
      have HM : Hid (Made w'.heap.size wr u5 (pathI x n)) := by rw [e2]; exact ⟨hown, hnil⟩
      clear e2 hr
      simp only [e1]
      go_wp2_with fail
      all_goals go_ret
      all_goals exact ⟨_, rfl, HM.out, hB⟩
    | false =>
      obtain ⟨h1, h2, h3, h4⟩ := par_ge hq hr
      obtain ⟨g, rfl, hug, hokg⟩ := pathF_step Hok.out hr
      have hlp := lev_par hq hr
      have hpin := par_in hq hr
      have Hug : Hid (pathF (g + 1) q n = parI q :: pathF g (parI q) n) := hug
      have Hokg : Hid (upOk g (parI q) n = true) := hokg
      clear hug hokg
      have hsz := hB.size
      have Hlv : Hid (mz (parR (parI q) n) < mz (parI q)) := mz_less hq hr
      simp only [h1]
      have Hm1 : Hid (pre.length + 1 ≤ maxLen) := by show _ ≤ maxLen; unfold maxLen; omega
      have Hm2 : Hid ((pre.length + 1) * 8 ≤ 140737488355328) := by show _ ≤ _; omega
      have hone : ∀ u ∈ [Value.int .i64 (parI q)], u.oneCell' = true := by intro u hu; simp at hu; subst hu; rfl
      have hp0 : w'.heap.size ≤ (wr.alloc (.cells #[.int .i64 (parI q)] 3)).heap.size := by simp; omega
      go_wp2_with (refine wpList_append_own_at _ rfl (.tmp 15) (.tmp 17) 22 rfl w'.heap.size 3 i0 (.int .i64 0) 1 8 Tryd.underlying22 hi hz0 hz1 hz2 rfl Nat.one_pos _ pre.length _ rfl (hown.alloc _) ⟨wr.heap.size, 0, none⟩ 1 1 [.int .i64 (parI q)] rfl rfl (cell_one_new _ _ _) hone Hm1.out Hm2.out hp0 ?_; intro v7 w7 ho7 hg7 hnil7 hl7)
      refine (refParent_any _ _ hpin).mono ?_
      rintro e w8 ⟨rfl, rfl⟩
      have b7 := (hB.alloc hsz (.cells #[.int .i64 (parI q)] 3)).grown hg7 hp0 (fun k hk => (hown.lt k hk).1)
      go_wp2_with fail
      go_roundw
      case rel =>
        exact ⟨pre ++ [parI q], parI q, g, rfl, by rw [Hp.out, Hug.out]; simp, Hokg.out, hpin, by simp; omega, Made.more ho7 hnil7 (by decide), b7⟩
      case measure =>
        exact Hlv.out

set_option maxRecDepth 100000 in
set_option maxHeartbeats 2000000 in
theorem refCopath_any (x n : Int) (hx : inB x n = true) {w : World} :
    Calls Tryd.prog 52 #[.int .i64 x, .int .i64 n] w fun e W' => ∃ v, e = .returned v ∧ Made w.heap.size W' v (copathI x n) ∧ Below w.heap.size w W' := by
  obtain ⟨i0, hi, hz0, hz1, hz2⟩ := info_parts Tryd.infoI
  go_enter Tryd.func52, Tryd.ntmps52
  go_wp2_with fail
  go_loopw [0, 5] (fun p v wr => ∃ (pre : List Int) (q : Int) (f : Nat), p = .int .i64 q ∧ copathI x n = pre ++ copathF f q n ∧ upOk f q n = true ∧ inB q n = true ∧ pre.length + f = 6 ∧ Made w.heap.size wr v pre ∧ Below w.heap.size w wr) (fun p _ _ => 7 - (lev (intOf p)).toNat)
  case atStart => exact ⟨[], x, 6, rfl, copath_eq hx, up_ok hx, hx, rfl, ⟨World.ownsRow_nil _ _ _ _, by simp⟩, Below.refl _ _⟩
  case round =>
    obtain ⟨pre, q, f, rfl, hp, hok, hq, hf, ⟨hown, hnil⟩, hB⟩ := hrel
    have Hp : Hid (copathI x n = pre ++ copathF f q n) := hp
    have Hok : Hid (upOk f q n = true) := hok
    clear hp hok
    cases hr : (q == n - 1) with
    | true =>
      have e1 : parR q n = -1 := by simp [parR, hr]
      have e2 : copathI x n = pre := by rw [Hp.out, copathF_root hr]; simp
      have HM : Hid (Made w.heap.size wr u5 (copathI x n)) := by rw [e2]; exact ⟨hown, hnil⟩
      clear e2 hr
      go_wp2_with fail
      refine (refParent_any _ _ hq).mono ?_
      rintro e w8 ⟨rfl, rfl⟩
      simp only [e1]
      go_wp2_with fail
      all_goals go_ret
      all_goals exact ⟨_, rfl, HM.out, hB⟩
    | false =>
      obtain ⟨h1, h2, h3, h4⟩ := par_ge hq hr
      obtain ⟨g, rfl, hug, hokg⟩ := copathF_step Hok.out hr
      have hlp := lev_par hq hr
      have hpin := par_in hq hr
      have Hug : Hid (copathF (g + 1) q n = sibI q :: copathF g (parI q) n) := hug
      have Hokg : Hid (upOk g (parI q) n = true) := hokg
      clear hug hokg h4
      have hsz := hB.size
      have Hm1 : Hid (pre.length + 1 ≤ maxLen) := by show _ ≤ maxLen; unfold maxLen; omega
      have Hm2 : Hid ((pre.length + 1) * 8 ≤ 140737488355328) := by show _ ≤ _; omega
      have hone : ∀ u ∈ [Value.int .i64 (sibI q)], u.oneCell' = true := by intro u hu; simp at hu; subst hu; rfl
      have hp0 : w.heap.size ≤ (wr.alloc (.cells #[.int .i64 (sibI q)] 3)).heap.size := by simp; omega
      go_wp2_with fail
      refine (refParent_any _ _ hq).mono ?_
      rintro e w8 ⟨rfl, rfl⟩
      simp only [h1]
      go_wp2_with fail
      refine (refSibling_any _ _ hq hr).mono ?_
      rintro e w9 ⟨rfl, rfl⟩
      go_wp2_with (refine wpList_append_own_at _ rfl (.tmp 14) (.tmp 16) 22 rfl w.heap.size 3 i0 (.int .i64 0) 1 8 Tryd.underlying22 hi hz0 hz1 hz2 rfl Nat.one_pos _ pre.length _ rfl (hown.alloc _) ⟨w9.heap.size, 0, none⟩ 1 1 [.int .i64 (sibI q)] rfl rfl (cell_one_new _ _ _) hone Hm1.out Hm2.out hp0 ?_; intro v7 w7 ho7 hg7 hnil7 hl7)
      refine (refParent_any _ _ hq).mono ?_
      rintro e w8 ⟨rfl, rfl⟩
      simp only [h1]
      have b7 := (hB.alloc hsz (.cells #[.int .i64 (sibI q)] 3)).grown hg7 hp0 (fun k hk => (hown.lt k hk).1)
      go_wp2_with fail
      go_roundw
      case rel =>
        exact ⟨pre ++ [sibI q], parI q, g, rfl, by rw [Hp.out, Hug.out]; simp, Hokg.out, hpin, by simp; omega, Made.more ho7 hnil7 (by decide), b7⟩
      case measure => simp [intOf]; omega

end Go.Proofs.YtdnopkpoepdihaaDoor
