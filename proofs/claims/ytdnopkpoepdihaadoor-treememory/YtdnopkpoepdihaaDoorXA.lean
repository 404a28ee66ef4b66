/-
  Find: the member with a client's number.
-/
import Derived.Test.YtdnopkpoepdihaaDoorXC
namespace Go.Proofs.YtdnopkpoepdihaaDoor
open Go.RowKit
set_option linter.unusedSimpArgs false
set_option linter.unusedVariables false

def FindPost (t : Tree) (c : Int) (w : World) (e : Ending) (w' : World) : Prop :=
  ∃ (i : Int) (b : Bool), e = .returned (.tuple #[.int .i64 i, .bool b]) ∧ (b = true → ∃ j : Nat, i = j ∧ isF t j = true ∧ (vx t (2 * j)).client = c) ∧ (b = false → ∀ j : Nat, isF t j = true → (vx t (2 * j)).client ≠ c) ∧ Below w.heap.size w w'

set_option maxRecDepth 100000 in
set_option maxHeartbeats 4000000 in
theorem find_any {t : Tree} (hs : Sh t) {w : World} {v : Value} (ht : TreeAt w v t) (c : Int) :
    Calls Tryd.prog 38 #[v, .int .i64 c] w fun e w' => FindPost t c w e w' := by
  have hb := hs.bounds
  have hM0 := Members_any ht hs
  have HMm : Hid (∀ i ∈ members t, ∃ j : Nat, i = j ∧ isF t j = true) := fun i hi => isF_mem hi
  have HMi : Hid (∀ j : Nat, isF t j = true → (j : Int) ∈ members t) := fun j hj => mem_members.2 (by rw [← isF_fullB]; exact hj)
  have hml : (members t).length ≤ 32 := by
    have := membersN_len t (lv t)
    show (membersN t (lv t)).length ≤ 32
    omega
  obtain ⟨M, hM⟩ : ∃ M, members t = M := ⟨_, rfl⟩
  rw [hM] at hM0 HMm HMi hml
  clear hM
  go_enter Tryd.func38, Tryd.ntmps38
  go_wp2_with fail
  refine hM0.mono ?_
  rintro e w1 ⟨v1, rfl, o1, b1⟩
  clear hM0
  obtain ⟨ma, mcap, rfl, hil, hic⟩ := o1.ints (by omega)
  have ht1 := ht.below b1
  have i1 : (M.length : Int) ≤ 32 := by omega
  clear o1
  go_wp2_with fail
  go_loop [11] (fun q => ∃ j : Nat, j ≤ M.length ∧ q = .int .i64 j ∧ Hid (∀ (x : Nat) (i : Int), x < j → M[x]? = some i → (vx t (2 * i.toNat)).client ≠ c)) (fun q => M.length - (intOf q).toNat)
  case atStart => exact ⟨0, Nat.zero_le _, rfl, fun x i hx => by omega⟩
  case round =>
    obtain ⟨j, hj, rfl, HN⟩ := hrel
    by_cases hlt : j < M.length
    · obtain ⟨y, hy⟩ : ∃ y, M[j]? = some y := ⟨M[j], by simp [hlt]⟩
      obtain ⟨k, rfl, hk⟩ := HMm.out y (List.mem_of_getElem? hy)
      have hkl := (isF_lt hk).1
      obtain ⟨mb, mo, rfl, hmb, hcell⟩ := hic (by rintro rfl; simp at hy)
      have c0 := hcell j _ hy
      clear hcell
      obtain ⟨b2, off, cap, hd, rfl, hbl, hv⟩ := ht1.get (vx_some (t := t) (x := 2 * k) (by omega))
      have c2 := hv.c2
      have i2 : (j : Int) < (M.length : Int) := by omega
      have i3 : (2 * (k : Int)) < t.length := by omega
      have i4 : (k : Int) ≤ 32 := by omega
      by_cases hc : (vx t (2 * k)).client = c
      · have hc' : ((vx t (2 * k)).client == c) = true := by simp [hc]
        have HR : Hid (∃ j : Nat, (k : Int) = j ∧ isF t j = true ∧ (vx t (2 * j)).client = c) := ⟨k, rfl, hk, hc⟩
        clear hv hy hk hkl hc
        go_wp2_with fail
        go_ret2
        exact ⟨_, true, rfl, fun _ => HR.out, fun h => (nomatch h), b1⟩
      · have hc' : ((vx t (2 * k)).client == c) = false := by simp [hc]
        have HR : Hid (∀ (x : Nat) (i : Int), x < j + 1 → M[x]? = some i → (vx t (2 * i.toNat)).client ≠ c) := fun x i hx hi => by
          rcases Nat.lt_or_ge x j with h | h
          · exact HN.out x i h hi
          · have : x = j := by omega
            subst this
            rw [hy] at hi
            cases hi
            simpa using hc
        clear hv hy hk hkl hc HN
        go_wp2_with fail
        exact ⟨⟨j + 1, by omega, by go_num, HR⟩, by simp [intOf]; omega⟩
    · have i2 : ¬ ((j : Int) < (M.length : Int)) := by omega
      have HR : Hid (∀ j : Nat, isF t j = true → (vx t (2 * j)).client ≠ c) := fun k hk => by
        obtain ⟨x, hx⟩ := List.mem_iff_getElem?.1 (HMi.out k hk)
        have := (List.getElem?_eq_some_iff.1 hx).1
        simpa using HN.out x k (by omega) hx
      clear HN
      go_wp2_with fail
      go_ret2
      exact ⟨_, false, rfl, fun h => (nomatch h), fun _ => HR.out, b1⟩

end Go.Proofs.YtdnopkpoepdihaaDoor
