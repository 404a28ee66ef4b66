/-
  The document's paths and copaths, as lists that are made; whether two lists are the same.
-/
import Derived.Test.YtdnopkpoepdihaaDoorHH
import Derived.Laws.AppendOwn
namespace Go.Proofs.YtdnopkpoepdihaaDoor
open Go.RowKit
set_option linter.unusedSimpArgs false
set_option linter.unusedVariables false

/-- A slice of numbers that is only read. -/
def IntsAt (w : World) (v : Value) (l : List Int) : Prop :=
  ∃ a cap, v = .slice a l.length cap ∧ (l.length : Int) ≤ 9223372036854775807 ∧
    (l ≠ [] → ∃ b off, a = some ⟨b, off, none⟩ ∧ b < w.heap.size ∧ ∀ i x, l[i]? = some x → w.cell? ⟨b, off + i, none⟩ = some (.int .i64 x))

theorem IntsAt.below {w w' : World} {v : Value} {l : List Int} (h : IntsAt w v l) (hb : Below w.heap.size w w') : IntsAt w' v l := by
  obtain ⟨a, cap, e, hl, hc⟩ := h
  refine ⟨a, cap, e, hl, fun hne => ?_⟩
  obtain ⟨b, off, ha, hlt, hcell⟩ := hc hne
  refine ⟨b, off, ha, Nat.lt_of_lt_of_le hlt hb.size, fun i n hi => ?_⟩
  rw [hb.cell (p := ⟨b, _, none⟩) hlt]
  exact hcell i n hi

theorem ownsRow_ints {w : World} {base : Nat} {v : Value} {l : List Int} (h : w.ownsRow base 3 1 v l.length (l.map (Value.int .i64))) (hl : (l.length : Int) ≤ 9223372036854775807) : IntsAt w v l := by
  rcases h.2 with ⟨rfl, h0⟩ | ⟨g, cap, cur, rfl, hb, hgg, r1, r2, r3, r4⟩
  · have : l = [] := List.eq_nil_of_length_eq_zero h0
    subst this
    exact ⟨none, 0, rfl, by simp, fun h => absurd rfl h⟩
  · refine ⟨_, cap, rfl, hl, fun _ => ⟨g, 0, rfl, (Array.getElem?_eq_some_iff.1 hgg).1, fun i x hi => ?_⟩⟩
    have hil := (List.getElem?_eq_some_iff.1 hi).1
    rw [Nat.zero_add, World.ownsRow.cellAt h i (by omega)]
    simp [hi]

theorem dec_false {p : Prop} [Decidable p] (h : ¬ p) : Hid (decide p = false) := by simp [Hid, h]

set_option maxRecDepth 100000 in
set_option maxHeartbeats 2000000 in
theorem ints_any {w : World} {va vb : Value} {a b : List Int} (ha : IntsAt w va a) (hb : IntsAt w vb b) :
    Calls Tryd.prog 19 #[va, vb] w fun e w' => e = .returned (.bool (decide (a = b))) ∧ Below w.heap.size w w' := by
  obtain ⟨a1, cap1, rfl, hl1, hc1⟩ := ha
  obtain ⟨a2, cap2, rfl, hl2, hc2⟩ := hb
  by_cases hlen : a.length = b.length
  · have hlb : ((a.length : Int) != (b.length : Int)) = false := by simp [hlen]
    have Hlen : Hid (a.length = b.length) := hlen
    have hle : (b.length : Int) ≤ a.length := by omega
    have hge : (a.length : Int) ≤ b.length := by omega
    clear hlen
    go_enter Tryd.func19, Tryd.ntmps19
    go_wp2_with fail
    go_loopw [5] (fun i wr => ∃ k : Nat, k ≤ a.length ∧ i = .int .i64 k ∧ a.take k = b.take k ∧ ∃ n, wr = w.drewN n) (fun i _ => a.length - (intOf i).toNat)
    case atStart => exact ⟨0, Nat.zero_le _, rfl, by simp, 0, rfl⟩
    case round =>
      obtain ⟨k, hk, rfl, htk, n, rfl⟩ := hrel
      have Htk : Hid (a.take k = b.take k) := htk
      clear htk
      by_cases hlt : k < a.length
      · have hlt2 : k < b.length := by omega
        obtain ⟨x, hx⟩ : ∃ x, a[k]? = some x := ⟨a[k], by simp [hlt]⟩
        obtain ⟨y, hy⟩ : ∃ y, b[k]? = some y := ⟨b[k], by simp [hlt2]⟩
        obtain ⟨b1, o1, rfl, hb1, c1⟩ := hc1 (by rintro rfl; simp at hx)
        obtain ⟨b2, o2, rfl, hb2, c2⟩ := hc2 (by rintro rfl; simp at hy)
        have d1 := c1 k x hx
        have d2 := c2 k y hy
        have i1 : (k : Int) < (a.length : Int) := by omega
        have i2 : (k : Int) < (b.length : Int) := by omega
        have Hx : Hid (a[k]? = some x) := hx
        have Hy : Hid (b[k]? = some y) := hy
        clear c1 c2 hx hy hc1 hc2
        by_cases hxy : x = y
        · subst hxy
          go_wp2_with fail
          go_quiet (fail)
          go_wp2_with fail
          go_roundw
          case rel =>
            refine ⟨k + 1, by omega, by go_num, ?_, _, rfl⟩
            rw [List.take_add_one, List.take_add_one, Htk.out, Hx.out, Hy.out]
          case measure => simp [intOf]; omega
        · have hxy' : (x != y) = true := by simp [hxy]
          have Hne : Hid (decide (a = b) = false) := dec_false (fun e => by
            have h1 := Hx.out
            rw [e, Hy.out] at h1
            simp at h1
            exact hxy h1.symm)
          clear hxy
          go_wp2_with fail
          go_quiet (fail)
          go_wp2_with fail
          go_ret
          rw [Hne.out]
          exact ⟨rfl, rfl, rfl, rfl, Nat.le_refl _, fun _ _ => rfl⟩
      · have He : Hid (decide (a = b) = true) := by
          have h1 := Htk.out
          rw [List.take_of_length_le (by omega), List.take_of_length_le (by have := Hlen.out; omega)] at h1
          simp [Hid, h1]
        go_wp2_with fail
        go_ret
        rw [He.out]
        exact ⟨rfl, rfl, rfl, rfl, Nat.le_refl _, fun _ _ => rfl⟩
  · have hlb : ((a.length : Int) != (b.length : Int)) = true := by simp; omega
    have Hne : Hid (decide (a = b) = false) := dec_false (fun e => hlen (by rw [e]))
    clear hlen
    go_enter Tryd.func19, Tryd.ntmps19
    go_wp2_with fail
    go_ret
    rw [Hne.out]
    exact ⟨rfl, Below.refl _ _⟩

theorem Made.ints {b : Nat} {W : World} {v : Value} {l : List Int} (h : Made b W v l) (hl : (l.length : Int) ≤ 9223372036854775807) : IntsAt W v l := ownsRow_ints h.1 hl

def pathF : Nat → Int → Int → List Int
  | 0, _, _ => []
  | f + 1, x, n => if x == n - 1 then [] else parI x :: pathF f (parI x) n
def copathF : Nat → Int → Int → List Int
  | 0, _, _ => []
  | f + 1, x, n => if x == n - 1 then [] else sibI x :: copathF f (parI x) n

theorem path_eq {x n : Int} (h : inB x n = true) : pathI x n = pathF 6 x n := eq_of_beq (forall_in (fun x n => pathI x n == pathF 6 x n) (by decide +kernel) x n h)
theorem copath_eq {x n : Int} (h : inB x n = true) : copathI x n = copathF 6 x n := eq_of_beq (forall_in (fun x n => copathI x n == copathF 6 x n) (by decide +kernel) x n h)

theorem pathF_root {f : Nat} {a n : Int} (hr : (a == n - 1) = true) : pathF f a n = [] := by cases f <;> simp [pathF, hr]
theorem pathF_step {f : Nat} {a n : Int} (h : upOk f a n = true) (hr : (a == n - 1) = false) : ∃ g, f = g + 1 ∧ pathF f a n = parI a :: pathF g (parI a) n ∧ upOk g (parI a) n = true := by
  cases f with
  | zero => simp [upOk] at h; simp [h] at hr
  | succ g => exact ⟨g, rfl, by simp [pathF, hr], by simpa [upOk, hr] using h⟩
theorem copathF_root {f : Nat} {a n : Int} (hr : (a == n - 1) = true) : copathF f a n = [] := by cases f <;> simp [copathF, hr]
theorem copathF_step {f : Nat} {a n : Int} (h : upOk f a n = true) (hr : (a == n - 1) = false) : ∃ g, f = g + 1 ∧ copathF f a n = sibI a :: copathF g (parI a) n ∧ upOk g (parI a) n = true := by
  cases f with
  | zero => simp [upOk] at h; simp [h] at hr
  | succ g => exact ⟨g, rfl, by simp [copathF, hr], by simpa [upOk, hr] using h⟩

end Go.Proofs.YtdnopkpoepdihaaDoor
