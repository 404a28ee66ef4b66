/-
  What is shared beforehand; the law's 'right' and 'all'.
-/
import Derived.Test.YtcfmagmhnemhaaaDoorVC
namespace Go.Proofs.YtcfmagmhnemhaaaDoor
open Go.RowKit
set_option linter.unusedSimpArgs false
set_option linter.unusedVariables false

def rightB (l : List Int) (n : Int) : Bool := l.all fun x => decide (1 ≤ x) && decide (x ≤ n)

theorem rightB_mem {l : List Int} {n : Int} (h : rightB l n = true) : ∀ x ∈ l, 1 ≤ x ∧ x ≤ n := fun x hx => by
  have := List.all_eq_true.1 h x hx
  simpa using this
theorem rightB_no {l : List Int} {n x : Int} (hx : x ∈ l) (h : ¬ (1 ≤ x ∧ x ≤ n)) : rightB l n = false := by
  cases hb : rightB l n with
  | false => rfl
  | true => exact absurd (rightB_mem hb x hx) h

set_option maxRecDepth 100000 in
set_option maxHeartbeats 2000000 in
theorem right_m {w : World} {v : Value} {l : List Int} (hl : IntsAt w v l) (n : Int) :
    Calls Tryd.prog 7 #[v, .int .i64 n] w fun e w' => e = .returned (.bool (rightB l n)) ∧ w' = w := by
  obtain ⟨a, cap, rfl, hlen, hne⟩ := id hl
  go_enter Tryd.func7, Tryd.ntmps7
  go_wp2_with fail
  go_loop [9] (fun i => ∃ k : Nat, k ≤ l.length ∧ i = .int .i64 k ∧ Hid (∀ j x, j < k → l[j]? = some x → 1 ≤ x ∧ x ≤ n)) (fun i => l.length - (intOf i).toNat)
  case atStart => exact ⟨0, Nat.zero_le _, rfl, fun j x hj => absurd hj (Nat.not_lt_zero _)⟩
  case round =>
    obtain ⟨k, hk, rfl, hall⟩ := hrel
    by_cases hlt : k < l.length
    · obtain ⟨b, off, rfl, hbl, hc⟩ := hne (by rintro rfl; simp at hlt)
      obtain ⟨x, hx⟩ : ∃ x, l[k]? = some x := ⟨l[k], by simp [hlt]⟩
      have d0 := hc k x hx
      have i1 : (k : Int) < (l.length : Int) := by omega
      have Hx : Hid (l[k]? = some x) := hx
      clear hx hc
      by_cases h1 : x < 1
      · have HB : Hid (rightB l n = false) := rightB_no (List.mem_of_getElem? Hx.out) (by omega)
        go_wp2_with fail
        go_ret
        rw [HB.out]
        exact ⟨rfl, rfl⟩
      · by_cases h2 : x > n
        · have HB : Hid (rightB l n = false) := rightB_no (List.mem_of_getElem? Hx.out) (by omega)
          have h2' : n < x := h2
          go_wp2_with fail
          go_ret
          rw [HB.out]
          exact ⟨rfl, rfl⟩
        · have h2' : ¬ n < x := h2
          go_wp2_with fail
          go_round
          case rel =>
            refine ⟨k + 1, by omega, by go_num, fun j y hj hy => ?_⟩
            by_cases hjk : j < k
            · exact hall.out j y hjk hy
            · have : j = k := by omega
              subst this
              rw [Hx.out] at hy
              cases hy
              omega
          case measure => simp [intOf]; omega
    · have HB : Hid (rightB l n = true) := by
        refine List.all_eq_true.2 fun x hx => ?_
        obtain ⟨j, hj⟩ := List.mem_iff_getElem?.1 hx
        have := hall.out j x (by have := (List.getElem?_eq_some_iff.1 hj).1; omega) hj
        simp [this]
      go_wp2_with fail
      go_ret
      rw [HB.out]
      exact ⟨rfl, rfl⟩

set_option maxRecDepth 100000 in
set_option maxHeartbeats 2000000 in
theorem shared_m {w : World} {s : Nat} {ns : List Nd} {dr : Int} {v : Value} {l : List Int} {L : List Tm} (h : Seat w s ns dr) (hl : IntsAt w v l) (hf : l ≠ [] → ∀ b o sp n c, v = .slice (some ⟨b, o, sp⟩) n c → ¬ Own w s b) (hL : Mean2 ns l L) (hr : (ns.length : Int) + l.length + 1 < 262144) :
    Calls Tryd.prog 11 #[.pointer (some ⟨s, 0, none⟩), v] w fun e w' => ∃ t ns', e = .returned (.int .i64 t) ∧ Run s w w' ns ns' dr (l.length + 1) ∧ Means ns' t (sharedT L) := by
  obtain ⟨a, cap, rfl, hlen, hne⟩ := id hl
  have HL : Hid (Mean2 ns l L) := hL
  have Hr : Hid ((ns.length : Int) + l.length + 1 < 262144) := hr
  have Hh : Hid (Seat w s ns dr) := h
  have Hl : Hid (IntsAt w (.slice a l.length cap) l) := hl
  have Hf : Hid (l ≠ [] → ∀ b o sp, a = some ⟨b, o, sp⟩ → ¬ Own w s b) := fun hn b o sp e => hf hn b o sp _ _ (by rw [e])
  have Hne : Hid (∀ wr, Below w.heap.size w wr → l ≠ [] → ∃ b off, a = some ⟨b, off, none⟩ ∧ ∀ i x, l[i]? = some x → wr.cell? ⟨b, off + i, none⟩ = some (.int .i64 x)) := fun wr hb hn => by
    obtain ⟨b, off, e, h1, h2⟩ := hne hn
    exact ⟨b, off, e, fun i x hx => (hb.cell (p := ⟨b, _, none⟩) h1).trans (h2 i x hx)⟩
  have Hne2 : Hid (∀ wr, Moved s w wr → l ≠ [] → ∃ b off, a = some ⟨b, off, none⟩ ∧ ∀ i x, l[i]? = some x → wr.cell? ⟨b, off + i, none⟩ = some (.int .i64 x)) := fun wr hm hn => by
    obtain ⟨b, off, e, h1, h2⟩ := hne hn
    exact ⟨b, off, e, fun i x hx => (hm.cell h1 (Hf.out hn b off none e) _).trans (h2 i x hx)⟩
  clear hL hr h hl hf hne
  go_enter Tryd.func11, Tryd.ntmps11
  go_wp2_with fail
  go_loopw [12] (fun i wr => ∃ k : Nat, k ≤ l.length ∧ i = .int .i64 k ∧ Below w.heap.size w wr) (fun i _ => l.length - (intOf i).toNat)
  case atStart => exact ⟨0, Nat.zero_le _, rfl, Below.refl _ _⟩
  case round =>
    obtain ⟨k, hk, rfl, hB⟩ := hrel
    by_cases hlt : k < l.length
    · obtain ⟨b, off, rfl, hc⟩ := Hne.out wr hB (by rintro rfl; simp at hlt)
      obtain ⟨x, hx⟩ : ∃ x, l[k]? = some x := ⟨l[k], by simp [hlt]⟩
      have d0 := hc k x hx
      have i1 : (k : Int) < (l.length : Int) := by omega
      have hhas := HL.out.has x (List.mem_of_getElem? hx)
      have hz : (x == 0) = false := by have := (hasB_iff _ _).1 hhas; simp; omega
      have ho := orZero_m (Hh.out.below hB).st hhas
      clear hx hc hhas
      go_wp2_with fail
      refine ho.mono ?_
      rintro e w1 ⟨rfl, hb1⟩
      have HB1 : Hid (Below w.heap.size w w1) := hB.trans (hb1.mono hB.size)
      clear hb1 ho
      go_wp2_with fail
      go_roundw
      case rel => exact ⟨k + 1, by omega, by go_num, HB1.out⟩
      case measure => simp [intOf]; omega
    · have hS := Hh.out.below hB
      go_wp2_with fail
      refine (text_m hS ⟨#[]⟩ (by decide) (by have := Hr.out; omega)).mono ?_
      rintro e w1 ⟨t1, ns1, rfl, r1, m1⟩
      have HR1 : Hid (Run s w w1 ns ns1 dr 1) := .ahead Hh.out hB r1
      have HM1 : Hid (Means ns1 t1 (sharedT (L.take 0))) := by rw [List.take_zero]; exact m1
      clear r1 m1 hS hB
      go_wp2_with fail
      go_loopw [25, 7] (fun i t wq => ∃ (k : Nat) (tt : Int) (nsk : List Nd), k ≤ l.length ∧ i = .int .i64 k ∧ t = .int .i64 tt ∧ Hid (Run s w wq ns nsk dr (k + 1)) ∧ Hid (Means nsk tt (sharedT (L.take k)))) (fun i _ _ => l.length - (intOf i).toNat)
      case atStart => exact ⟨0, t1, ns1, Nat.zero_le _, rfl, rfl, HR1, HM1⟩
      case round =>
        obtain ⟨k, tt, nsk, hk, rfl, rfl, hR, hM⟩ := hrel
        by_cases hlt : k < l.length
        · obtain ⟨b, off, rfl, hc⟩ := Hne2.out _ hR.out.mv (by rintro rfl; simp at hlt)
          obtain ⟨x, hx⟩ : ∃ x, l[k]? = some x := ⟨l[k], by simp [hlt]⟩
          obtain ⟨X, hX, hmx⟩ := HL.out.get k x hx
          have d0 := hc k x hx
          have i1 : (k : Int) < (l.length : Int) := by omega
          have hkd := kdf_m hR.out.seat kPsk (by decide) (by have := hR.out.st.len; have := Hr.out; omega) hM.out (hmx.keeps hR.out.st.pre)
          have HX : Hid (sharedT (L.take (k + 1)) = .kdf kPsk (sharedT (L.take k)) X) := by
            unfold Hid
            rw [List.take_add_one, hX]
            exact sharedT_snoc _ _
          clear hx hc hmx hX
          go_wp2_with fail
          refine hkd.mono ?_
          rintro e w2 ⟨t2, ns2, rfl, r2, m2⟩
          have HR2 : Hid (Run s w w2 ns ns2 dr (k + 1 + 1)) := hR.out.trans r2
          have HM2 : Hid (Means ns2 t2 (sharedT (L.take (k + 1)))) := by rw [HX.out]; exact m2
          clear r2 m2 hkd
          go_wp2_with fail
          go_roundw
          case rel => exact ⟨k + 1, t2, ns2, by omega, by go_num, rfl, HR2, HM2⟩
          case measure => simp [intOf]; omega
        · have hkl : k = l.length := by omega
          subst hkl
          go_wp2_with fail
          go_ret
          refine ⟨tt, nsk, rfl, hR.out, ?_⟩
          have := hM.out
          rwa [HL.out.len, List.take_length] at this

set_option maxRecDepth 100000 in
set_option maxHeartbeats 2000000 in
theorem all_m {w : World} (a0 a1 a2 a3 a4 a5 a6 a7 a8 a9 a10 a11 a12 : Int) :
    Calls Tryd.prog 27 #[.agg #[.int .i64 a0, .int .i64 a1, .int .i64 a2, .int .i64 a3, .int .i64 a4, .int .i64 a5, .int .i64 a6, .int .i64 a7, .int .i64 a8, .int .i64 a9, .int .i64 a10, .int .i64 a11, .int .i64 a12]] w fun e w' => ∃ b, e = .returned (.slice (some ⟨b, 0, none⟩) 13 13) ∧ Below w.heap.size w w' ∧ w.heap.size ≤ b ∧ b < w'.heap.size ∧ ∀ i x, [a0, a1, a2, a3, a4, a5, a6, a7, a8, a9, a10, a11, a12][i]? = some x → w'.cell? ⟨b, i, none⟩ = some (.int .i64 x) := by
  go_enter Tryd.func27, Tryd.ntmps27
  go_wp2_with fail
  go_ret
  refine ⟨w.heap.size + 1, rfl, ((Below.refl _ _).alloc (Nat.le_refl _) _).alloc (by simp) _, by omega, by simp, fun i x hx => ?_⟩
  have e := heap_alloc_new (w.alloc (.cells #[.int .i64 a0, .int .i64 a1, .int .i64 a2, .int .i64 a3, .int .i64 a4, .int .i64 a5, .int .i64 a6, .int .i64 a7, .int .i64 a8, .int .i64 a9, .int .i64 a10, .int .i64 a11, .int .i64 a12] 34)) (.cells #[.int .i64 a0, .int .i64 a1, .int .i64 a2, .int .i64 a3, .int .i64 a4, .int .i64 a5, .int .i64 a6, .int .i64 a7, .int .i64 a8, .int .i64 a9, .int .i64 a10, .int .i64 a11, .int .i64 a12] 3)
  rw [World.size_alloc] at e
  rw [cell_of_heap e]
  show ([Value.int .i64 a0, Value.int .i64 a1, Value.int .i64 a2, Value.int .i64 a3, Value.int .i64 a4, Value.int .i64 a5, Value.int .i64 a6, Value.int .i64 a7, Value.int .i64 a8, Value.int .i64 a9, Value.int .i64 a10, Value.int .i64 a11, Value.int .i64 a12].toArray)[i]? = _
  rw [List.getElem?_toArray]
  show (List.map (Value.int .i64) [a0, a1, a2, a3, a4, a5, a6, a7, a8, a9, a10, a11, a12])[i]? = _
  rw [List.getElem?_map, hx]
  rfl

end Go.Proofs.YtcfmagmhnemhaaaDoor
