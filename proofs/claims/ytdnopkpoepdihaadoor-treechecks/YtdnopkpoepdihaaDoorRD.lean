/-
  A number put into a rising list, by the document.
-/
import Derived.Test.YtdnopkpoepdihaaDoorRC
namespace Go.Proofs.YtdnopkpoepdihaaDoor
open Go.RowKit
set_option linter.unusedSimpArgs false
set_option linter.unusedVariables false

theorem ins_low {i : Int} : ∀ {p : List Int}, (∀ x ∈ p, x ≤ i) → ∀ r, ins i (p ++ r) = p ++ ins i r
  | [], _, r => rfl
  | k :: p, h, r => by
    have h1 := h k (by simp)
    have ih := ins_low (i := i) (p := p) (fun x hx => h x (by simp [hx])) r
    simp only [List.cons_append, ins]
    rw [if_neg (by omega), ih]
theorem ins_high {i : Int} : ∀ {p : List Int}, (∃ x ∈ p, i < x) → ∀ r, ins i (p ++ r) = ins i p ++ r
  | [], h, r => by simp at h
  | k :: p, h, r => by
    simp only [List.cons_append, ins]
    by_cases hk : k > i
    · rw [if_pos hk, if_pos hk]; rfl
    · rw [if_neg hk, if_neg hk]
      have h2 : ∃ x ∈ p, i < x := by
        obtain ⟨x, hx, hxi⟩ := h
        rcases List.mem_cons.1 hx with rfl | hx
        · exact absurd hxi hk
        · exact ⟨x, hx, hxi⟩
      rw [ins_high h2]; rfl
theorem ins_len (i : Int) (l : List Int) : (ins i l).length = l.length + 1 := by
  induction l with
  | nil => rfl
  | cons k r ih => unfold ins; split <;> simp [ih]

/-- While the list is gone through. -/
def WithJ (i : Int) (l : List Int) (j : Nat) (d : Bool) (o : List Int) : Prop :=
  (d = false ∧ (∀ x ∈ l.take j, x ≤ i) ∧ o = l.take j) ∨ (d = true ∧ (∃ x ∈ l.take j, i < x) ∧ o = ins i (l.take j))

set_option maxRecDepth 100000 in
set_option maxHeartbeats 4000000 in
theorem with_any {w : World} {v : Value} {l : List Int} (hl : IntsAt w v l) (hlen : l.length ≤ 64) (i : Int) :
    Calls Tryd.prog 67 #[v, .int .i64 i] w fun e w' => ∃ v', e = .returned v' ∧ OwnI w.heap.size w' v' (ins i l) ∧ Below w.heap.size w w' := by
  obtain ⟨i0, hi, hz0, hz1, hz2⟩ := info_parts Tryd.infoI
  obtain ⟨a, cap, rfl, hl1, hc⟩ := hl
  have hl64 : (l.length : Int) ≤ 64 := by omega
  go_enter Tryd.func67, Tryd.ntmps67
  go_wp2_with fail
  go_loopw [5, 6, 7] (fun c d k wr => ∃ (j : Nat) (db : Bool) (o : List Int), j ≤ l.length ∧ k = .int .i64 j ∧ d = .bool db ∧ Hid (WithJ i l j db o) ∧ o.length ≤ j + 1 ∧ OwnI w.heap.size wr c o ∧ Below w.heap.size w wr) (fun _ _ k _ => l.length - (intOf k).toNat)
  case atStart => exact ⟨0, false, [], Nat.zero_le _, rfl, rfl, .inl ⟨rfl, by simp, by simp⟩, by simp, World.ownsRow_nil _ _ _ _, Below.refl _ _⟩
  case round =>
    obtain ⟨j, db, o, hj, rfl, rfl, HW, hol, hown, hB⟩ := hrel
    have hsz := hB.size
    have Hm1 : Hid (o.length + 1 ≤ maxLen) := by show _ ≤ maxLen; unfold maxLen; omega
    have Hm2 : Hid ((o.length + 1) * 8 ≤ 140737488355328) := by show _ ≤ _; omega
    by_cases hlt : j < l.length
    · obtain ⟨y, hy⟩ : ∃ y, l[j]? = some y := ⟨l[j], by simp [hlt]⟩
      obtain ⟨b, off, rfl, hbl, hcell⟩ := hc (by rintro rfl; simp at hy)
      have c0 := (hB.cell (p := ⟨b, off + j, none⟩) hbl).trans (hcell j y hy)
      have i1 : (j : Int) < (l.length : Int) := by omega
      have htk : l.take (j + 1) = l.take j ++ [y] := by rw [List.take_add_one, hy]; rfl
      have hp0 : w.heap.size ≤ (wr.alloc (.cells #[.int .i64 y] 3)).heap.size := by simp; omega
      clear hcell hc hy
      cases db with
      | true =>
        have HN : Hid (WithJ i l (j + 1) true (o ++ [y])) := by
          rcases HW.out with ⟨h, _⟩ | ⟨_, ⟨x, hx, hxi⟩, ho⟩
          · cases h
          · refine .inr ⟨rfl, ⟨x, by rw [htk]; simp [hx], hxi⟩, ?_⟩
            rw [htk, ins_high ⟨x, hx, hxi⟩, ho]
        clear HW htk
        go_wp2_with (refine wpList_append_own_at _ rfl (.tmp 28) (.tmp 33) 22 rfl w.heap.size 3 i0 (.int .i64 0) 1 8 Tryd.underlying22 hi hz0 hz1 hz2 rfl Nat.one_pos _ o.length _ rfl (hown.alloc _) ⟨wr.heap.size, 0, none⟩ 1 1 [.int .i64 y] rfl rfl (cell_one_new _ _ _) (one_int y) Hm1.out Hm2.out hp0 ?_; intro v7 w7 ho7 hg7 hnil7 hl7)
        have b7 := (hB.alloc hsz (.cells #[.int .i64 y] 3)).grown hg7 hp0 (fun k hk => (hown.lt k hk).1)
        go_roundw
        case rel => exact ⟨j + 1, true, o ++ [y], by omega, by go_num, rfl, HN, by simp; omega, by simpa [OwnI] using ho7, b7⟩
        case measure => simp [intOf]; omega
      | false =>
        by_cases hyi : i < y
        · have HN : Hid (WithJ i l (j + 1) true (o ++ [i] ++ [y])) := by
            rcases HW.out with ⟨_, h1, ho⟩ | ⟨h, _⟩
            · refine .inr ⟨rfl, ⟨y, by rw [htk]; simp, hyi⟩, ?_⟩
              rw [htk, ins_low h1, ho]
              simp [ins, hyi]
            · cases h
          have hol2 : o.length ≤ j := by
            rcases HW.out with ⟨_, _, ho⟩ | ⟨h, _⟩
            · rw [ho, List.length_take]; omega
            · cases h
          have hp1 : w.heap.size ≤ (wr.alloc (.cells #[.int .i64 i] 3)).heap.size := by simp; omega
          have Hn1 : Hid ((o ++ [i]).length + 1 ≤ maxLen) := by show _ ≤ maxLen; unfold maxLen; simp; omega
          have Hn2 : Hid (((o ++ [i]).length + 1) * 8 ≤ 140737488355328) := by show _ ≤ _; simp; omega
          clear HW htk
          go_wp2_with first
            | (refine wpList_append_own_at _ rfl (.tmp 24) (.tmp 26) 22 rfl w.heap.size 3 i0 (.int .i64 0) 1 8 Tryd.underlying22 hi hz0 hz1 hz2 rfl Nat.one_pos _ o.length _ rfl (hown.alloc _) ⟨wr.heap.size, 0, none⟩ 1 1 [.int .i64 i] rfl rfl (cell_one_new _ _ _) (one_int i) Hm1.out Hm2.out hp1 ?_; intro v7 w7 ho7 hg7 hnil7 hl7; have o7 : OwnI w.heap.size w7 v7 (o ++ [i]) := (by simpa [OwnI] using ho7); have b7 := (hB.alloc hsz (.cells #[.int .i64 i] 3)).grown hg7 hp1 (fun k hk => (hown.lt k hk).1); have hp2 : w.heap.size ≤ (w7.alloc (.cells #[.int .i64 y] 3)).heap.size := Nat.le_trans b7.size (by simp); have c7 : w7.cell? ⟨b, off + j, none⟩ = some (.int .i64 y) := (hg7.cell_far ⟨b, off + j, none⟩ (by simp; have := hB.size; omega) (fun e => by have := (hown.lt b e.symm).1; omega)).trans ((World.ownsRow.alloc hown (.cells #[.int .i64 i] 3)) |> fun _ => ((Below.refl wr.heap.size wr).alloc (Nat.le_refl _) (.cells #[.int .i64 i] 3)).cell (p := ⟨b, off + j, none⟩) (by have := hB.size; show b < _; omega) |>.trans c0))
            | (refine wpList_append_own_at _ rfl (.tmp 28) (.tmp 33) 22 rfl w.heap.size 3 i0 (.int .i64 0) 1 8 Tryd.underlying22 hi hz0 hz1 hz2 rfl Nat.one_pos _ _ _ rfl (World.ownsRow.alloc o7 _) ⟨w7.heap.size, 0, none⟩ 1 1 [.int .i64 y] rfl rfl (cell_one_new _ _ _) (one_int y) Hn1.out Hn2.out hp2 ?_; intro v8 w8 ho8 hg8 hnil8 hl8)
          have b8 := (b7.alloc b7.size (.cells #[.int .i64 y] 3)).grown hg8 hp2 (fun k hk => (World.ownsRow.lt o7 k hk).1)
          go_roundw
          case rel => exact ⟨j + 1, true, o ++ [i] ++ [y], by omega, by go_num, rfl, HN, by simp; omega, by simpa [OwnI] using ho8, b8⟩
          case measure => simp [intOf]; omega
        · have HN : Hid (WithJ i l (j + 1) false (o ++ [y])) := by
            rcases HW.out with ⟨_, h1, ho⟩ | ⟨h, _⟩
            · refine .inl ⟨rfl, fun x hx => ?_, by rw [htk, ho]⟩
              rw [htk] at hx
              rcases List.mem_append.1 hx with hx | hx
              · exact h1 x hx
              · simp at hx; omega
            · cases h
          have hyi' : ¬ (i < y) := hyi
          clear HW htk
          go_wp2_with (refine wpList_append_own_at _ rfl (.tmp 28) (.tmp 33) 22 rfl w.heap.size 3 i0 (.int .i64 0) 1 8 Tryd.underlying22 hi hz0 hz1 hz2 rfl Nat.one_pos _ o.length _ rfl (hown.alloc _) ⟨wr.heap.size, 0, none⟩ 1 1 [.int .i64 y] rfl rfl (cell_one_new _ _ _) (one_int y) Hm1.out Hm2.out hp0 ?_; intro v7 w7 ho7 hg7 hnil7 hl7)
          have b7 := (hB.alloc hsz (.cells #[.int .i64 y] 3)).grown hg7 hp0 (fun k hk => (hown.lt k hk).1)
          go_roundw
          case rel => exact ⟨j + 1, false, o ++ [y], by omega, by go_num, rfl, HN, by simp; omega, by simpa [OwnI] using ho7, b7⟩
          case measure => simp [intOf]; omega
    · have htk : l.take j = l := List.take_of_length_le (by omega)
      have i1 : ¬ ((j : Int) < (l.length : Int)) := by omega
      clear hc
      cases db with
      | true =>
        have HO : Hid (OwnI w.heap.size wr u5 (ins i l)) := by
          rcases HW.out with ⟨h, _⟩ | ⟨_, _, ho⟩
          · cases h
          · rw [htk] at ho; rw [← ho]; exact hown
        clear hown HW
        go_wp2_with fail
        go_ret
        exact ⟨_, rfl, HO.out, hB⟩
      | false =>
        have HO : Hid (o ++ [i] = ins i l) := by
          rcases HW.out with ⟨_, h1, ho⟩ | ⟨h, _⟩
          · rw [htk] at ho h1
            have := ins_low h1 []
            simp [ins] at this
            rw [this, ho]; rfl
          · cases h
        have hp1 : w.heap.size ≤ (wr.alloc (.cells #[.int .i64 i] 3)).heap.size := by simp; omega
        clear HW
        go_wp2_with (refine wpList_append_own_at _ rfl (.tmp 37) (.tmp 39) 22 rfl w.heap.size 3 i0 (.int .i64 0) 1 8 Tryd.underlying22 hi hz0 hz1 hz2 rfl Nat.one_pos _ o.length _ rfl (hown.alloc _) ⟨wr.heap.size, 0, none⟩ 1 1 [.int .i64 i] rfl rfl (cell_one_new _ _ _) (one_int i) Hm1.out Hm2.out hp1 ?_; intro v7 w7 ho7 hg7 hnil7 hl7)
        have b7 := (hB.alloc hsz (.cells #[.int .i64 i] 3)).grown hg7 hp1 (fun k hk => (hown.lt k hk).1)
        go_ret
        exact ⟨_, rfl, by rw [← HO.out]; simpa [OwnI] using ho7, b7⟩

end Go.Proofs.YtdnopkpoepdihaaDoor
