/-
  How a list is read.
-/
import Derived.Test.YtjajgllkbchapaaLow
namespace Go.Proofs.Ytjajgllkbchapaa
open Go.RowKit
set_option linter.unusedSimpArgs false
set_option linter.unusedVariables false

theorem info3g : (Try.prog.info? 3).map (fun i => (i.zero, i.size, i.bytes)) = some (some (.int .i64 0), 1, 8) := by kernel_rfl

set_option maxRecDepth 100000 in
set_option maxHeartbeats 1000000 in
theorem readListInt {α : Type} {B : Nat} {w0 : World} {mb cb : Nat} {most : Int} {rep : World → Value → α → Prop} {g : List UInt8 → Except Int (α × List UInt8)} (hmb : mb < B) (hcb : cb < B) (hm : w0.cell? ⟨mb, 0, none⟩ = some (.int .i64 most)) (hm0 : 0 ≤ most)
    (hc : w0.cell? ⟨cb, 1, none⟩ = some (.func (.func 55) #[] #[])) (hin : ∀ w r l, Low B w0 w → B ≤ r → ROk w r l → Calls Try.prog 55 #[.pointer (some ⟨r, 0, none⟩)] w (got rep w r (g l)))
    (hr1 : ∀ w v a, rep w v a → v.oneCell' = true) (hs1 : Stable rep 134) (hs2 : Stable rep 3) (he : Eats g) {w : World} {r : Nat} {l : List UInt8} (hlow : Low B w0 w) (hBr : B ≤ r) (h : ROk w r l) :
    Calls Try.prog 60 #[.pointer (some ⟨r, 0, none⟩), .pointer (some ⟨mb, 0, none⟩), .pointer (some ⟨cb, 0, none⟩)] w (got (Row rep 3 0) w r (getList most g l)) := by
  have hm' : w.cell? ⟨mb, 0, none⟩ = some (.int .i64 most) := by rw [hlow.cell hmb, hm]
  have hlt := h.lt
  have hlen := h.len
  obtain ⟨X, hX⟩ : ∃ X, X = getList most g l := ⟨_, rfl⟩
  rw [← hX]
  cases hg : getC most l with
  | error er =>
    have HX : Hid (X = .error er) := by rw [hX]; simp [getList, hg, Hid]
    have Hg : Hid (getC most l = .error er) := hg
    have He : Hid (er ≠ 0) := by have := getC_err hg; show er ≠ 0; omega
    clear hg hX
    go_enter Try.func60, Try.ntmps60
    go_wp2_with fail
    refine (readC_bad h most hm0 Hg.out).mono ?_
    rintro e w1 ⟨rfl, h1, g1⟩
    obtain ⟨c2, cf, hlt1⟩ := h1.cells
    go_wp2_with fail
    go_loop [5, 7] (fun v i => v = .slice none 0 0 ∧ i = .int .i64 0) (fun _ _ => 0)
    case atStart => exact ⟨rfl, rfl⟩
    case round =>
      obtain ⟨rfl, rfl⟩ := hrel
      go_wp2_with fail
      go_ret
      rw [HX.out]
      exact ⟨_, rfl, rfl, He.out, h1, g1⟩
  | ok x =>
    obtain ⟨n, t⟩ := x
    have HX : Hid (X = pre [] (many g n t)) := by rw [hX, pre_nil]; simp [getList, hg, Hid]
    have Hg : Hid (getC most l = .ok (n, t)) := hg
    have hsuf := getN_suffix (getC_ok hg).1
    clear hg hX
    go_enter Try.func60, Try.ntmps60
    go_wp2_with fail
    refine (readC_ok h most hm0 Hg.out).mono ?_
    rintro e w1 ⟨rfl, h1, g1⟩
    go_wp2_with fail
    go_loopw [5, 7] (fun v i wr => w.grownBy wr (some r) ∧ ((∃ (acc : List α) (t' : List UInt8), i = .int .i64 acc.length ∧ acc.length ≤ n ∧ ROk wr r t' ∧ Row rep 3 w.heap.size wr v acc ∧ acc.length + t'.length ≤ t.length ∧ X = pre acc (many g (n - acc.length) t')) ∨ (∃ er k, i = .int .i64 k ∧ v.oneCell' = true ∧ er ≠ 0 ∧ RBad wr r er ∧ X = .error er))) (fun _ i _ => n - (intOf i).toNat)
    case atStart => exact ⟨g1, Or.inl ⟨[], t, rfl, Nat.zero_le _, h1, Row.nil _ _ _ _, by simp, HX.out⟩⟩
    case round =>
      obtain ⟨gr, ⟨acc, t', rfl, hacc, h2, hrow, hsum, hX2⟩ | ⟨er, k, rfl, hv1, her, h2, hX2⟩⟩ := hrel
      · have HX2 : Hid (X = pre acc (many g (n - acc.length) t')) := hX2
        clear hX2
        obtain ⟨c2, cf, hlt2⟩ := h2.cells
        have hlow2 : Low B w0 wr := hlow.grown gr hBr hlt
        have hcc : wr.cell? ⟨cb, 1, none⟩ = some (.func (.func 55) #[] #[]) := by rw [hlow2.cell hcb, hc]
        by_cases hn : acc.length < n
        · go_wp2_with fail
          refine (hin wr r t' hlow2 hBr h2).mono ?_
          intro e w3 hgot
          obtain ⟨vs, ho, hvs1, hvr⟩ := hrow
          obtain ⟨i0, hi, hz0, hz1, hz2⟩ := info_parts info3g
          have hm1 : Hid (acc.length + 1 ≤ maxLen) := by show _ ≤ maxLen; unfold maxLen; omega
          have hm2 : Hid ((acc.length + 1) * 8 ≤ 140737488355328) := by show _ ≤ _; omega
          obtain ⟨gk, gf⟩ : (∀ k, u5.ownBlock = some k → w.heap.size ≤ k ∧ k < wr.heap.size) ∧ some r ≠ u5.ownBlock := ⟨ho.lt, fun e => by have := (ho.lt r e.symm).1; omega⟩
          cases hga : g t' with
          | error er =>
            rw [hga] at hgot
            obtain ⟨v, rfl, hv1, her, h3, g3⟩ := hgot
            have HX3 : Hid (X = .error er) := by
              have hh := HX2.out
              rw [show n - acc.length = (n - acc.length - 1) + 1 from by omega, pre_bad g acc _ t' er hga] at hh
              exact hh
            have ho3 : w3.ownsRow w.heap.size 3 1 u5 acc.length vs := ownsRow_keep ho fun k cur hk hh => g3.block k (Array.getElem?_eq_some_iff.1 hh).1 (fun e => gf (by rw [hk, e]))
            have hvc := cells_one hv1
            unfold Value.cells at hvc
            have hone : ∀ u ∈ [v], u.oneCell' = true := by intro u hu; simp at hu; subst hu; exact hv1
            have hp0 : w.heap.size ≤ (w3.alloc (.cells #[v] 3)).heap.size := by have := gr.size; have := g3.size; simp; omega
            clear hga
            go_wp2_with (refine wpList_append_own_at _ rfl (.tmp 23) (.tmp 28) 22 rfl w.heap.size 3 i0 (.int .i64 0) 1 8 Try.underlying22 hi hz0 hz1 hz2 rfl Nat.one_pos u5 acc.length vs rfl (ho3.alloc _) ⟨w3.heap.size, 0, none⟩ 1 1 [v] rfl rfl (cell_one_new _ _ _) hone hm1.out hm2.out hp0 ?_; intro v' w' hown hgrow hnil hloc)
            clear hvc
            have hb3 := (Below.refl _ w3).alloc (Nat.le_refl _) (.cells #[v] 3)
            have h4 := (h3.below hb3).grown hgrow gf
            have c4 := h4.cells.1
            have e4 := hown
            obtain ⟨a2, c2', hv2⟩ := ownsRow_form hown
            go_roundw
            case rel => exact ⟨grown_row (grown_below (gr.trans g3) hb3) hgrow (fun k hk => (gk k hk).1), Or.inr ⟨er, (acc.length : Int) + 1, rfl, by rw [hv2]; rfl, her, h4, HX3.out⟩⟩
            case measure => simp [intOf]; omega
          | ok x =>
            obtain ⟨a, t2⟩ := x
            rw [hga] at hgot
            obtain ⟨v, rfl, hrv, h3, g3⟩ := hgot
            have hv1 := hr1 _ _ _ hrv
            have HX3 : Hid (X = pre (acc ++ [a]) (many g (n - (acc ++ [a]).length) t2)) := by
              have hh := HX2.out
              rw [show n - acc.length = (n - (acc ++ [a]).length) + 1 from by simp; omega, pre_many g acc _ t' t2 a hga] at hh
              exact hh
            have heat := he t' a t2 hga
            obtain ⟨s3, k3, hr3, hd3⟩ := id h2
            have hk3 : ∀ k, some r = some k → k < wr.heap.size → ∃ cur fr, wr.heap[k]? = some (.cells cur 134 fr) := fun k hk _ => by simp at hk; subst hk; exact ⟨_, _, hr3.1⟩
            have ho3 : w3.ownsRow w.heap.size 3 1 u5 acc.length vs := ownsRow_keep ho fun k cur hk hh => g3.block k (Array.getElem?_eq_some_iff.1 hh).1 (fun e => gf (by rw [hk, e]))
            have hvr3 : ∀ (i : Nat) (x : Value) (y : α), vs[i]? = some x → acc[i]? = some y → rep w3 x y := fun i x y hx hy => hs1 wr w3 x y _ (hvr i x y hx hy) g3 hk3
            have hvc := cells_one hv1
            unfold Value.cells at hvc
            have hone : ∀ u ∈ [v], u.oneCell' = true := by intro u hu; simp at hu; subst hu; exact hv1
            have hp0 : w.heap.size ≤ (w3.alloc (.cells #[v] 3)).heap.size := by have := gr.size; have := g3.size; simp; omega
            clear hga hr3 hd3
            go_wp2_with (refine wpList_append_own_at _ rfl (.tmp 23) (.tmp 28) 22 rfl w.heap.size 3 i0 (.int .i64 0) 1 8 Try.underlying22 hi hz0 hz1 hz2 rfl Nat.one_pos u5 acc.length vs rfl (ho3.alloc _) ⟨w3.heap.size, 0, none⟩ 1 1 [v] rfl rfl (cell_one_new _ _ _) hone hm1.out hm2.out hp0 ?_; intro v' w' hown hgrow hnil hloc)
            clear hvc
            have hb3 := (Below.refl _ w3).alloc (Nat.le_refl _) (.cells #[v] 3)
            have h4 := (h3.below hb3).grown hgrow gf
            have c4 := h4.cells.1
            have hrow4 := Row.push hs2 ho3 hvs1 hvr3 hrv hv1 hb3 hown hgrow
            go_roundw
            case rel => exact ⟨grown_row (grown_below (gr.trans g3) hb3) hgrow (fun k hk => (gk k hk).1), Or.inl ⟨acc ++ [a], t2, by simp, by simp; omega, h4, hrow4, by simp; omega, HX3.out⟩⟩
            case measure => simp [intOf]; omega
        · go_wp2_with fail
          go_ret
          rw [HX2.out, show n - acc.length = 0 from by omega]
          exact ⟨_, rfl, by simpa using hrow.mono (Nat.zero_le _), h2, gr⟩
      · obtain ⟨c2, cf, hlt2⟩ := h2.cells
        have hne : (er == 0) = false := by simpa using her
        have HX3 : Hid (X = .error er) := hX2
        clear hX2
        by_cases hn : k < (n : Int)
        · go_wp2_with fail
          go_ret
          rw [HX3.out]
          exact ⟨_, rfl, hv1, her, h2, gr⟩
        · go_wp2_with fail
          go_ret
          rw [HX3.out]
          exact ⟨_, rfl, hv1, her, h2, gr⟩

theorem info4g : (Try.prog.info? 4).map (fun i => (i.zero, i.size, i.bytes)) = some (some (.bool false), 1, 1) := by kernel_rfl

set_option maxRecDepth 100000 in
set_option maxHeartbeats 1000000 in
theorem readListBool {α : Type} {B : Nat} {w0 : World} {mb cb : Nat} {most : Int} {rep : World → Value → α → Prop} {g : List UInt8 → Except Int (α × List UInt8)} (hmb : mb < B) (hcb : cb < B) (hm : w0.cell? ⟨mb, 0, none⟩ = some (.int .i64 most)) (hm0 : 0 ≤ most)
    (hc : w0.cell? ⟨cb, 1, none⟩ = some (.func (.func 66) #[] #[])) (hin : ∀ w r l, Low B w0 w → B ≤ r → ROk w r l → Calls Try.prog 66 #[.pointer (some ⟨r, 0, none⟩)] w (got rep w r (g l)))
    (hr1 : ∀ w v a, rep w v a → v.oneCell' = true) (hs1 : Stable rep 134) (hs2 : Stable rep 4) (he : Eats g) {w : World} {r : Nat} {l : List UInt8} (hlow : Low B w0 w) (hBr : B ≤ r) (h : ROk w r l) :
    Calls Try.prog 82 #[.pointer (some ⟨r, 0, none⟩), .pointer (some ⟨mb, 0, none⟩), .pointer (some ⟨cb, 0, none⟩)] w (got (Row rep 4 0) w r (getList most g l)) := by
  have hm' : w.cell? ⟨mb, 0, none⟩ = some (.int .i64 most) := by rw [hlow.cell hmb, hm]
  have hlt := h.lt
  have hlen := h.len
  obtain ⟨X, hX⟩ : ∃ X, X = getList most g l := ⟨_, rfl⟩
  rw [← hX]
  cases hg : getC most l with
  | error er =>
    have HX : Hid (X = .error er) := by rw [hX]; simp [getList, hg, Hid]
    have Hg : Hid (getC most l = .error er) := hg
    have He : Hid (er ≠ 0) := by have := getC_err hg; show er ≠ 0; omega
    clear hg hX
    go_enter Try.func82, Try.ntmps82
    go_wp2_with fail
    refine (readC_bad h most hm0 Hg.out).mono ?_
    rintro e w1 ⟨rfl, h1, g1⟩
    obtain ⟨c2, cf, hlt1⟩ := h1.cells
    go_wp2_with fail
    go_loop [5, 7] (fun v i => v = .slice none 0 0 ∧ i = .int .i64 0) (fun _ _ => 0)
    case atStart => exact ⟨rfl, rfl⟩
    case round =>
      obtain ⟨rfl, rfl⟩ := hrel
      go_wp2_with fail
      go_ret
      rw [HX.out]
      exact ⟨_, rfl, rfl, He.out, h1, g1⟩
  | ok x =>
    obtain ⟨n, t⟩ := x
    have HX : Hid (X = pre [] (many g n t)) := by rw [hX, pre_nil]; simp [getList, hg, Hid]
    have Hg : Hid (getC most l = .ok (n, t)) := hg
    have hsuf := getN_suffix (getC_ok hg).1
    clear hg hX
    go_enter Try.func82, Try.ntmps82
    go_wp2_with fail
    refine (readC_ok h most hm0 Hg.out).mono ?_
    rintro e w1 ⟨rfl, h1, g1⟩
    go_wp2_with fail
    go_loopw [5, 7] (fun v i wr => w.grownBy wr (some r) ∧ ((∃ (acc : List α) (t' : List UInt8), i = .int .i64 acc.length ∧ acc.length ≤ n ∧ ROk wr r t' ∧ Row rep 4 w.heap.size wr v acc ∧ acc.length + t'.length ≤ t.length ∧ X = pre acc (many g (n - acc.length) t')) ∨ (∃ er k, i = .int .i64 k ∧ v.oneCell' = true ∧ er ≠ 0 ∧ RBad wr r er ∧ X = .error er))) (fun _ i _ => n - (intOf i).toNat)
    case atStart => exact ⟨g1, Or.inl ⟨[], t, rfl, Nat.zero_le _, h1, Row.nil _ _ _ _, by simp, HX.out⟩⟩
    case round =>
      obtain ⟨gr, ⟨acc, t', rfl, hacc, h2, hrow, hsum, hX2⟩ | ⟨er, k, rfl, hv1, her, h2, hX2⟩⟩ := hrel
      · have HX2 : Hid (X = pre acc (many g (n - acc.length) t')) := hX2
        clear hX2
        obtain ⟨c2, cf, hlt2⟩ := h2.cells
        have hlow2 : Low B w0 wr := hlow.grown gr hBr hlt
        have hcc : wr.cell? ⟨cb, 1, none⟩ = some (.func (.func 66) #[] #[]) := by rw [hlow2.cell hcb, hc]
        by_cases hn : acc.length < n
        · go_wp2_with fail
          refine (hin wr r t' hlow2 hBr h2).mono ?_
          intro e w3 hgot
          obtain ⟨vs, ho, hvs1, hvr⟩ := hrow
          obtain ⟨i0, hi, hz0, hz1, hz2⟩ := info_parts info4g
          have hm1 : Hid (acc.length + 1 ≤ maxLen) := by show _ ≤ maxLen; unfold maxLen; omega
          have hm2 : Hid ((acc.length + 1) * 1 ≤ 140737488355328) := by show _ ≤ _; omega
          obtain ⟨gk, gf⟩ : (∀ k, u5.ownBlock = some k → w.heap.size ≤ k ∧ k < wr.heap.size) ∧ some r ≠ u5.ownBlock := ⟨ho.lt, fun e => by have := (ho.lt r e.symm).1; omega⟩
          cases hga : g t' with
          | error er =>
            rw [hga] at hgot
            obtain ⟨v, rfl, hv1, her, h3, g3⟩ := hgot
            have HX3 : Hid (X = .error er) := by
              have hh := HX2.out
              rw [show n - acc.length = (n - acc.length - 1) + 1 from by omega, pre_bad g acc _ t' er hga] at hh
              exact hh
            have ho3 : w3.ownsRow w.heap.size 4 1 u5 acc.length vs := ownsRow_keep ho fun k cur hk hh => g3.block k (Array.getElem?_eq_some_iff.1 hh).1 (fun e => gf (by rw [hk, e]))
            have hvc := cells_one hv1
            unfold Value.cells at hvc
            have hone : ∀ u ∈ [v], u.oneCell' = true := by intro u hu; simp at hu; subst hu; exact hv1
            have hp0 : w.heap.size ≤ (w3.alloc (.cells #[v] 4)).heap.size := by have := gr.size; have := g3.size; simp; omega
            clear hga
            go_wp2_with (refine wpList_append_own_at _ rfl (.tmp 23) (.tmp 28) 89 rfl w.heap.size 4 i0 (.bool false) 1 1 Try.underlying89 hi hz0 hz1 hz2 rfl Nat.one_pos u5 acc.length vs rfl (ho3.alloc _) ⟨w3.heap.size, 0, none⟩ 1 1 [v] rfl rfl (cell_one_new _ _ _) hone hm1.out hm2.out hp0 ?_; intro v' w' hown hgrow hnil hloc)
            clear hvc
            have hb3 := (Below.refl _ w3).alloc (Nat.le_refl _) (.cells #[v] 4)
            have h4 := (h3.below hb3).grown hgrow gf
            have c4 := h4.cells.1
            have e4 := hown
            obtain ⟨a2, c2', hv2⟩ := ownsRow_form hown
            go_roundw
            case rel => exact ⟨grown_row (grown_below (gr.trans g3) hb3) hgrow (fun k hk => (gk k hk).1), Or.inr ⟨er, (acc.length : Int) + 1, rfl, by rw [hv2]; rfl, her, h4, HX3.out⟩⟩
            case measure => simp [intOf]; omega
          | ok x =>
            obtain ⟨a, t2⟩ := x
            rw [hga] at hgot
            obtain ⟨v, rfl, hrv, h3, g3⟩ := hgot
            have hv1 := hr1 _ _ _ hrv
            have HX3 : Hid (X = pre (acc ++ [a]) (many g (n - (acc ++ [a]).length) t2)) := by
              have hh := HX2.out
              rw [show n - acc.length = (n - (acc ++ [a]).length) + 1 from by simp; omega, pre_many g acc _ t' t2 a hga] at hh
              exact hh
            have heat := he t' a t2 hga
            obtain ⟨s3, k3, hr3, hd3⟩ := id h2
            have hk3 : ∀ k, some r = some k → k < wr.heap.size → ∃ cur fr, wr.heap[k]? = some (.cells cur 134 fr) := fun k hk _ => by simp at hk; subst hk; exact ⟨_, _, hr3.1⟩
            have ho3 : w3.ownsRow w.heap.size 4 1 u5 acc.length vs := ownsRow_keep ho fun k cur hk hh => g3.block k (Array.getElem?_eq_some_iff.1 hh).1 (fun e => gf (by rw [hk, e]))
            have hvr3 : ∀ (i : Nat) (x : Value) (y : α), vs[i]? = some x → acc[i]? = some y → rep w3 x y := fun i x y hx hy => hs1 wr w3 x y _ (hvr i x y hx hy) g3 hk3
            have hvc := cells_one hv1
            unfold Value.cells at hvc
            have hone : ∀ u ∈ [v], u.oneCell' = true := by intro u hu; simp at hu; subst hu; exact hv1
            have hp0 : w.heap.size ≤ (w3.alloc (.cells #[v] 4)).heap.size := by have := gr.size; have := g3.size; simp; omega
            clear hga hr3 hd3
            go_wp2_with (refine wpList_append_own_at _ rfl (.tmp 23) (.tmp 28) 89 rfl w.heap.size 4 i0 (.bool false) 1 1 Try.underlying89 hi hz0 hz1 hz2 rfl Nat.one_pos u5 acc.length vs rfl (ho3.alloc _) ⟨w3.heap.size, 0, none⟩ 1 1 [v] rfl rfl (cell_one_new _ _ _) hone hm1.out hm2.out hp0 ?_; intro v' w' hown hgrow hnil hloc)
            clear hvc
            have hb3 := (Below.refl _ w3).alloc (Nat.le_refl _) (.cells #[v] 4)
            have h4 := (h3.below hb3).grown hgrow gf
            have c4 := h4.cells.1
            have hrow4 := Row.push hs2 ho3 hvs1 hvr3 hrv hv1 hb3 hown hgrow
            go_roundw
            case rel => exact ⟨grown_row (grown_below (gr.trans g3) hb3) hgrow (fun k hk => (gk k hk).1), Or.inl ⟨acc ++ [a], t2, by simp, by simp; omega, h4, hrow4, by simp; omega, HX3.out⟩⟩
            case measure => simp [intOf]; omega
        · go_wp2_with fail
          go_ret
          rw [HX2.out, show n - acc.length = 0 from by omega]
          exact ⟨_, rfl, by simpa using hrow.mono (Nat.zero_le _), h2, gr⟩
      · obtain ⟨c2, cf, hlt2⟩ := h2.cells
        have hne : (er == 0) = false := by simpa using her
        have HX3 : Hid (X = .error er) := hX2
        clear hX2
        by_cases hn : k < (n : Int)
        · go_wp2_with fail
          go_ret
          rw [HX3.out]
          exact ⟨_, rfl, hv1, her, h2, gr⟩
        · go_wp2_with fail
          go_ret
          rw [HX3.out]
          exact ⟨_, rfl, hv1, her, h2, gr⟩

theorem info9g : (Try.prog.info? 9).map (fun i => (i.zero, i.size, i.bytes)) = some (some (.string ⟨#[]⟩), 1, 16) := by kernel_rfl

set_option maxRecDepth 100000 in
set_option maxHeartbeats 1000000 in
theorem readListStr {α : Type} {B : Nat} {w0 : World} {mb cb : Nat} {tb : Nat} {most : Int} {rep : World → Value → α → Prop} {g : List UInt8 → Except Int (α × List UInt8)} (hmb : mb < B) (hcb : cb < B) (hm : w0.cell? ⟨mb, 0, none⟩ = some (.int .i64 most)) (hm0 : 0 ≤ most)
    (hc : w0.cell? ⟨cb, 1, none⟩ = some (.func (.func 70) #[] #[.pointer (some ⟨tb, 0, none⟩)])) (hin : ∀ w r l, Low B w0 w → B ≤ r → ROk w r l → Calls Try.prog 70 #[.pointer (some ⟨r, 0, none⟩), .pointer (some ⟨tb, 0, none⟩)] w (got rep w r (g l)))
    (hr1 : ∀ w v a, rep w v a → v.oneCell' = true) (hs1 : Stable rep 134) (hs2 : Stable rep 9) (he : Eats g) {w : World} {r : Nat} {l : List UInt8} (hlow : Low B w0 w) (hBr : B ≤ r) (h : ROk w r l) :
    Calls Try.prog 76 #[.pointer (some ⟨r, 0, none⟩), .pointer (some ⟨mb, 0, none⟩), .pointer (some ⟨cb, 0, none⟩)] w (got (Row rep 9 0) w r (getList most g l)) := by
  have hm' : w.cell? ⟨mb, 0, none⟩ = some (.int .i64 most) := by rw [hlow.cell hmb, hm]
  have hlt := h.lt
  have hlen := h.len
  obtain ⟨X, hX⟩ : ∃ X, X = getList most g l := ⟨_, rfl⟩
  rw [← hX]
  cases hg : getC most l with
  | error er =>
    have HX : Hid (X = .error er) := by rw [hX]; simp [getList, hg, Hid]
    have Hg : Hid (getC most l = .error er) := hg
    have He : Hid (er ≠ 0) := by have := getC_err hg; show er ≠ 0; omega
    clear hg hX
    go_enter Try.func76, Try.ntmps76
    go_wp2_with fail
    refine (readC_bad h most hm0 Hg.out).mono ?_
    rintro e w1 ⟨rfl, h1, g1⟩
    obtain ⟨c2, cf, hlt1⟩ := h1.cells
    go_wp2_with fail
    go_loop [5, 7] (fun v i => v = .slice none 0 0 ∧ i = .int .i64 0) (fun _ _ => 0)
    case atStart => exact ⟨rfl, rfl⟩
    case round =>
      obtain ⟨rfl, rfl⟩ := hrel
      go_wp2_with fail
      go_ret
      rw [HX.out]
      exact ⟨_, rfl, rfl, He.out, h1, g1⟩
  | ok x =>
    obtain ⟨n, t⟩ := x
    have HX : Hid (X = pre [] (many g n t)) := by rw [hX, pre_nil]; simp [getList, hg, Hid]
    have Hg : Hid (getC most l = .ok (n, t)) := hg
    have hsuf := getN_suffix (getC_ok hg).1
    clear hg hX
    go_enter Try.func76, Try.ntmps76
    go_wp2_with fail
    refine (readC_ok h most hm0 Hg.out).mono ?_
    rintro e w1 ⟨rfl, h1, g1⟩
    go_wp2_with fail
    go_loopw [5, 7] (fun v i wr => w.grownBy wr (some r) ∧ ((∃ (acc : List α) (t' : List UInt8), i = .int .i64 acc.length ∧ acc.length ≤ n ∧ ROk wr r t' ∧ Row rep 9 w.heap.size wr v acc ∧ acc.length + t'.length ≤ t.length ∧ X = pre acc (many g (n - acc.length) t')) ∨ (∃ er k, i = .int .i64 k ∧ v.oneCell' = true ∧ er ≠ 0 ∧ RBad wr r er ∧ X = .error er))) (fun _ i _ => n - (intOf i).toNat)
    case atStart => exact ⟨g1, Or.inl ⟨[], t, rfl, Nat.zero_le _, h1, Row.nil _ _ _ _, by simp, HX.out⟩⟩
    case round =>
      obtain ⟨gr, ⟨acc, t', rfl, hacc, h2, hrow, hsum, hX2⟩ | ⟨er, k, rfl, hv1, her, h2, hX2⟩⟩ := hrel
      · have HX2 : Hid (X = pre acc (many g (n - acc.length) t')) := hX2
        clear hX2
        obtain ⟨c2, cf, hlt2⟩ := h2.cells
        have hlow2 : Low B w0 wr := hlow.grown gr hBr hlt
        have hcc : wr.cell? ⟨cb, 1, none⟩ = some (.func (.func 70) #[] #[.pointer (some ⟨tb, 0, none⟩)]) := by rw [hlow2.cell hcb, hc]
        by_cases hn : acc.length < n
        · go_wp2_with fail
          refine (hin wr r t' hlow2 hBr h2).mono ?_
          intro e w3 hgot
          obtain ⟨vs, ho, hvs1, hvr⟩ := hrow
          obtain ⟨i0, hi, hz0, hz1, hz2⟩ := info_parts info9g
          have hm1 : Hid (acc.length + 1 ≤ maxLen) := by show _ ≤ maxLen; unfold maxLen; omega
          have hm2 : Hid ((acc.length + 1) * 16 ≤ 140737488355328) := by show _ ≤ _; omega
          obtain ⟨gk, gf⟩ : (∀ k, u5.ownBlock = some k → w.heap.size ≤ k ∧ k < wr.heap.size) ∧ some r ≠ u5.ownBlock := ⟨ho.lt, fun e => by have := (ho.lt r e.symm).1; omega⟩
          cases hga : g t' with
          | error er =>
            rw [hga] at hgot
            obtain ⟨v, rfl, hv1, her, h3, g3⟩ := hgot
            have HX3 : Hid (X = .error er) := by
              have hh := HX2.out
              rw [show n - acc.length = (n - acc.length - 1) + 1 from by omega, pre_bad g acc _ t' er hga] at hh
              exact hh
            have ho3 : w3.ownsRow w.heap.size 9 1 u5 acc.length vs := ownsRow_keep ho fun k cur hk hh => g3.block k (Array.getElem?_eq_some_iff.1 hh).1 (fun e => gf (by rw [hk, e]))
            have hvc := cells_one hv1
            unfold Value.cells at hvc
            have hone : ∀ u ∈ [v], u.oneCell' = true := by intro u hu; simp at hu; subst hu; exact hv1
            have hp0 : w.heap.size ≤ (w3.alloc (.cells #[v] 9)).heap.size := by have := gr.size; have := g3.size; simp; omega
            clear hga
            go_wp2_with (refine wpList_append_own_at _ rfl (.tmp 23) (.tmp 28) 67 rfl w.heap.size 9 i0 (.string ⟨#[]⟩) 1 16 Try.underlying67 hi hz0 hz1 hz2 rfl Nat.one_pos u5 acc.length vs rfl (ho3.alloc _) ⟨w3.heap.size, 0, none⟩ 1 1 [v] rfl rfl (cell_one_new _ _ _) hone hm1.out hm2.out hp0 ?_; intro v' w' hown hgrow hnil hloc)
            clear hvc
            have hb3 := (Below.refl _ w3).alloc (Nat.le_refl _) (.cells #[v] 9)
            have h4 := (h3.below hb3).grown hgrow gf
            have c4 := h4.cells.1
            have e4 := hown
            obtain ⟨a2, c2', hv2⟩ := ownsRow_form hown
            go_roundw
            case rel => exact ⟨grown_row (grown_below (gr.trans g3) hb3) hgrow (fun k hk => (gk k hk).1), Or.inr ⟨er, (acc.length : Int) + 1, rfl, by rw [hv2]; rfl, her, h4, HX3.out⟩⟩
            case measure => simp [intOf]; omega
          | ok x =>
            obtain ⟨a, t2⟩ := x
            rw [hga] at hgot
            obtain ⟨v, rfl, hrv, h3, g3⟩ := hgot
            have hv1 := hr1 _ _ _ hrv
            have HX3 : Hid (X = pre (acc ++ [a]) (many g (n - (acc ++ [a]).length) t2)) := by
              have hh := HX2.out
              rw [show n - acc.length = (n - (acc ++ [a]).length) + 1 from by simp; omega, pre_many g acc _ t' t2 a hga] at hh
              exact hh
            have heat := he t' a t2 hga
            obtain ⟨s3, k3, hr3, hd3⟩ := id h2
            have hk3 : ∀ k, some r = some k → k < wr.heap.size → ∃ cur fr, wr.heap[k]? = some (.cells cur 134 fr) := fun k hk _ => by simp at hk; subst hk; exact ⟨_, _, hr3.1⟩
            have ho3 : w3.ownsRow w.heap.size 9 1 u5 acc.length vs := ownsRow_keep ho fun k cur hk hh => g3.block k (Array.getElem?_eq_some_iff.1 hh).1 (fun e => gf (by rw [hk, e]))
            have hvr3 : ∀ (i : Nat) (x : Value) (y : α), vs[i]? = some x → acc[i]? = some y → rep w3 x y := fun i x y hx hy => hs1 wr w3 x y _ (hvr i x y hx hy) g3 hk3
            have hvc := cells_one hv1
            unfold Value.cells at hvc
            have hone : ∀ u ∈ [v], u.oneCell' = true := by intro u hu; simp at hu; subst hu; exact hv1
            have hp0 : w.heap.size ≤ (w3.alloc (.cells #[v] 9)).heap.size := by have := gr.size; have := g3.size; simp; omega
            clear hga hr3 hd3
            go_wp2_with (refine wpList_append_own_at _ rfl (.tmp 23) (.tmp 28) 67 rfl w.heap.size 9 i0 (.string ⟨#[]⟩) 1 16 Try.underlying67 hi hz0 hz1 hz2 rfl Nat.one_pos u5 acc.length vs rfl (ho3.alloc _) ⟨w3.heap.size, 0, none⟩ 1 1 [v] rfl rfl (cell_one_new _ _ _) hone hm1.out hm2.out hp0 ?_; intro v' w' hown hgrow hnil hloc)
            clear hvc
            have hb3 := (Below.refl _ w3).alloc (Nat.le_refl _) (.cells #[v] 9)
            have h4 := (h3.below hb3).grown hgrow gf
            have c4 := h4.cells.1
            have hrow4 := Row.push hs2 ho3 hvs1 hvr3 hrv hv1 hb3 hown hgrow
            go_roundw
            case rel => exact ⟨grown_row (grown_below (gr.trans g3) hb3) hgrow (fun k hk => (gk k hk).1), Or.inl ⟨acc ++ [a], t2, by simp, by simp; omega, h4, hrow4, by simp; omega, HX3.out⟩⟩
            case measure => simp [intOf]; omega
        · go_wp2_with fail
          go_ret
          rw [HX2.out, show n - acc.length = 0 from by omega]
          exact ⟨_, rfl, by simpa using hrow.mono (Nat.zero_le _), h2, gr⟩
      · obtain ⟨c2, cf, hlt2⟩ := h2.cells
        have hne : (er == 0) = false := by simpa using her
        have HX3 : Hid (X = .error er) := hX2
        clear hX2
        by_cases hn : k < (n : Int)
        · go_wp2_with fail
          go_ret
          rw [HX3.out]
          exact ⟨_, rfl, hv1, her, h2, gr⟩
        · go_wp2_with fail
          go_ret
          rw [HX3.out]
          exact ⟨_, rfl, hv1, her, h2, gr⟩

theorem info67g : (Try.prog.info? 67).map (fun i => (i.zero, i.size, i.bytes)) = some (some (.slice none 0 0), 1, 24) := by kernel_rfl

set_option maxRecDepth 100000 in
set_option maxHeartbeats 1000000 in
theorem readListStrs {α : Type} {B : Nat} {w0 : World} {mb cb : Nat} {ib jb : Nat} {most : Int} {rep : World → Value → α → Prop} {g : List UInt8 → Except Int (α × List UInt8)} (hmb : mb < B) (hcb : cb < B) (hm : w0.cell? ⟨mb, 0, none⟩ = some (.int .i64 most)) (hm0 : 0 ≤ most)
    (hc : w0.cell? ⟨cb, 1, none⟩ = some (.func (.func 76) #[] #[.pointer (some ⟨ib, 0, none⟩), .pointer (some ⟨jb, 0, none⟩)])) (hin : ∀ w r l, Low B w0 w → B ≤ r → ROk w r l → Calls Try.prog 76 #[.pointer (some ⟨r, 0, none⟩), .pointer (some ⟨ib, 0, none⟩), .pointer (some ⟨jb, 0, none⟩)] w (got rep w r (g l)))
    (hr1 : ∀ w v a, rep w v a → v.oneCell' = true) (hs1 : Stable rep 134) (hs2 : Stable rep 67) (he : Eats g) {w : World} {r : Nat} {l : List UInt8} (hlow : Low B w0 w) (hBr : B ≤ r) (h : ROk w r l) :
    Calls Try.prog 78 #[.pointer (some ⟨r, 0, none⟩), .pointer (some ⟨mb, 0, none⟩), .pointer (some ⟨cb, 0, none⟩)] w (got (Row rep 67 0) w r (getList most g l)) := by
  have hm' : w.cell? ⟨mb, 0, none⟩ = some (.int .i64 most) := by rw [hlow.cell hmb, hm]
  have hlt := h.lt
  have hlen := h.len
  obtain ⟨X, hX⟩ : ∃ X, X = getList most g l := ⟨_, rfl⟩
  rw [← hX]
  cases hg : getC most l with
  | error er =>
    have HX : Hid (X = .error er) := by rw [hX]; simp [getList, hg, Hid]
    have Hg : Hid (getC most l = .error er) := hg
    have He : Hid (er ≠ 0) := by have := getC_err hg; show er ≠ 0; omega
    clear hg hX
    go_enter Try.func78, Try.ntmps78
    go_wp2_with fail
    refine (readC_bad h most hm0 Hg.out).mono ?_
    rintro e w1 ⟨rfl, h1, g1⟩
    obtain ⟨c2, cf, hlt1⟩ := h1.cells
    go_wp2_with fail
    go_loop [5, 7] (fun v i => v = .slice none 0 0 ∧ i = .int .i64 0) (fun _ _ => 0)
    case atStart => exact ⟨rfl, rfl⟩
    case round =>
      obtain ⟨rfl, rfl⟩ := hrel
      go_wp2_with fail
      go_ret
      rw [HX.out]
      exact ⟨_, rfl, rfl, He.out, h1, g1⟩
  | ok x =>
    obtain ⟨n, t⟩ := x
    have HX : Hid (X = pre [] (many g n t)) := by rw [hX, pre_nil]; simp [getList, hg, Hid]
    have Hg : Hid (getC most l = .ok (n, t)) := hg
    have hsuf := getN_suffix (getC_ok hg).1
    clear hg hX
    go_enter Try.func78, Try.ntmps78
    go_wp2_with fail
    refine (readC_ok h most hm0 Hg.out).mono ?_
    rintro e w1 ⟨rfl, h1, g1⟩
    go_wp2_with fail
    go_loopw [5, 7] (fun v i wr => w.grownBy wr (some r) ∧ ((∃ (acc : List α) (t' : List UInt8), i = .int .i64 acc.length ∧ acc.length ≤ n ∧ ROk wr r t' ∧ Row rep 67 w.heap.size wr v acc ∧ acc.length + t'.length ≤ t.length ∧ X = pre acc (many g (n - acc.length) t')) ∨ (∃ er k, i = .int .i64 k ∧ v.oneCell' = true ∧ er ≠ 0 ∧ RBad wr r er ∧ X = .error er))) (fun _ i _ => n - (intOf i).toNat)
    case atStart => exact ⟨g1, Or.inl ⟨[], t, rfl, Nat.zero_le _, h1, Row.nil _ _ _ _, by simp, HX.out⟩⟩
    case round =>
      obtain ⟨gr, ⟨acc, t', rfl, hacc, h2, hrow, hsum, hX2⟩ | ⟨er, k, rfl, hv1, her, h2, hX2⟩⟩ := hrel
      · have HX2 : Hid (X = pre acc (many g (n - acc.length) t')) := hX2
        clear hX2
        obtain ⟨c2, cf, hlt2⟩ := h2.cells
        have hlow2 : Low B w0 wr := hlow.grown gr hBr hlt
        have hcc : wr.cell? ⟨cb, 1, none⟩ = some (.func (.func 76) #[] #[.pointer (some ⟨ib, 0, none⟩), .pointer (some ⟨jb, 0, none⟩)]) := by rw [hlow2.cell hcb, hc]
        by_cases hn : acc.length < n
        · go_wp2_with fail
          refine (hin wr r t' hlow2 hBr h2).mono ?_
          intro e w3 hgot
          obtain ⟨vs, ho, hvs1, hvr⟩ := hrow
          obtain ⟨i0, hi, hz0, hz1, hz2⟩ := info_parts info67g
          have hm1 : Hid (acc.length + 1 ≤ maxLen) := by show _ ≤ maxLen; unfold maxLen; omega
          have hm2 : Hid ((acc.length + 1) * 24 ≤ 140737488355328) := by show _ ≤ _; omega
          obtain ⟨gk, gf⟩ : (∀ k, u5.ownBlock = some k → w.heap.size ≤ k ∧ k < wr.heap.size) ∧ some r ≠ u5.ownBlock := ⟨ho.lt, fun e => by have := (ho.lt r e.symm).1; omega⟩
          cases hga : g t' with
          | error er =>
            rw [hga] at hgot
            obtain ⟨v, rfl, hv1, her, h3, g3⟩ := hgot
            have HX3 : Hid (X = .error er) := by
              have hh := HX2.out
              rw [show n - acc.length = (n - acc.length - 1) + 1 from by omega, pre_bad g acc _ t' er hga] at hh
              exact hh
            have ho3 : w3.ownsRow w.heap.size 67 1 u5 acc.length vs := ownsRow_keep ho fun k cur hk hh => g3.block k (Array.getElem?_eq_some_iff.1 hh).1 (fun e => gf (by rw [hk, e]))
            have hvc := cells_one hv1
            unfold Value.cells at hvc
            have hone : ∀ u ∈ [v], u.oneCell' = true := by intro u hu; simp at hu; subst hu; exact hv1
            have hp0 : w.heap.size ≤ (w3.alloc (.cells #[v] 67)).heap.size := by have := gr.size; have := g3.size; simp; omega
            clear hga
            go_wp2_with (refine wpList_append_own_at _ rfl (.tmp 23) (.tmp 28) 84 rfl w.heap.size 67 i0 (.slice none 0 0) 1 24 Try.underlying84 hi hz0 hz1 hz2 rfl Nat.one_pos u5 acc.length vs rfl (ho3.alloc _) ⟨w3.heap.size, 0, none⟩ 1 1 [v] rfl rfl (cell_one_new _ _ _) hone hm1.out hm2.out hp0 ?_; intro v' w' hown hgrow hnil hloc)
            clear hvc
            have hb3 := (Below.refl _ w3).alloc (Nat.le_refl _) (.cells #[v] 67)
            have h4 := (h3.below hb3).grown hgrow gf
            have c4 := h4.cells.1
            have e4 := hown
            obtain ⟨a2, c2', hv2⟩ := ownsRow_form hown
            go_roundw
            case rel => exact ⟨grown_row (grown_below (gr.trans g3) hb3) hgrow (fun k hk => (gk k hk).1), Or.inr ⟨er, (acc.length : Int) + 1, rfl, by rw [hv2]; rfl, her, h4, HX3.out⟩⟩
            case measure => simp [intOf]; omega
          | ok x =>
            obtain ⟨a, t2⟩ := x
            rw [hga] at hgot
            obtain ⟨v, rfl, hrv, h3, g3⟩ := hgot
            have hv1 := hr1 _ _ _ hrv
            have HX3 : Hid (X = pre (acc ++ [a]) (many g (n - (acc ++ [a]).length) t2)) := by
              have hh := HX2.out
              rw [show n - acc.length = (n - (acc ++ [a]).length) + 1 from by simp; omega, pre_many g acc _ t' t2 a hga] at hh
              exact hh
            have heat := he t' a t2 hga
            obtain ⟨s3, k3, hr3, hd3⟩ := id h2
            have hk3 : ∀ k, some r = some k → k < wr.heap.size → ∃ cur fr, wr.heap[k]? = some (.cells cur 134 fr) := fun k hk _ => by simp at hk; subst hk; exact ⟨_, _, hr3.1⟩
            have ho3 : w3.ownsRow w.heap.size 67 1 u5 acc.length vs := ownsRow_keep ho fun k cur hk hh => g3.block k (Array.getElem?_eq_some_iff.1 hh).1 (fun e => gf (by rw [hk, e]))
            have hvr3 : ∀ (i : Nat) (x : Value) (y : α), vs[i]? = some x → acc[i]? = some y → rep w3 x y := fun i x y hx hy => hs1 wr w3 x y _ (hvr i x y hx hy) g3 hk3
            have hvc := cells_one hv1
            unfold Value.cells at hvc
            have hone : ∀ u ∈ [v], u.oneCell' = true := by intro u hu; simp at hu; subst hu; exact hv1
            have hp0 : w.heap.size ≤ (w3.alloc (.cells #[v] 67)).heap.size := by have := gr.size; have := g3.size; simp; omega
            clear hga hr3 hd3
            go_wp2_with (refine wpList_append_own_at _ rfl (.tmp 23) (.tmp 28) 84 rfl w.heap.size 67 i0 (.slice none 0 0) 1 24 Try.underlying84 hi hz0 hz1 hz2 rfl Nat.one_pos u5 acc.length vs rfl (ho3.alloc _) ⟨w3.heap.size, 0, none⟩ 1 1 [v] rfl rfl (cell_one_new _ _ _) hone hm1.out hm2.out hp0 ?_; intro v' w' hown hgrow hnil hloc)
            clear hvc
            have hb3 := (Below.refl _ w3).alloc (Nat.le_refl _) (.cells #[v] 67)
            have h4 := (h3.below hb3).grown hgrow gf
            have c4 := h4.cells.1
            have hrow4 := Row.push hs2 ho3 hvs1 hvr3 hrv hv1 hb3 hown hgrow
            go_roundw
            case rel => exact ⟨grown_row (grown_below (gr.trans g3) hb3) hgrow (fun k hk => (gk k hk).1), Or.inl ⟨acc ++ [a], t2, by simp, by simp; omega, h4, hrow4, by simp; omega, HX3.out⟩⟩
            case measure => simp [intOf]; omega
        · go_wp2_with fail
          go_ret
          rw [HX2.out, show n - acc.length = 0 from by omega]
          exact ⟨_, rfl, by simpa using hrow.mono (Nat.zero_le _), h2, gr⟩
      · obtain ⟨c2, cf, hlt2⟩ := h2.cells
        have hne : (er == 0) = false := by simpa using her
        have HX3 : Hid (X = .error er) := hX2
        clear hX2
        by_cases hn : k < (n : Int)
        · go_wp2_with fail
          go_ret
          rw [HX3.out]
          exact ⟨_, rfl, hv1, her, h2, gr⟩
        · go_wp2_with fail
          go_ret
          rw [HX3.out]
          exact ⟨_, rfl, hv1, her, h2, gr⟩

end Go.Proofs.Ytjajgllkbchapaa
