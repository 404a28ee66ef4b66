/-
  A record's codec: how it reads.
-/
import Derived.Test.YtjajgllkbchapaaRecG
namespace Go.Proofs.Ytjajgllkbchapaa
open Go.RowKit
set_option linter.unusedSimpArgs false
set_option linter.unusedVariables false

theorem grown_same {a b c : World} {r : Nat} (h : a.grownBy b (some r)) (k : b.grownBy c (some r)) : a.grownBy c (some r) :=
  ⟨k.os.trans h.os, k.tape.trans h.tape, k.output.trans h.output, Nat.le_trans h.size k.size, fun x hx hn => (k.block x (Nat.lt_of_lt_of_le hx h.size) hn).trans (h.block x hx hn)⟩

theorem grown_refl (w : World) (row : Option Nat) : w.grownBy w row := ⟨rfl, rfl, rfl, Nat.le_refl _, fun _ _ _ => rfl⟩

theorem rec_step {w wr w2 : World} {r o : Nat} {arr : Array Value} {z : Obj} {v : Value} (hr : r < w.heap.size) (g : w.grownBy wr (some r)) (h3 : wr.heap[w.heap.size]? = some z) (h4 : wr.heap[w.heap.size + 1]? = some (.cells arr 103)) (g2 : wr.grownBy w2 (some r)) (hR : ∃ s k e, RAt wr r s k e) :
    w.grownBy (w2.setCell ⟨w.heap.size + 1, o, none⟩ v) (some r) ∧ (w2.setCell ⟨w.heap.size + 1, o, none⟩ v).heap[w.heap.size]? = some z ∧ (w2.setCell ⟨w.heap.size + 1, o, none⟩ v).heap[w.heap.size + 1]? = some (.cells (arr.setIfInBounds o v) 103) ∧
    (∀ l, ROk w2 r l → ROk (w2.setCell ⟨w.heap.size + 1, o, none⟩ v) r l) ∧ (∀ er, RBad w2 r er → RBad (w2.setCell ⟨w.heap.size + 1, o, none⟩ v) r er) ∧
    (∀ u L, Row isNat 3 0 w2 u L → Row isNat 3 0 (w2.setCell ⟨w.heap.size + 1, o, none⟩ v) u L) ∧ (∀ u L, Row isNat 3 0 wr u L → Row isNat 3 0 w2 u L) := by
  have l3 : w.heap.size < wr.heap.size := (Array.getElem?_eq_some_iff.1 h3).1
  have l4 : w.heap.size + 1 < wr.heap.size := (Array.getElem?_eq_some_iff.1 h4).1
  have k3 := (g2.block w.heap.size l3 (by simp; omega)).trans h3
  have k4 := (g2.block (w.heap.size + 1) l4 (by simp; omega)).trans h4
  have gs := Lib.grownBy_setCell w2 (w.heap.size + 1) o v
  refine ⟨grown_row (grown_same g g2) gs (fun k hk => by simp at hk; omega), ?_, heap_setCell_at k4 v, fun l h => h.grown gs (by simp; omega), fun er h => h.grown gs (by simp; omega), fun u L h => ?_, fun u L h => ?_⟩
  · rw [Below.heap_setCell _ _ _ _ (by simp)]
    exact k3
  · exact stable_row (stable_nat 103) (by decide) _ _ _ _ _ h gs (fun k hk _ => by simp at hk; subst hk; exact ⟨_, _, k4⟩)
  · obtain ⟨s, k, e, hA⟩ := hR
    exact stable_row (stable_nat 134) (by decide) _ _ _ _ _ h g2 (fun x hx _ => by simp at hx; subst hx; exact ⟨_, _, hA.1⟩)

theorem set_four {w : World} {b : Nat} {a0 a1 a2 a3 : Value} (h : w.heap[b]? = some (.cells #[a0, a1, a2, a3] 103)) (v0 v1 v2 v3 : Value) :
    w.grownBy ((((w.setCell ⟨b, 0, none⟩ v0).setCell ⟨b, 1, none⟩ v1).setCell ⟨b, 2, none⟩ v2).setCell ⟨b, 3, none⟩ v3) (some b) ∧
    ((((w.setCell ⟨b, 0, none⟩ v0).setCell ⟨b, 1, none⟩ v1).setCell ⟨b, 2, none⟩ v2).setCell ⟨b, 3, none⟩ v3).heap[b]? = some (.cells #[v0, v1, v2, v3] 103) := by
  refine ⟨grown_set (grown_set (grown_set (grown_set (grown_refl _ _) 0 v0) 1 v1) 2 v2) 3 v3, ?_⟩
  rw [heap_setCell_at (heap_setCell_at (heap_setCell_at (heap_setCell_at h v0) v1) v2) v3]
  simp

def gotR (w : World) (r : Nat) (x : Except Int ((Nat × ByteArray × List Nat × Bool) × List UInt8)) (e : Ending) (w' : World) : Prop :=
  match x with
  | .ok ((n, S, L, F), t) => ∃ vL, e = .returned (.agg #[.int .i64 n, .string S, vL, .bool F]) ∧ Row isNat 3 0 w' vL L ∧ ROk w' r t ∧ w.grownBy w' (some r)
  | .error er => ∃ a b c d, e = .returned (.agg #[a, b, c, d]) ∧ a.oneCell' = true ∧ b.oneCell' = true ∧ c.oneCell' = true ∧ d.oneCell' = true ∧ er ≠ 0 ∧ RBad w' r er ∧ w.grownBy w' (some r)

set_option maxRecDepth 100000 in
set_option maxHeartbeats 4000000 in
theorem recGet {B : Nat} {w0 w : World} {pb g k0 k1 k2 k3 q0 q1 q2 q3 tb mb cb cap r : Nat} (C : RecC B w0 pb g k0 k1 k2 k3 q0 q1 q2 q3 tb mb cb cap) (hlow : Low B w0 w) (hBr : B ≤ r) {l : List UInt8} (h : ROk w r l) :
    Calls Try.prog 89 #[.pointer (some ⟨r, 0, none⟩), .pointer (some ⟨pb, 0, none⟩)] w (gotR w r (getRec l)) := by
  obtain ⟨X, hX⟩ : ∃ X, X = getRec l := ⟨_, rfl⟩
  rw [← hX]
  have HX : Hid (X = getRec l) := hX
  clear hX
  have hrl := h.lt
  go_enter Try.func89, Try.ntmps89
  go_wp2_with fail
  obtain ⟨w1, hw1⟩ : ∃ w1, w1 = (w.alloc (.cells #[.int .i64 0, .string ⟨#[]⟩, .slice none 0 0, .bool false] 103)).alloc (.cells #[.int .i64 0, .string ⟨#[]⟩, .slice none 0 0, .bool false] 103) := ⟨_, rfl⟩
  have hb1 : Below w.heap.size w w1 := by rw [hw1]; exact ((Below.refl _ _).alloc (Nat.le_refl _) _).alloc (by simp) _
  have hz3 : w1.heap[w.heap.size]? = some (.cells #[.int .i64 0, .string ⟨#[]⟩, .slice none 0 0, .bool false] 103) := by rw [hw1, (((Below.refl _ _).alloc (Nat.le_refl _) _ : Below (w.alloc (.cells #[.int .i64 0, .string ⟨#[]⟩, .slice none 0 0, .bool false] 103)).heap.size (w.alloc (.cells #[.int .i64 0, .string ⟨#[]⟩, .slice none 0 0, .bool false] 103)) ((w.alloc (.cells #[.int .i64 0, .string ⟨#[]⟩, .slice none 0 0, .bool false] 103)).alloc (.cells #[.int .i64 0, .string ⟨#[]⟩, .slice none 0 0, .bool false] 103))).block w.heap.size (by simp))]; exact heap_alloc_new w _
  have hz4 : w1.heap[w.heap.size + 1]? = some (.cells #[.int .i64 0, .string ⟨#[]⟩, .slice none 0 0, .bool false] 103) := by rw [hw1]; have := heap_alloc_new (w.alloc (.cells #[.int .i64 0, .string ⟨#[]⟩, .slice none 0 0, .bool false] 103)) (.cells #[.int .i64 0, .string ⟨#[]⟩, .slice none 0 0, .bool false] 103); simpa using this
  have g1 : w.grownBy w1 (some r) := grown_below (grown_refl _ _) hb1
  have h1 : ROk w1 r l := h.below hb1
  rw [← hw1]
  clear hw1
  go_loopw [5] (fun i wr => ∃ k : Int, i = .int .i64 k ∧ w.grownBy wr (some r) ∧ wr.heap[w.heap.size]? = some (.cells #[.int .i64 0, .string ⟨#[]⟩, .slice none 0 0, .bool false] 103) ∧
      ((k = 0 ∧ wr.heap[w.heap.size + 1]? = some (.cells #[.int .i64 0, .string ⟨#[]⟩, .slice none 0 0, .bool false] 103) ∧ ROk wr r l) ∨
       (k = 1 ∧ ∃ (n : Nat) (t : List UInt8), wr.heap[w.heap.size + 1]? = some (.cells #[.int .i64 n, .string ⟨#[]⟩, .slice none 0 0, .bool false] 103) ∧ ROk wr r t ∧ X = getRec1 n t) ∨
       (k = 2 ∧ ∃ (n : Nat) (S : ByteArray) (t : List UInt8), wr.heap[w.heap.size + 1]? = some (.cells #[.int .i64 n, .string S, .slice none 0 0, .bool false] 103) ∧ ROk wr r t ∧ X = getRec2 n S t) ∨
       (k = 3 ∧ ∃ (n : Nat) (S : ByteArray) (L : List Nat) (vL : Value) (t : List UInt8), wr.heap[w.heap.size + 1]? = some (.cells #[.int .i64 n, .string S, vL, .bool false] 103) ∧ Row isNat 3 0 wr vL L ∧ ROk wr r t ∧ X = getRec3 n S L t) ∨
       (k = 4 ∧ ∃ (n : Nat) (S : ByteArray) (L : List Nat) (vL : Value) (F : Bool) (t : List UInt8), wr.heap[w.heap.size + 1]? = some (.cells #[.int .i64 n, .string S, vL, .bool F] 103) ∧ Row isNat 3 0 wr vL L ∧ ROk wr r t ∧ X = .ok ((n, S, L, F), t)) ∨
       (1 ≤ k ∧ k ≤ 4 ∧ ∃ (a b c d : Value) (er : Int), wr.heap[w.heap.size + 1]? = some (.cells #[a, b, c, d] 103) ∧ a.oneCell' = true ∧ b.oneCell' = true ∧ c.oneCell' = true ∧ d.oneCell' = true ∧ er ≠ 0 ∧ RBad wr r er ∧ X = .error er))) (fun i _ => 4 - (intOf i).toNat)
  case atStart => exact ⟨0, rfl, g1, hz3, Or.inl ⟨rfl, hz4, h1⟩⟩
  case round =>
    clear h1 hz4 g1 hz3
    obtain ⟨k, rfl, gr, h3, hk⟩ := hrel
    have hlow2 : Low B w0 wr := hlow.grown gr hBr hrl
    have Cr := C.low hlow2
    have hp := Cr.hp
    have hsz := gr.size
    rcases hk with ⟨rfl, h4, h2⟩ | ⟨rfl, n, t, h4, h2, hXk⟩ | ⟨rfl, n, S, t, h4, h2, hXk⟩ | ⟨rfl, n, S, L, vL, t, h4, hRow, h2, hXk⟩ | ⟨rfl, n, S, L, vL, F, t, h4, hRow, h2, hXk⟩ | ⟨hk1, hk4, a, b, c, d, er, h4, ha, hb, hc, hd, her, h2, hXk⟩
    · obtain ⟨c2, cf, hlt2⟩ := h2.cells
      have hg := Cr.g1
      go_wp2_with fail
      refine (fgetA Cr.r0 Cr.c0 h4 rfl (by omega) (by have := C.lq0; omega) (by have := C.lk0; omega) (by have := C.lq0; omega) (by have := C.lk0; omega) (by have := C.lq0; omega) (P := gotP isNat r (getN l)) ((readNum (w := wr.drew) h2).mono fun e w' hh => got_form nat_one hh)).mono ?_
      rintro e w3 ⟨he3, v, w2, hv1, hP, g2, hw3⟩
      subst he3 hw3
      obtain ⟨s1, s2, s3, s4, s5, s6, s7⟩ := rec_step (o := 0) (v := v) hrl gr h3 h4 g2 (by obtain ⟨s, k, hh, _⟩ := id h2; exact ⟨s, k, 0, hh⟩)
      clear hg hp c2 cf
      go_wp2_with fail
      go_roundw
      case rel =>
        refine ⟨1, by rfl, s1, s2, ?_⟩
        have hXX := HX.out
        unfold getRec at hXX
        cases hgx : getN l with
        | ok y =>
          obtain ⟨n, t2⟩ := y
          unfold gotP at hP
          rw [hgx] at hP hXX
          have hv : v = .int .i64 n := hP.1
          subst hv
          exact Or.inr (Or.inl ⟨rfl, n, t2, s3, s4 _ hP.2, hXX⟩)
        | error er =>
          unfold gotP at hP
          rw [hgx] at hP hXX
          exact Or.inr (Or.inr (Or.inr (Or.inr (Or.inr ⟨by decide, by decide, _, _, _, _, er, s3, hv1, rfl, rfl, rfl, hP.1, s5 _ hP.2, hXX⟩))))
      case measure => simp [intOf]
    · obtain ⟨c2, cf, hlt2⟩ := h2.cells
      have hg := Cr.g3
      have HXk : Hid (X = _) := hXk
      clear hXk
      go_wp2_with fail
      refine (fgetS Cr.r1 Cr.c1 h4 rfl (by omega) (by have := C.lq1; omega) (by have := C.lk1; omega) (by have := C.lq1; omega) (by have := C.lk1; omega) (by have := C.lq1; omega) (P := gotP isStr r (getText 100 t)) ((readText (w := wr.drew) h2 100 (by decide) Cr.t0).mono fun e w' hh => got_form str_one hh)).mono ?_
      rintro e w3 ⟨he3, v, w2, hv1, hP, g2, hw3⟩
      subst he3 hw3
      obtain ⟨s1, s2, s3, s4, s5, s6, s7⟩ := rec_step (o := 1) (v := v) hrl gr h3 h4 g2 (by obtain ⟨s, k, hh, _⟩ := id h2; exact ⟨s, k, 0, hh⟩)
      clear hg hp c2 cf
      go_wp2_with fail
      go_roundw
      case rel =>
        refine ⟨2, by rfl, s1, s2, ?_⟩
        have hXX := HXk.out
        unfold getRec1 at hXX
        cases hgx : getText 100 t with
        | ok y =>
          obtain ⟨S, t2⟩ := y
          unfold gotP at hP
          rw [hgx] at hP hXX
          have hv : v = .string S := hP.1
          subst hv
          exact Or.inr (Or.inr (Or.inl ⟨rfl, n, S, t2, s3, s4 _ hP.2, hXX⟩))
        | error er =>
          unfold gotP at hP
          rw [hgx] at hP hXX
          exact Or.inr (Or.inr (Or.inr (Or.inr (Or.inr ⟨by decide, by decide, _, _, _, _, er, s3, rfl, hv1, rfl, rfl, hP.1, s5 _ hP.2, hXX⟩))))
      case measure => simp [intOf]
    · obtain ⟨c2, cf, hlt2⟩ := h2.cells
      have hg := Cr.g5
      have HXk : Hid (X = _) := hXk
      clear hXk
      go_wp2_with fail
      refine (fgetL Cr.r2 Cr.c2 h4 rfl (by omega) (by have := C.lq2; omega) (by have := C.lk2; omega) (by have := C.lq2; omega) (by have := C.lk2; omega) (by have := C.lq2; omega) (P := gotP (Row isNat 3 0) r (getList 100 getN t)) ((readListInt (B := B) (w0 := w0) (rep := isNat) (g := getN) C.lmb C.lcb C.m0 (by decide) C.e1 (fun w r l _ _ h => readNum h) nat_one (stable_nat _) (stable_nat _) eats_N (w := wr.drew) hlow2 hBr h2).mono fun e w' hh => got_form (fun _ _ _ h => h.one) hh)).mono ?_
      rintro e w3 ⟨he3, v, w2, hv1, hP, g2, hw3⟩
      subst he3 hw3
      obtain ⟨s1, s2, s3, s4, s5, s6, s7⟩ := rec_step (o := 2) (v := v) hrl gr h3 h4 g2 (by obtain ⟨s, k, hh, _⟩ := id h2; exact ⟨s, k, 0, hh⟩)
      clear hg hp c2 cf
      go_wp2_with fail
      go_roundw
      case rel =>
        refine ⟨3, by rfl, s1, s2, ?_⟩
        have hXX := HXk.out
        unfold getRec2 at hXX
        cases hgx : getList 100 getN t with
        | ok y =>
          obtain ⟨L, t2⟩ := y
          unfold gotP at hP
          rw [hgx] at hP hXX
          
          exact Or.inr (Or.inr (Or.inr (Or.inl ⟨rfl, n, S, L, v, t2, s3, s6 _ _ hP.1, s4 _ hP.2, hXX⟩)))
        | error er =>
          unfold gotP at hP
          rw [hgx] at hP hXX
          exact Or.inr (Or.inr (Or.inr (Or.inr (Or.inr ⟨by decide, by decide, _, _, _, _, er, s3, rfl, rfl, hv1, rfl, hP.1, s5 _ hP.2, hXX⟩))))
      case measure => simp [intOf]
    · obtain ⟨c2, cf, hlt2⟩ := h2.cells
      have hg := Cr.g7
      have HXk : Hid (X = _) := hXk
      clear hXk
      go_wp2_with fail
      refine (fgetF Cr.r3 Cr.c3 h4 rfl (by omega) (by have := C.lq3; omega) (by have := C.lk3; omega) (by have := C.lq3; omega) (by have := C.lk3; omega) (by have := C.lq3; omega) (P := gotP isBool r (getFlag t)) ((readFlag (w := wr.drew) h2).mono fun e w' hh => got_form bool_one hh)).mono ?_
      rintro e w3 ⟨he3, v, w2, hv1, hP, g2, hw3⟩
      subst he3 hw3
      obtain ⟨s1, s2, s3, s4, s5, s6, s7⟩ := rec_step (o := 3) (v := v) hrl gr h3 h4 g2 (by obtain ⟨s, k, hh, _⟩ := id h2; exact ⟨s, k, 0, hh⟩)
      clear hg hp c2 cf
      go_wp2_with fail
      go_roundw
      case rel =>
        refine ⟨4, by rfl, s1, s2, ?_⟩
        have hXX := HXk.out
        unfold getRec3 at hXX
        cases hgx : getFlag t with
        | ok y =>
          obtain ⟨F, t2⟩ := y
          unfold gotP at hP
          rw [hgx] at hP hXX
          have hv : v = .bool F := hP.1
          subst hv
          exact Or.inr (Or.inr (Or.inr (Or.inr (Or.inl ⟨rfl, n, S, L, vL, F, t2, s3, s6 _ _ (s7 _ _ hRow), s4 _ hP.2, hXX⟩))))
        | error er =>
          unfold gotP at hP
          rw [hgx] at hP hXX
          exact Or.inr (Or.inr (Or.inr (Or.inr (Or.inr ⟨by decide, by decide, _, _, _, _, er, s3, rfl, rfl, hRow.one, hv1, hP.1, s5 _ hP.2, hXX⟩))))
      case measure => simp [intOf]
    · obtain ⟨c2, cf, hlt2⟩ := h2.cells
      obtain ⟨av, nv, cv, hvL⟩ : ∃ a n c, vL = .slice a n c := by obtain ⟨vs, ho, _, _⟩ := id hRow; obtain ⟨a, c, e⟩ := ownsRow_form ho; exact ⟨a, _, c, e⟩
      subst hvL
      have HXk : Hid (X = _) := hXk
      clear hXk
      have m0 := cell_of_heap h4 0
      have m1 := cell_of_heap h4 1
      have m2 := cell_of_heap h4 2
      have m3 := cell_of_heap h4 3
      have x0 := cell_of_heap h3 0
      have x1 := cell_of_heap h3 1
      have x2 := cell_of_heap h3 2
      have x3 := cell_of_heap h3 3
      have xf := frozen_of_heap h3
      simp at m0 m1 m2 m3 x0 x1 x2 x3
      go_wp2_with fail
      obtain ⟨gs, hs4⟩ := set_four h3 (.int .i64 n) (.string S) (.slice av nv cv) (.bool F)
      have hrf := hRow.keep (T := 103) (stable_nat 103) gs (fun x hx _ => by simp at hx; subst hx; exact ⟨_, _, h3⟩) (by decide)
      have hkf := h2.grown gs (by simp; omega)
      have hgf := grown_row gr gs (fun x hx => by simp at hx; omega)
      generalize (((wr.setCell ⟨w.heap.size, 0, none⟩ (.int .i64 n)).setCell ⟨w.heap.size, 1, none⟩ (.string S)).setCell ⟨w.heap.size, 2, none⟩ (.slice av nv cv)).setCell ⟨w.heap.size, 3, none⟩ (.bool F) = wf at *
      have y0 := cell_of_heap hs4 0
      have y1 := cell_of_heap hs4 1
      have y2 := cell_of_heap hs4 2
      have y3 := cell_of_heap hs4 3
      simp at y0 y1 y2 y3
      refine bodyPost_ret (v := .agg #[.int .i64 n, .string S, .slice av nv cv, .bool F]) (by simp [results, Try.results89, go_sem, y0, y1, y2, y3]) rfl ?_
      rw [HXk.out]
      exact ⟨_, rfl, hrf, hkf, hgf⟩
    · obtain ⟨c2, cf, hlt2⟩ := h2.cells
      have HXk : Hid (X = _) := hXk
      clear hXk
      have hne0 : (er == 0) = false := by simpa using her
      have ca := cells_one ha
      have cb' := cells_one hb
      have cc := cells_one hc
      have cd := cells_one hd
      unfold Value.cells at ca cb' cc cd
      have m0 := cell_of_heap h4 0
      have m1 := cell_of_heap h4 1
      have m2 := cell_of_heap h4 2
      have m3 := cell_of_heap h4 3
      have x0 := cell_of_heap h3 0
      have x1 := cell_of_heap h3 1
      have x2 := cell_of_heap h3 2
      have x3 := cell_of_heap h3 3
      have xf := frozen_of_heap h3
      simp at m0 m1 m2 m3 x0 x1 x2 x3
      have st0 := store_one (o := 0) h3 (by simp) ha
      have j1 := heap_setCell_at (o := 0) h3 a
      have st1 := store_one (o := 1) j1 (by simp) hb
      have j2 := heap_setCell_at (o := 1) j1 b
      have st2 := store_one (o := 2) j2 (by simp) hc
      have j3 := heap_setCell_at (o := 2) j2 c
      have st3 := store_one (o := 3) j3 (by simp) hd
      clear j1 j2 j3
      by_cases hk5 : k < 4
      all_goals go_wp2_with fail
      all_goals clear st0 st1 st2 st3
      all_goals
        obtain ⟨gs, hs4⟩ := set_four h3 a b c d
        have hkf := h2.grown gs (by simp; omega)
        have hgf := grown_row gr gs (fun x hx => by simp at hx; omega)
        generalize (((wr.setCell ⟨w.heap.size, 0, none⟩ a).setCell ⟨w.heap.size, 1, none⟩ b).setCell ⟨w.heap.size, 2, none⟩ c).setCell ⟨w.heap.size, 3, none⟩ d = wf at *
        have y0 := cell_of_heap hs4 0
        have y1 := cell_of_heap hs4 1
        have y2 := cell_of_heap hs4 2
        have y3 := cell_of_heap hs4 3
        simp at y0 y1 y2 y3
        refine bodyPost_ret (v := .agg #[a, b, c, d]) (by simp [results, Try.results89, go_sem, y0, y1, y2, y3]) rfl ?_
        rw [HXk.out]
        exact ⟨a, b, c, d, rfl, ha, hb, hc, hd, her, hkf, hgf⟩

end Go.Proofs.Ytjajgllkbchapaa
