/-
  A record's codec: how it writes.
-/
import Derived.Test.YtjajgllkbchapaaRecA
namespace Go.Proofs.Ytjajgllkbchapaa
open Go.RowKit
set_option linter.unusedSimpArgs false
set_option linter.unusedVariables false

structure RecC (B : Nat) (w : World) (pb g k0 k1 k2 k3 q0 q1 q2 q3 tb mb cb cap : Nat) : Prop where
  lpb : pb < B
  lg : g < B
  lk0 : k0 < B
  lk1 : k1 < B
  lk2 : k2 < B
  lk3 : k3 < B
  lq0 : q0 < B
  lq1 : q1 < B
  lq2 : q2 < B
  lq3 : q3 < B
  ltb : tb < B
  lmb : mb < B
  lcb : cb < B
  hp : w.cell? ⟨pb, 0, none⟩ = some (.slice (some ⟨g, 0, none⟩) 4 cap)
  g0 : w.cell? ⟨g, 0, none⟩ = some (.func (.func 90) #[] #[.pointer (some ⟨k0, 0, none⟩), .pointer (some ⟨q0, 0, none⟩)])
  g1 : w.cell? ⟨g, 1, none⟩ = some (.func (.func 91) #[] #[.pointer (some ⟨k0, 0, none⟩), .pointer (some ⟨q0, 0, none⟩)])
  g2 : w.cell? ⟨g, 2, none⟩ = some (.func (.func 92) #[] #[.pointer (some ⟨k1, 0, none⟩), .pointer (some ⟨q1, 0, none⟩)])
  g3 : w.cell? ⟨g, 3, none⟩ = some (.func (.func 93) #[] #[.pointer (some ⟨k1, 0, none⟩), .pointer (some ⟨q1, 0, none⟩)])
  g4 : w.cell? ⟨g, 4, none⟩ = some (.func (.func 94) #[] #[.pointer (some ⟨k2, 0, none⟩), .pointer (some ⟨q2, 0, none⟩)])
  g5 : w.cell? ⟨g, 5, none⟩ = some (.func (.func 95) #[] #[.pointer (some ⟨k2, 0, none⟩), .pointer (some ⟨q2, 0, none⟩)])
  g6 : w.cell? ⟨g, 6, none⟩ = some (.func (.func 96) #[] #[.pointer (some ⟨k3, 0, none⟩), .pointer (some ⟨q3, 0, none⟩)])
  g7 : w.cell? ⟨g, 7, none⟩ = some (.func (.func 97) #[] #[.pointer (some ⟨k3, 0, none⟩), .pointer (some ⟨q3, 0, none⟩)])
  p0 : w.cell? ⟨k0, 0, none⟩ = some (.func (.func 54) #[] #[])
  r0 : w.cell? ⟨k0, 1, none⟩ = some (.func (.func 55) #[] #[])
  c0 : w.cell? ⟨q0, 0, none⟩ = some (.func (.func 43) #[] #[])
  p1 : w.cell? ⟨k1, 0, none⟩ = some (.func (.func 68) #[] #[.pointer (some ⟨tb, 0, none⟩)])
  r1 : w.cell? ⟨k1, 1, none⟩ = some (.func (.func 70) #[] #[.pointer (some ⟨tb, 0, none⟩)])
  c1 : w.cell? ⟨q1, 0, none⟩ = some (.func (.func 45) #[] #[])
  p2 : w.cell? ⟨k2, 0, none⟩ = some (.func (.func 58) #[] #[.pointer (some ⟨mb, 0, none⟩), .pointer (some ⟨cb, 0, none⟩)])
  r2 : w.cell? ⟨k2, 1, none⟩ = some (.func (.func 60) #[] #[.pointer (some ⟨mb, 0, none⟩), .pointer (some ⟨cb, 0, none⟩)])
  c2 : w.cell? ⟨q2, 0, none⟩ = some (.func (.func 47) #[] #[])
  p3 : w.cell? ⟨k3, 0, none⟩ = some (.func (.func 65) #[] #[])
  r3 : w.cell? ⟨k3, 1, none⟩ = some (.func (.func 66) #[] #[])
  c3 : w.cell? ⟨q3, 0, none⟩ = some (.func (.func 49) #[] #[])
  t0 : w.cell? ⟨tb, 0, none⟩ = some (.int .i64 100)
  m0 : w.cell? ⟨mb, 0, none⟩ = some (.int .i64 100)
  e0 : w.cell? ⟨cb, 0, none⟩ = some (.func (.func 54) #[] #[])
  e1 : w.cell? ⟨cb, 1, none⟩ = some (.func (.func 55) #[] #[])

theorem RecC.low {B : Nat} {w0 w : World} {pb g k0 k1 k2 k3 q0 q1 q2 q3 tb mb cb cap : Nat} (h : RecC B w0 pb g k0 k1 k2 k3 q0 q1 q2 q3 tb mb cb cap) (hl : Low B w0 w) : RecC B w pb g k0 k1 k2 k3 q0 q1 q2 q3 tb mb cb cap :=
  ⟨h.lpb, h.lg, h.lk0, h.lk1, h.lk2, h.lk3, h.lq0, h.lq1, h.lq2, h.lq3, h.ltb, h.lmb, h.lcb,
    (hl.cell h.lpb 0).trans h.hp, (hl.cell h.lg 0).trans h.g0, (hl.cell h.lg 1).trans h.g1, (hl.cell h.lg 2).trans h.g2, (hl.cell h.lg 3).trans h.g3, (hl.cell h.lg 4).trans h.g4, (hl.cell h.lg 5).trans h.g5, (hl.cell h.lg 6).trans h.g6, (hl.cell h.lg 7).trans h.g7, (hl.cell h.lk0 0).trans h.p0, (hl.cell h.lk0 1).trans h.r0, (hl.cell h.lq0 0).trans h.c0, (hl.cell h.lk1 0).trans h.p1, (hl.cell h.lk1 1).trans h.r1, (hl.cell h.lq1 0).trans h.c1, (hl.cell h.lk2 0).trans h.p2, (hl.cell h.lk2 1).trans h.r2, (hl.cell h.lq2 0).trans h.c2, (hl.cell h.lk3 0).trans h.p3, (hl.cell h.lk3 1).trans h.r3, (hl.cell h.lq3 0).trans h.c3, (hl.cell h.ltb 0).trans h.t0, (hl.cell h.lmb 0).trans h.m0, (hl.cell h.lcb 0).trans h.e0, (hl.cell h.lcb 1).trans h.e1⟩

theorem RecC.below {w w' : World} {pb g k0 k1 k2 k3 q0 q1 q2 q3 tb mb cb cap : Nat} (h : RecC w.heap.size w pb g k0 k1 k2 k3 q0 q1 q2 q3 tb mb cb cap) (hb : Below w.heap.size w w') : RecC w'.heap.size w' pb g k0 k1 k2 k3 q0 q1 q2 q3 tb mb cb cap := by
  have k := h.low (w := w') (fun k hk => hb.block k hk)
  have hs := hb.size
  exact ⟨Nat.lt_of_lt_of_le h.lpb hs, Nat.lt_of_lt_of_le h.lg hs, Nat.lt_of_lt_of_le h.lk0 hs, Nat.lt_of_lt_of_le h.lk1 hs, Nat.lt_of_lt_of_le h.lk2 hs, Nat.lt_of_lt_of_le h.lk3 hs, Nat.lt_of_lt_of_le h.lq0 hs, Nat.lt_of_lt_of_le h.lq1 hs, Nat.lt_of_lt_of_le h.lq2 hs, Nat.lt_of_lt_of_le h.lq3 hs, Nat.lt_of_lt_of_le h.ltb hs, Nat.lt_of_lt_of_le h.lmb hs, Nat.lt_of_lt_of_le h.lcb hs,
    k.hp, k.g0, k.g1, k.g2, k.g3, k.g4, k.g5, k.g6, k.g7, k.p0, k.r0, k.c0, k.p1, k.r1, k.c1, k.p2, k.r2, k.c2, k.p3, k.r3, k.c3, k.t0, k.m0, k.e0, k.e1⟩

/-- What a record writes. -/
def outs (A : Int) (S : ByteArray) (L : List Int) (F : Bool) : List (List UInt8 × Bool) := [putN A, putT 100 S, putList 100 putN L, putB F]
def putRec (A : Int) (S : ByteArray) (L : List Int) (F : Bool) : List UInt8 × Bool := puts (fun x => x) (outs A S L F)

theorem puts_step {x : List UInt8 × Bool} {r : List (List UInt8 × Bool)} {cur T : List UInt8} {okT : Bool} {w : World} {p : Nat} (hT : T = cur ++ (puts (fun x => x) (x :: r)).1) (hok : okT = (puts (fun x => x) (x :: r)).2) (h : WAt w p (cur ++ x.1) (if x.2 then 0 else 22)) :
    (∃ cur, WAt w p cur 0 ∧ T = cur ++ (puts (fun x => x) r).1 ∧ okT = (puts (fun x => x) r).2) ∨ (WAt w p T 22 ∧ okT = false) := by
  cases hx : x.2 with
  | true =>
    rw [hx] at h
    simp only [puts, hx, if_true] at hT hok h
    exact Or.inl ⟨_, h, by rw [List.append_assoc]; exact hT, hok⟩
  | false =>
    rw [hx] at h
    simp only [puts, hx, Bool.false_eq_true, if_false] at hT hok h
    exact Or.inr ⟨by rw [hT]; exact h, hok⟩

theorem puts_len_one {x : List UInt8 × Bool} {r : List (List UInt8 × Bool)} {cur T : List UInt8} (hT : T = cur ++ (puts (fun x => x) (x :: r)).1) (h40 : (T.length : Int) ≤ 1099511627776) : ((cur ++ x.1).length : Int) ≤ 1099511627776 := by
  have : (cur ++ x.1).length ≤ T.length := by
    rw [hT]
    simp only [puts]
    split <;> simp
  omega

set_option maxRecDepth 100000 in
set_option maxHeartbeats 4000000 in
theorem recPut {B : Nat} {w0 w : World} {pb g k0 k1 k2 k3 q0 q1 q2 q3 tb mb cb cap p : Nat} (C : RecC B w0 pb g k0 k1 k2 k3 q0 q1 q2 q3 tb mb cb cap) (hlow : Low B w0 w) (hBp : B ≤ p) {bs : List UInt8} (h : WAt w p bs 0) (A : Int) (S : ByteArray) (vL : Value) (L : List Int) (F : Bool) (hL : LowList B w0 isI vL L) (hlen : ((bs ++ (putRec A S L F).1).length : Int) ≤ 1099511627776) :
    Calls Try.prog 88 #[.pointer (some ⟨p, 0, none⟩), .agg #[.int .i64 A, .string S, vL, .bool F], .pointer (some ⟨pb, 0, none⟩)] w (wrote w p bs (putRec A S L F)) := by
  obtain ⟨T, hT⟩ : ∃ T, T = bs ++ (putRec A S L F).1 := ⟨_, rfl⟩
  obtain ⟨okT, hok⟩ : ∃ okT, okT = (putRec A S L F).2 := ⟨_, rfl⟩
  obtain ⟨erT, her⟩ : ∃ erT : Int, erT = if okT then 0 else 22 := ⟨_, rfl⟩
  have HE : Hid (erT = if okT then 0 else 22) := her
  have hE : wrote w p bs (putRec A S L F) = fun e w' => e = .returned (.tuple #[]) ∧ WAt w' p T erT ∧ WFr p w w' := by
    funext e w'
    rw [wrote, ← hT, ← hok, ← her]
  rw [hE]
  have H40 : Hid ((T.length : Int) ≤ 1099511627776) := by show _ ≤ _; rw [hT]; exact hlen
  have HT : Hid (T = bs ++ (puts (fun x => x) [putN A, putT 100 S, putList 100 putN L, putB F]).1) := hT
  have Hok : Hid (okT = (puts (fun x => x) [putN A, putT 100 S, putList 100 putN L, putB F]).2) := hok
  clear hE hT hok her hlen
  have hlt := h.lt
  obtain ⟨va, vn, vc, hvL⟩ : ∃ va vn vc, vL = .slice va vn vc := by obtain ⟨a, c, e, _⟩ := id hL; exact ⟨a, _, c, e⟩
  subst hvL
  go_enter Try.func88, Try.ntmps88
  go_wp2_with fail
  obtain ⟨w1, hw1⟩ : ∃ w1, w1 = w.alloc (.cells #[.int .i64 A, .string S, .slice va vn vc, .bool F] 103) := ⟨_, rfl⟩
  have hb1 : Below w.heap.size w w1 := by rw [hw1]; exact (Below.refl _ _).alloc (Nat.le_refl _) _
  have f1 : WFr p w w1 := WFr.ofBelow hb1
  have hrec1 : w1.heap[w.heap.size]? = some (.cells #[.int .i64 A, .string S, .slice va vn vc, .bool F] 103) := by rw [hw1]; exact heap_alloc_new w _
  have h1 : WAt w1 p bs 0 := h.below hb1
  have hlow1 : Low B w0 w1 := hlow.below (hb1.mono (by omega))
  have hlt1 := h1.lt
  have hsz1 : w.heap.size < w1.heap.size := by rw [hw1]; simp
  rw [← hw1]
  clear hw1
  have hbp : w.heap.size ≠ p := by omega
  go_loopw [5] (fun i wr => ∃ k : Int, i = .int .i64 k ∧ WFr p w1 wr ∧ ((k = 0 ∧ (∃ cur, WAt wr p cur 0 ∧ T = cur ++ (puts (fun x => x) [putN A, putT 100 S, putList 100 putN L, putB F]).1 ∧ okT = (puts (fun x => x) [putN A, putT 100 S, putList 100 putN L, putB F]).2)) ∨
      (k = 1 ∧ (∃ cur, WAt wr p cur 0 ∧ T = cur ++ (puts (fun x => x) [putT 100 S, putList 100 putN L, putB F]).1 ∧ okT = (puts (fun x => x) [putT 100 S, putList 100 putN L, putB F]).2)) ∨
      (k = 2 ∧ (∃ cur, WAt wr p cur 0 ∧ T = cur ++ (puts (fun x => x) [putList 100 putN L, putB F]).1 ∧ okT = (puts (fun x => x) [putList 100 putN L, putB F]).2)) ∨
      (k = 3 ∧ (∃ cur, WAt wr p cur 0 ∧ T = cur ++ (puts (fun x => x) [putB F]).1 ∧ okT = (puts (fun x => x) [putB F]).2)) ∨
      (k = 4 ∧ WAt wr p T 0 ∧ okT = true) ∨ (1 ≤ k ∧ k ≤ 4 ∧ WAt wr p T 22 ∧ okT = false))) (fun i _ => 4 - (intOf i).toNat)
  case atStart => exact ⟨0, rfl, WFr.refl _ _, Or.inl ⟨rfl, _, h1, HT.out, Hok.out⟩⟩
  case round =>
    obtain ⟨k, rfl, fr, hk⟩ := hrel
    have hlow2 : Low B w0 wr := hlow1.below ((fr.below hlt1).mono hBp)
    have Cr := C.low hlow2
    have hrec := (fr.block w.heap.size hsz1 (Or.inr ⟨hbp, fun cur fz he => by rw [hrec1] at he; simp at he⟩)).trans hrec1
    have hr0 := cell_of_heap hrec 0
    have hr1 := cell_of_heap hrec 1
    have hr2 := cell_of_heap hrec 2
    have hr3 := cell_of_heap hrec 3
    simp at hr0 hr1 hr2 hr3
    have hp := Cr.hp
    have hwd : ∀ w3, WFr p wr w3 → WFr p w1 w3 := fun w3 f => fr.trans f
    clear hrec HT Hok h h1 f1
    rcases hk with ⟨rfl, cur, h2, hcur, hokk⟩ | ⟨rfl, cur, h2, hcur, hokk⟩ | ⟨rfl, cur, h2, hcur, hokk⟩ | ⟨rfl, cur, h2, hcur, hokk⟩ | ⟨rfl, h2, hokk⟩ | ⟨hk1, hk4, h2, hokk⟩
    · obtain ⟨sa, sc, c0, c1, cf, hrow, hlt2, hne⟩ := h2.cells
      have hg := Cr.g0
      have Hcur : Hid (T = _) := hcur
      have Hokk : Hid (okT = _) := hokk
      clear hcur hokk hrow hne
      go_wp2_with fail
      refine (fputA Cr.p0 Cr.c0 hr0 (wroteN (w := wr.drew) (p := p) (bs := cur) (v := .int .i64 A) (n := A) h2 rfl (puts_len_one Hcur.out H40.out))).mono ?_
      intro e w3 hw3
      obtain ⟨he3, h3, f3⟩ := hw3
      subst he3
      go_wp2_with fail
      go_roundw
      case rel =>
        refine ⟨1, by rfl, hwd _ f3, ?_⟩
        rcases puts_step Hcur.out Hokk.out h3 with hs | hs
        · exact Or.inr (Or.inl ⟨rfl, hs⟩)
        · exact Or.inr (Or.inr (Or.inr (Or.inr (Or.inr ⟨by decide, by decide, hs⟩))))
      case measure => simp [intOf]
    · obtain ⟨sa, sc, c0, c1, cf, hrow, hlt2, hne⟩ := h2.cells
      have hg := Cr.g2
      have Hcur : Hid (T = _) := hcur
      have Hokk : Hid (okT = _) := hokk
      clear hcur hokk hrow hne
      go_wp2_with fail
      refine (fputS Cr.p1 Cr.c1 hr1 (wroteT (w := wr.drew) (p := p) (tb := tb) (bs := cur) (v := .string S) (s := S) (most := 100) h2 Cr.t0 rfl (puts_len_one Hcur.out H40.out))).mono ?_
      intro e w3 hw3
      obtain ⟨he3, h3, f3⟩ := hw3
      subst he3
      go_wp2_with fail
      go_roundw
      case rel =>
        refine ⟨2, by rfl, hwd _ f3, ?_⟩
        rcases puts_step Hcur.out Hokk.out h3 with hs | hs
        · exact Or.inr (Or.inr (Or.inl ⟨rfl, hs⟩))
        · exact Or.inr (Or.inr (Or.inr (Or.inr (Or.inr ⟨by decide, by decide, hs⟩))))
      case measure => simp [intOf]
    · obtain ⟨sa, sc, c0, c1, cf, hrow, hlt2, hne⟩ := h2.cells
      have hg := Cr.g4
      have Hcur : Hid (T = _) := hcur
      have Hokk : Hid (okT = _) := hokk
      clear hcur hokk hrow hne
      go_wp2_with fail
      refine (fputL Cr.p2 Cr.c2 hr2 (putListInt (B := B) (w0 := w0) (rep := isI) (f := putN) C.lmb C.lcb C.m0 (by decide) C.e0 (fun w p bs v a _ _ h hv hl => wroteN h hv hl) (w := wr.drew) hlow2 hBp h2 hL (puts_len_one Hcur.out H40.out))).mono ?_
      intro e w3 hw3
      obtain ⟨he3, h3, f3⟩ := hw3
      subst he3
      go_wp2_with fail
      go_roundw
      case rel =>
        refine ⟨3, by rfl, hwd _ f3, ?_⟩
        rcases puts_step Hcur.out Hokk.out h3 with hs | hs
        · exact Or.inr (Or.inr (Or.inr (Or.inl ⟨rfl, hs⟩)))
        · exact Or.inr (Or.inr (Or.inr (Or.inr (Or.inr ⟨by decide, by decide, hs⟩))))
      case measure => simp [intOf]
    · obtain ⟨sa, sc, c0, c1, cf, hrow, hlt2, hne⟩ := h2.cells
      have hg := Cr.g6
      have Hcur : Hid (T = _) := hcur
      have Hokk : Hid (okT = _) := hokk
      clear hcur hokk hrow hne
      go_wp2_with fail
      refine (fputF Cr.p3 Cr.c3 hr3 (wroteB (w := wr.drew) (p := p) (bs := cur) (v := .bool F) (b := F) h2 rfl (puts_len_one Hcur.out H40.out))).mono ?_
      intro e w3 hw3
      obtain ⟨he3, h3, f3⟩ := hw3
      subst he3
      go_wp2_with fail
      go_roundw
      case rel =>
        refine ⟨4, by rfl, hwd _ f3, ?_⟩
        rcases puts_step Hcur.out Hokk.out h3 with ⟨cur2, hs, e1, e2⟩ | hs
        · simp only [puts, List.append_nil] at e1 e2
          exact Or.inr (Or.inr (Or.inr (Or.inr (Or.inl ⟨rfl, by rw [e1]; exact hs, e2⟩))))
        · exact Or.inr (Or.inr (Or.inr (Or.inr (Or.inr ⟨by decide, by decide, hs⟩))))
      case measure => simp [intOf]
    · obtain ⟨sa, sc, c0, c1, cf, hrow, hlt2, hne⟩ := h2.cells
      go_wp2_with fail
      go_end0
      rw [HE.out, hokk]
      exact ⟨rfl, h2, (WFr.ofBelow hb1).trans fr⟩
    · obtain ⟨sa, sc, c0, c1, cf, hrow, hlt2, hne⟩ := h2.cells
      have Hokk : Hid (okT = false) := hokk
      clear hokk
      by_cases hk5 : k < 4
      all_goals go_wp2_with fail
      all_goals go_end0
      all_goals rw [HE.out, Hokk.out]
      all_goals exact ⟨rfl, h2, (WFr.ofBelow hb1).trans fr⟩

end Go.Proofs.Ytjajgllkbchapaa
