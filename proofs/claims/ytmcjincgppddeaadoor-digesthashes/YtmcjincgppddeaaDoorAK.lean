/-
  Whether two terms of two stores are made alike: what is looked at, and what is kept of it · Two terms that mean the same are found alike · What stays beside two stores and a list of numbers that is kept · Lists of terms that mean the same are found alike.
-/
import Derived.Test.YtmcjincgppddeaaDoorFL
import Derived.BigGuardPart
import Derived.Test.YtmcjincgppddeaaDoorAK0
import Derived.Deep.DrawnRows
namespace Go.Proofs.YtmcjincgppddeaaDoor
open Go.RowKit
set_option linter.unusedSimpArgs false
set_option linter.unusedVariables false

/-- What is kept is right: each number that is kept means the same in the other store. -/
def MemoOk (ns ms : List Nd) (memo : List Int) : Prop := ∀ (i : Nat) (b : Int), memo[i]? = some b → b ≠ 0 → ∃ T, Means ns (i : Int) T ∧ Means ms b T

theorem MemoOk.zeros (ns ms : List Nd) (n : Nat) : MemoOk ns ms (List.replicate n 0) := by
  intro i b h h0
  rw [List.getElem?_replicate] at h
  split at h <;> simp at h
  exact absurd h.symm h0

theorem MemoOk.set {ns ms : List Nd} {memo : List Int} (h : MemoOk ns ms memo) {i : Nat} {b : Int} {T : Tm} (hn : Means ns (i : Int) T) (hm : Means ms b T) : MemoOk ns ms (memo.set i b) := by
  intro j c hj h0
  by_cases e : j = i
  · subst e
    have hlt : j < memo.length := by have := (List.getElem?_eq_some_iff.1 hj).1; simpa using this
    rw [List.getElem?_set_self hlt] at hj
    cases hj
    exact ⟨T, hn, hm⟩
  · rw [List.getElem?_set_ne (Ne.symm e)] at hj
    exact h j c hj h0

theorem MemoOk.keeps {ns ms ms' : List Nd} {memo : List Int} (h : MemoOk ns ms memo) (hp : ms <+: ms') : MemoOk ns ms' memo := fun i b hi h0 => by
  obtain ⟨T, h1, h2⟩ := h i b hi h0
  exact ⟨T, h1, h2.keeps hp⟩

/-- The list of nodes, the document's store and what is kept, side by side. -/
structure Lk (w : World) (sl : Option Addr) (c : Nat) (ns : List Nd) (r : Nat) (ms : List Nd) (dr : Int) (kb : Nat) (memo : List Int) : Prop where
  row : RowAt w sl c ns
  few : ns.length ≤ 262144
  ref : RefAt w r ms dr
  kept : w.heap[kb]? = some (.cells (memo.map (Value.int .i64)).toArray 3)
  rowk : (Value.slice sl ns.length c).ownBlock ≠ some kb
  refk : ¬ OwnR w r kb
  ok : MemoOk ns ms memo
  len : memo.length = ns.length + 1
  wf : Wf ms

theorem Lk.turned {w w' : World} {sl : Option Addr} {c : Nat} {ns : List Nd} {r : Nat} {ms : List Nd} {dr : Int} {kb : Nat} {memo memo' : List Int} (h : Lk w sl c ns r ms dr kb memo) (hg : w.grownBy w' (some kb))
    (hk : w'.heap[kb]? = some (.cells (memo'.map (Value.int .i64)).toArray 3)) (hok : MemoOk ns ms memo') (hl : memo'.length = memo.length) : Lk w' sl c ns r ms dr kb memo' := by
  obtain ⟨h1, h2⟩ := h.ref.keep (w' := w') (fun k hk => hg.block k (h.ref.own_lt hk) (fun e => h.refk (by cases e; exact hk)))
  refine ⟨?_, h.few, h1, hk, h.rowk, fun ho => h.refk ((h2 kb).1 ho), hok, by rw [hl, h.len], h.wf⟩
  exact World.ownsRow.kept h.row hg (.inr h.rowk)

theorem Lk.below {w w' : World} {sl : Option Addr} {c : Nat} {ns : List Nd} {r : Nat} {ms : List Nd} {dr : Int} {kb : Nat} {memo : List Int} (h : Lk w sl c ns r ms dr kb memo) (hb : Below w.heap.size w w') : Lk w' sl c ns r ms dr kb memo :=
  h.turned ⟨hb.os, hb.tape, hb.output, hb.size, fun k hk _ => hb.block k hk⟩ ((hb.block kb (Array.getElem?_eq_some_iff.1 h.kept).1).trans h.kept) h.ok rfl

theorem grown_of_below {w w' : World} (hb : Below w.heap.size w w') (row : Option Nat) : w.grownBy w' row := ⟨hb.os, hb.tape, hb.output, hb.size, fun k hk _ => hb.block k hk⟩

/-- One number is kept. -/
theorem Lk.put {w : World} {sl : Option Addr} {c : Nat} {ns : List Nd} {r : Nat} {ms : List Nd} {dr : Int} {kb : Nat} {memo : List Int} (h : Lk w sl c ns r ms dr kb memo) {i : Nat} {b : Int} {T : Tm} (hn : Means ns (i : Int) T) (hm : Means ms b T) :
    Lk (w.setCell ⟨kb, i, none⟩ (.int .i64 b)) sl c ns r ms dr kb (memo.set i b) ∧ w.grownBy (w.setCell ⟨kb, i, none⟩ (.int .i64 b)) (some kb) := by
  have hg : w.grownBy (w.setCell ⟨kb, i, none⟩ (.int .i64 b)) (some kb) :=
    ⟨rfl, rfl, rfl, by simp [World.setCell], fun k hk hne => Below.heap_setCell _ _ _ _ (fun e => hne (by rw [e]))⟩
  refine ⟨h.turned hg ?_ (h.ok.set hn hm) (by simp), hg⟩
  rw [heap_setCell_at h.kept]
  simp [List.map_set]

end Go.Proofs.YtmcjincgppddeaaDoor

namespace Go.Proofs.YtmcjincgppddeaaDoor
open Go.RowKit
set_option linter.unusedSimpArgs false
set_option linter.unusedVariables false

/-- What a call of Alike comes to: true; more may be kept. -/
def AlP (sl : Option Addr) (c : Nat) (ns : List Nd) (r : Nat) (ms : List Nd) (dr : Int) (kb : Nat) (w : World) (e : Ending) (w' : World) : Prop :=
  ∃ memo', e = .returned (.bool true) ∧ Lk w' sl c ns r ms dr kb memo' ∧ w.grownBy w' (some kb)

theorem AlP.mk {sl : Option Addr} {c : Nat} {ns : List Nd} {r : Nat} {ms : List Nd} {dr : Int} {kb : Nat} {w w' : World} {memo' : List Int} (h : Lk w' sl c ns r ms dr kb memo') (hg : w.grownBy w' (some kb)) : AlP sl c ns r ms dr kb w (.returned (.bool true)) w' := ⟨memo', rfl, h, hg⟩

theorem Lk.cells {w : World} {sl : Option Addr} {c : Nat} {ns : List Nd} {r : Nat} {ms : List Nd} {dr : Int} {kb : Nat} {memo : List Int} (h : Lk w sl c ns r ms dr kb memo) {j : Nat} (hj : j ≤ ns.length) :
    ∃ m, memo[j]? = some m ∧ w.cell? ⟨kb, j, none⟩ = some (.int .i64 m) ∧ (∀ o, w.frozen? ⟨kb, o, none⟩ = false) ∧ kb < w.heap.size := by
  have hl := h.len
  have hlt : j < memo.length := by omega
  refine ⟨memo[j], by simp [hlt], ?_, fun o => frozen_of_heap h.kept o, (Array.getElem?_eq_some_iff.1 h.kept).1⟩
  rw [cell_of_heap h.kept]
  simp [hlt]

/-- A node and its box. -/
theorem box_cells (w : World) (n : Nd) : (w.alloc (.cells #[.int .i64 n.kind, .string n.label, .int .i64 n.a, .int .i64 n.b] 51)).cell? ⟨w.heap.size, 0, none⟩ = some (.int .i64 n.kind) ∧ (w.alloc (.cells #[.int .i64 n.kind, .string n.label, .int .i64 n.a, .int .i64 n.b] 51)).cell? ⟨w.heap.size, 1, none⟩ = some (.string n.label) ∧
    (w.alloc (.cells #[.int .i64 n.kind, .string n.label, .int .i64 n.a, .int .i64 n.b] 51)).cell? ⟨w.heap.size, 2, none⟩ = some (.int .i64 n.a) ∧ (w.alloc (.cells #[.int .i64 n.kind, .string n.label, .int .i64 n.a, .int .i64 n.b] 51)).cell? ⟨w.heap.size, 3, none⟩ = some (.int .i64 n.b) := by
  refine ⟨?_, ?_, ?_, ?_⟩ <;> go_simp

/-- The two boxes of a call. -/
structure Boxes (W : World) (B B' : Nat) (n m : Nd) : Prop where
  a0 : W.cell? ⟨B, 0, none⟩ = some (.int .i64 n.kind)
  a1 : W.cell? ⟨B, 1, none⟩ = some (.string n.label)
  a2 : W.cell? ⟨B, 2, none⟩ = some (.int .i64 n.a)
  a3 : W.cell? ⟨B, 3, none⟩ = some (.int .i64 n.b)
  b0 : W.cell? ⟨B', 0, none⟩ = some (.int .i64 m.kind)
  b1 : W.cell? ⟨B', 1, none⟩ = some (.string m.label)
  b2 : W.cell? ⟨B', 2, none⟩ = some (.int .i64 m.a)
  b3 : W.cell? ⟨B', 3, none⟩ = some (.int .i64 m.b)

theorem Boxes.of (w : World) (n m : Nd) : Boxes ((w.alloc (.cells #[.int .i64 n.kind, .string n.label, .int .i64 n.a, .int .i64 n.b] 51)).alloc (.cells #[.int .i64 m.kind, .string m.label, .int .i64 m.a, .int .i64 m.b] 51)) w.heap.size (w.alloc (.cells #[.int .i64 n.kind, .string n.label, .int .i64 n.a, .int .i64 n.b] 51)).heap.size n m := by
  obtain ⟨h0, h1, h2, h3⟩ := box_cells w n
  obtain ⟨k0, k1, k2, k3⟩ := box_cells (w.alloc (.cells #[.int .i64 n.kind, .string n.label, .int .i64 n.a, .int .i64 n.b] 51)) m
  have hb : Below (w.alloc (.cells #[.int .i64 n.kind, .string n.label, .int .i64 n.a, .int .i64 n.b] 51)).heap.size (w.alloc (.cells #[.int .i64 n.kind, .string n.label, .int .i64 n.a, .int .i64 n.b] 51)) ((w.alloc (.cells #[.int .i64 n.kind, .string n.label, .int .i64 n.a, .int .i64 n.b] 51)).alloc (.cells #[.int .i64 m.kind, .string m.label, .int .i64 m.a, .int .i64 m.b] 51)) := (Below.refl _ _).alloc (Nat.le_refl _) _
  have lt : w.heap.size < (w.alloc (.cells #[.int .i64 n.kind, .string n.label, .int .i64 n.a, .int .i64 n.b] 51)).heap.size := by simp
  exact ⟨(hb.cell (p := ⟨w.heap.size, 0, none⟩) lt).trans h0, (hb.cell (p := ⟨w.heap.size, 1, none⟩) lt).trans h1, (hb.cell (p := ⟨w.heap.size, 2, none⟩) lt).trans h2, (hb.cell (p := ⟨w.heap.size, 3, none⟩) lt).trans h3, k0, k1, k2, k3⟩

theorem Boxes.grown {W W' : World} {B B' kb : Nat} {n m : Nd} (h : Boxes W B B' n m) (hg : W.grownBy W' (some kb)) (h1 : B ≠ kb) (h2 : B' ≠ kb) : Boxes W' B B' n m :=
  ⟨hg.cell h.a0 (fun e => h1 (by cases e; rfl)), hg.cell h.a1 (fun e => h1 (by cases e; rfl)), hg.cell h.a2 (fun e => h1 (by cases e; rfl)), hg.cell h.a3 (fun e => h1 (by cases e; rfl)),
   hg.cell h.b0 (fun e => h2 (by cases e; rfl)), hg.cell h.b1 (fun e => h2 (by cases e; rfl)), hg.cell h.b2 (fun e => h2 (by cases e; rfl)), hg.cell h.b3 (fun e => h2 (by cases e; rfl))⟩

set_option maxRecDepth 100000 in
set_option maxHeartbeats 2000000 in
/-- A kept number is found. -/
theorem al_kept {w : World} {sl : Option Addr} {c : Nat} {ns : List Nd} {r : Nat} {ms : List Nd} {dr : Int} {kb : Nat} {memo : List Int} (h : Lk w sl c ns r ms dr kb memo) {a b : Nat} (ha : a < ns.length) (hb : b < ms.length) {q : Int} (hq : memo[a + 1]? = some q) (hq0 : q ≠ 0) {T : Tm} (hn : Means ns ((a : Int) + 1) T) (hm : Means ms ((b : Int) + 1) T) :
    Calls Tryd.prog 19 #[.slice sl ns.length c, .int .i64 ((a : Int) + 1), .pointer (some ⟨r, 0, none⟩), .int .i64 ((b : Int) + 1), .slice (some ⟨kb, 0, none⟩) (ns.length + 1 : Nat) (ns.length + 1 : Nat)] w (AlP sl c ns r ms dr kb w) := by
  obtain ⟨q', hq', hc, hfz, hkl⟩ := h.cells (j := a + 1) (by omega)
  rw [hq] at hq'
  cases hq'
  obtain ⟨T', h1, h2⟩ := h.ok (a + 1) q hq hq0
  have e : ((a + 1 : Nat) : Int) = (a : Int) + 1 := by omega
  rw [e] at h1
  have hT := h1.one hn
  subst hT
  have hqb := h2.inj h.wf hm
  subst hqb
  have g0 : (((b : Int) + 1) != 0) = true := by simpa using hq0
  obtain ⟨sl', c', s0, s1, sf, sr, sn, slt⟩ := h.ref.cells
  have d1 : decide ((a : Int) + 1 < 1) = false := by simp; omega
  have d2 : decide ((ns.length : Int) < (a : Int) + 1) = false := by simp; omega
  have d3 : decide ((b : Int) + 1 < 1) = false := by simp; omega
  have d4 : decide ((ms.length : Int) < (b : Int) + 1) = false := by simp; omega
  have i0 : (0 : Int) ≤ (a : Int) + 1 := by omega
  have i1 : (a : Int) + 1 < ((ns.length + 1 : Nat) : Int) := by omega
  have t1 : ((a : Int) + 1).toNat = a + 1 := by omega
  have hH : Hid (Lk w sl c ns r ms dr kb memo) := h
  clear h hn hm h1 h2 hq hq0 sn
  go_enter Tryd.func19, Tryd.ntmps19
  go_wp2_with fail
  go_ret
  exact AlP.mk hH.out (World.grownBy.refl _ _)

/-- Alike holds of two numbers, wherever the three lie. -/
def Al2 (sl : Option Addr) (c : Nat) (ns : List Nd) (r : Nat) (ms : List Nd) (dr : Int) (kb : Nat) (x y : Int) : Prop :=
  ∀ (W : World) (memo : List Int), Lk W sl c ns r ms dr kb memo → Calls Tryd.prog 19 #[.slice sl ns.length c, .int .i64 x, .pointer (some ⟨r, 0, none⟩), .int .i64 y, .slice (some ⟨kb, 0, none⟩) (ns.length + 1 : Nat) (ns.length + 1 : Nat)] W (AlP sl c ns r ms dr kb W)

/-- What a walk of Alike reads. -/
theorem Lk.reads {w : World} {sl : Option Addr} {c : Nat} {ns : List Nd} {r : Nat} {ms : List Nd} {dr : Int} {kb : Nat} {memo : List Int} (h : Lk w sl c ns r ms dr kb memo) {a b : Nat} {n m : Nd} (ha : ns[a]? = some n) (hb : ms[b]? = some m) :
    ∃ nb, sl = some ⟨nb, 0, none⟩ ∧ (w.cell? ⟨nb, a * 4, none⟩ = some (.int .i64 n.kind) ∧ w.cell? ⟨nb, a * 4 + 1, none⟩ = some (.string n.label) ∧ w.cell? ⟨nb, a * 4 + 2, none⟩ = some (.int .i64 n.a) ∧ w.cell? ⟨nb, a * 4 + 3, none⟩ = some (.int .i64 n.b)) ∧
    ∃ mb c', w.cell? ⟨r, 0, none⟩ = some (.slice (some ⟨mb, 0, none⟩) ms.length c') ∧ (w.cell? ⟨mb, b * 4, none⟩ = some (.int .i64 m.kind) ∧ w.cell? ⟨mb, b * 4 + 1, none⟩ = some (.string m.label) ∧ w.cell? ⟨mb, b * 4 + 2, none⟩ = some (.int .i64 m.a) ∧ w.cell? ⟨mb, b * 4 + 3, none⟩ = some (.int .i64 m.b)) := by
  have hal := (List.getElem?_eq_some_iff.1 ha).1
  have hbl := (List.getElem?_eq_some_iff.1 hb).1
  obtain ⟨sl', c', s0, s1, sf, sr, sn, slt⟩ := h.ref.cells
  rcases h.row.form with ⟨_, _, e⟩ | ⟨nb, rfl, hnb, hl, _⟩
  · rw [e] at hal; simp at hal
  rcases sr.form with ⟨_, _, e⟩ | ⟨mb, rfl, hmb, hl', _⟩
  · rw [e] at hbl; simp at hbl
  have k1 := h.row.cell hal
  have k2 := sr.cell hbl
  have e1 : ns.getD a Nd.zero = n := by simp [List.getD, ha]
  have e2 : ms.getD b Nd.zero = m := by simp [List.getD, hb]
  rw [e1] at k1
  rw [e2] at k2
  exact ⟨nb, rfl, k1, mb, c', s0, k2⟩

theorem grown_two (w : World) (o o' : Obj) (kb : Nat) : w.grownBy ((w.alloc o).alloc o') (some kb) := (World.grownBy_alloc w o _).trans (World.grownBy_alloc (w.alloc o) o' _)

set_option maxRecDepth 100000 in
set_option maxHeartbeats 8000000 in
/-- An atom, a text. -/
theorem al_leaf {sl : Option Addr} {c : Nat} {ns : List Nd} {r : Nat} {ms : List Nd} {dr : Int} {kb : Nat} {a b : Nat} {k x y x2 y2 : Int} {l : ByteArray} (hk : k = 1 ∨ k = 2) (ha : ns[a]? = some ⟨k, l, x, y⟩) (hb : ms[b]? = some ⟨k, l, x, y⟩) {T : Tm} (hn : Means ns ((a : Int) + 1) T) (hm : Means ms ((b : Int) + 1) T) :
    Al2 sl c ns r ms dr kb ((a : Int) + 1) ((b : Int) + 1) := by
  intro w memo h
  have hal := (List.getElem?_eq_some_iff.1 ha).1
  have hbl := (List.getElem?_eq_some_iff.1 hb).1
  obtain ⟨q, hq, hc, hfz, hkl⟩ := h.cells (j := a + 1) (by omega)
  by_cases hq0 : q = 0
  · subst hq0
    obtain ⟨nb, rfl, ⟨n0, n1, n2, n3⟩, mb, c', s0, ⟨m0, m1, m2, m3⟩⟩ := h.reads ha hb
    have hBx := Boxes.of w ⟨k, l, x, y⟩ ⟨k, l, x, y⟩
    have hb1 : Below w.heap.size w (w.alloc (.cells #[.int .i64 k, .string l, .int .i64 x, .int .i64 y] 51)) := (Below.refl _ _).alloc (Nat.le_refl _) _
    have hb2 : Below (w.alloc (.cells #[.int .i64 k, .string l, .int .i64 x, .int .i64 y] 51)).heap.size (w.alloc (.cells #[.int .i64 k, .string l, .int .i64 x, .int .i64 y] 51)) ((w.alloc (.cells #[.int .i64 k, .string l, .int .i64 x, .int .i64 y] 51)).alloc (.cells #[.int .i64 k, .string l, .int .i64 x, .int .i64 y] 51)) := (Below.refl _ _).alloc (Nat.le_refl _) _
    have hL1 := h.below hb1
    have hL2 := hL1.below hb2
    have hg2 := grown_two w (.cells #[.int .i64 k, .string l, .int .i64 x, .int .i64 y] 51) (.cells #[.int .i64 k, .string l, .int .i64 x, .int .i64 y] 51) kb
    obtain ⟨nb2, enb2, -, mb', c'', s0', ⟨m0', m1', m2', m3'⟩⟩ := hL1.reads ha hb
    clear enb2 nb2
    have hsz1 : (w.alloc (.cells #[.int .i64 k, .string l, .int .i64 x, .int .i64 y] 51)).heap.size = w.heap.size + 1 := by simp
    obtain ⟨W1, hW1⟩ : ∃ W1, w.alloc (.cells #[.int .i64 k, .string l, .int .i64 x, .int .i64 y] 51) = W1 := ⟨_, rfl⟩
    rw [hW1] at hBx hL1 hL2 hg2 s0' m0' m1' m2' m3' hsz1
    obtain ⟨W2, hW2⟩ : ∃ W2, W1.alloc (.cells #[.int .i64 k, .string l, .int .i64 x, .int .i64 y] 51) = W2 := ⟨_, rfl⟩
    rw [hW2] at hBx hL2 hg2
    clear hb1 hb2
    have HL2 : Hid (Lk W2 (some ⟨nb, 0, none⟩) c ns r ms dr kb memo) := hL2
    have HG2 : Hid (w.grownBy W2 (some kb)) := hg2
    have HBx : Hid (Boxes W2 w.heap.size W1.heap.size ⟨k, l, x, y⟩ ⟨k, l, x, y⟩) := hBx
    obtain ⟨a0, a1, a2, a3, b0, b1, b2, b3⟩ := hBx
    try simp only at n0
    try simp only at n1
    try simp only at n2
    try simp only at n3
    try simp only at m0
    try simp only at m1
    try simp only at m2
    try simp only at m3
    try simp only at m0'
    try simp only at m1'
    try simp only at m2'
    try simp only at m3'
    try simp only at a0
    try simp only at a1
    try simp only at a2
    try simp only at a3
    try simp only at b0
    try simp only at b1
    try simp only at b2
    try simp only at b3
    have hne1 : w.heap.size ≠ kb := by omega
    have hne2 : W1.heap.size ≠ kb := by omega
    have d1 : decide ((a : Int) + 1 < 1) = false := by simp; omega
    have d2 : decide ((ns.length : Int) < (a : Int) + 1) = false := by simp; omega
    have d3 : decide ((b : Int) + 1 < 1) = false := by simp; omega
    have d4 : decide ((ms.length : Int) < (b : Int) + 1) = false := by simp; omega
    have i0 : (0 : Int) ≤ (a : Int) + 1 := by omega
    have i1 : (a : Int) + 1 < ((ns.length + 1 : Nat) : Int) := by omega
    have i2 : (a : Int) < (ns.length : Int) := by omega
    have i3 : (b : Int) < (ms.length : Int) := by omega
    have i4 : (0 : Int) ≤ (a : Int) := by omega
    have i5 : (0 : Int) ≤ (b : Int) := by omega
    have t1 : ((a : Int) + 1).toNat = a + 1 := by omega
    have hfw := h.few
    have hrf : ms.length ≤ 262144 := by obtain ⟨_, _, _, _, h3⟩ := h.ref; exact h3
    have k1 : IntKind.i64.wrap ((a : Int) + 1 - 1) = (a : Int) := by rw [show (a : Int) + 1 - 1 = (a : Int) by omega]; exact wrap_fit (by omega) (by omega)
    have k2 : IntKind.i64.wrap ((b : Int) + 1 - 1) = (b : Int) := by rw [show (b : Int) + 1 - 1 = (b : Int) by omega]; exact wrap_fit (by omega) (by omega)
    have k3 : IntKind.i64.wrap (a : Int) = (a : Int) := wrap_fit (by omega) (by omega)
    have k4 : IntKind.i64.wrap (b : Int) = (b : Int) := wrap_fit (by omega) (by omega)
    have hl : (l != l) = false := by
      have := (bytes_beq l l).2 rfl
      show (!(l == l)) = false
      rw [this]; rfl
    have HM : Hid (Means ns ((a : Int) + 1) T ∧ Means ms ((b : Int) + 1) T) := ⟨hn, hm⟩
    have Hal : Hid (a < ns.length) := hal
    clear h hL1 hL2 hg2 hn hm hq hfw hrf hal hbl ha hb hsz1
    obtain ⟨qq, hqq, hcc, hff, hkk⟩ := (HL2.out).cells (j := a + 1) (by have := Hal.out; omega)
    have hP := (HL2.out).put (i := a + 1) (b := (b : Int) + 1) (T := T) (by have := HM.out.1; simpa using this) HM.out.2
    have HP : Hid (Lk (W2.setCell ⟨kb, a + 1, none⟩ (.int .i64 ((b : Int) + 1))) (some ⟨nb, 0, none⟩) c ns r ms dr kb (memo.set (a + 1) ((b : Int) + 1)) ∧ W2.grownBy (W2.setCell ⟨kb, a + 1, none⟩ (.int .i64 ((b : Int) + 1))) (some kb)) := hP
    clear hP hqq
    rcases hk with rfl | rfl
    all_goals
      go_enter Tryd.func19, Tryd.ntmps19
      go_wp2_with (first | rw [hW1] | rw [hW2] | fail)
      go_ret
      exact AlP.mk HP.out.1 ((HG2.out).trans HP.out.2)
  · exact al_kept h hal hbl hq hq0 hn hm

set_option maxRecDepth 100000 in
set_option maxHeartbeats 8000000 in
/-- A hash, a public key. -/
theorem al_one {sl : Option Addr} {c : Nat} {ns : List Nd} {r : Nat} {ms : List Nd} {dr : Int} {kb : Nat} {a b : Nat} {k x y x2 y2 : Int} {l : ByteArray} (hk : k = 4 ∨ k = 6) (ha : ns[a]? = some ⟨k, l, x, y⟩) (hb : ms[b]? = some ⟨k, l, x2, y2⟩) (H1 : Al2 sl c ns r ms dr kb x x2) {T : Tm} (hn : Means ns ((a : Int) + 1) T) (hm : Means ms ((b : Int) + 1) T) :
    Al2 sl c ns r ms dr kb ((a : Int) + 1) ((b : Int) + 1) := by
  intro w memo h
  have hal := (List.getElem?_eq_some_iff.1 ha).1
  have hbl := (List.getElem?_eq_some_iff.1 hb).1
  obtain ⟨q, hq, hc, hfz, hkl⟩ := h.cells (j := a + 1) (by omega)
  by_cases hq0 : q = 0
  · subst hq0
    obtain ⟨nb, rfl, ⟨n0, n1, n2, n3⟩, mb, c', s0, ⟨m0, m1, m2, m3⟩⟩ := h.reads ha hb
    have hBx := Boxes.of w ⟨k, l, x, y⟩ ⟨k, l, x2, y2⟩
    have hb1 : Below w.heap.size w (w.alloc (.cells #[.int .i64 k, .string l, .int .i64 x, .int .i64 y] 51)) := (Below.refl _ _).alloc (Nat.le_refl _) _
    have hb2 : Below (w.alloc (.cells #[.int .i64 k, .string l, .int .i64 x, .int .i64 y] 51)).heap.size (w.alloc (.cells #[.int .i64 k, .string l, .int .i64 x, .int .i64 y] 51)) ((w.alloc (.cells #[.int .i64 k, .string l, .int .i64 x, .int .i64 y] 51)).alloc (.cells #[.int .i64 k, .string l, .int .i64 x2, .int .i64 y2] 51)) := (Below.refl _ _).alloc (Nat.le_refl _) _
    have hL1 := h.below hb1
    have hL2 := hL1.below hb2
    have hg2 := grown_two w (.cells #[.int .i64 k, .string l, .int .i64 x, .int .i64 y] 51) (.cells #[.int .i64 k, .string l, .int .i64 x2, .int .i64 y2] 51) kb
    obtain ⟨nb2, enb2, -, mb', c'', s0', ⟨m0', m1', m2', m3'⟩⟩ := hL1.reads ha hb
    clear enb2 nb2
    have hsz1 : (w.alloc (.cells #[.int .i64 k, .string l, .int .i64 x, .int .i64 y] 51)).heap.size = w.heap.size + 1 := by simp
    obtain ⟨W1, hW1⟩ : ∃ W1, w.alloc (.cells #[.int .i64 k, .string l, .int .i64 x, .int .i64 y] 51) = W1 := ⟨_, rfl⟩
    rw [hW1] at hBx hL1 hL2 hg2 s0' m0' m1' m2' m3' hsz1
    obtain ⟨W2, hW2⟩ : ∃ W2, W1.alloc (.cells #[.int .i64 k, .string l, .int .i64 x2, .int .i64 y2] 51) = W2 := ⟨_, rfl⟩
    rw [hW2] at hBx hL2 hg2
    clear hb1 hb2
    have HL2 : Hid (Lk W2 (some ⟨nb, 0, none⟩) c ns r ms dr kb memo) := hL2
    have HG2 : Hid (w.grownBy W2 (some kb)) := hg2
    have HBx : Hid (Boxes W2 w.heap.size W1.heap.size ⟨k, l, x, y⟩ ⟨k, l, x2, y2⟩) := hBx
    obtain ⟨a0, a1, a2, a3, b0, b1, b2, b3⟩ := hBx
    try simp only at n0
    try simp only at n1
    try simp only at n2
    try simp only at n3
    try simp only at m0
    try simp only at m1
    try simp only at m2
    try simp only at m3
    try simp only at m0'
    try simp only at m1'
    try simp only at m2'
    try simp only at m3'
    try simp only at a0
    try simp only at a1
    try simp only at a2
    try simp only at a3
    try simp only at b0
    try simp only at b1
    try simp only at b2
    try simp only at b3
    have hne1 : w.heap.size ≠ kb := by omega
    have hne2 : W1.heap.size ≠ kb := by omega
    have d1 : decide ((a : Int) + 1 < 1) = false := by simp; omega
    have d2 : decide ((ns.length : Int) < (a : Int) + 1) = false := by simp; omega
    have d3 : decide ((b : Int) + 1 < 1) = false := by simp; omega
    have d4 : decide ((ms.length : Int) < (b : Int) + 1) = false := by simp; omega
    have i0 : (0 : Int) ≤ (a : Int) + 1 := by omega
    have i1 : (a : Int) + 1 < ((ns.length + 1 : Nat) : Int) := by omega
    have i2 : (a : Int) < (ns.length : Int) := by omega
    have i3 : (b : Int) < (ms.length : Int) := by omega
    have i4 : (0 : Int) ≤ (a : Int) := by omega
    have i5 : (0 : Int) ≤ (b : Int) := by omega
    have t1 : ((a : Int) + 1).toNat = a + 1 := by omega
    have hfw := h.few
    have hrf : ms.length ≤ 262144 := by obtain ⟨_, _, _, _, h3⟩ := h.ref; exact h3
    have k1 : IntKind.i64.wrap ((a : Int) + 1 - 1) = (a : Int) := by rw [show (a : Int) + 1 - 1 = (a : Int) by omega]; exact wrap_fit (by omega) (by omega)
    have k2 : IntKind.i64.wrap ((b : Int) + 1 - 1) = (b : Int) := by rw [show (b : Int) + 1 - 1 = (b : Int) by omega]; exact wrap_fit (by omega) (by omega)
    have k3 : IntKind.i64.wrap (a : Int) = (a : Int) := wrap_fit (by omega) (by omega)
    have k4 : IntKind.i64.wrap (b : Int) = (b : Int) := wrap_fit (by omega) (by omega)
    have hl : (l != l) = false := by
      have := (bytes_beq l l).2 rfl
      show (!(l == l)) = false
      rw [this]; rfl
    have HM : Hid (Means ns ((a : Int) + 1) T ∧ Means ms ((b : Int) + 1) T) := ⟨hn, hm⟩
    have Hal : Hid (a < ns.length) := hal
    clear h hL1 hL2 hg2 hn hm hq hfw hrf hal hbl ha hb hsz1
    rcases hk with rfl | rfl
    all_goals
      go_enter Tryd.func19, Tryd.ntmps19
      go_wp2_with (first | rw [hW1] | rw [hW2] | fail)
      refine (H1 _ _ HL2.out).mono ?_
      rintro e w3 ⟨memo3, rfl, hL3, hg3⟩
      have HL3 : Hid (Lk w3 (some ⟨nb, 0, none⟩) c ns r ms dr kb memo3) := hL3
      have HG3 : Hid (w.grownBy w3 (some kb)) := (HG2.out).trans hg3
      have HBx3 := HBx.out.grown hg3 hne1 hne2
      clear a0 a1 a2 a3 b0 b1 b2 b3 hL3 hg3
      obtain ⟨a0, a1, a2, a3, b0, b1, b2, b3⟩ := id HBx3
      try simp only at a0
      try simp only at a1
      try simp only at a2
      try simp only at a3
      try simp only at b0
      try simp only at b1
      try simp only at b2
      try simp only at b3
      obtain ⟨qq, hqq, hcc, hff, hkk⟩ := (HL3.out).cells (j := a + 1) (by have := Hal.out; omega)
      have hP := (HL3.out).put (i := a + 1) (b := (b : Int) + 1) (T := T) (by have := HM.out.1; simpa using this) HM.out.2
      have HP : Hid (Lk (w3.setCell ⟨kb, a + 1, none⟩ (.int .i64 ((b : Int) + 1))) (some ⟨nb, 0, none⟩) c ns r ms dr kb (memo3.set (a + 1) ((b : Int) + 1)) ∧ w3.grownBy (w3.setCell ⟨kb, a + 1, none⟩ (.int .i64 ((b : Int) + 1))) (some kb)) := hP
      clear hP hqq
      go_wp2_with fail
      go_ret
      exact AlP.mk HP.out.1 ((HG3.out).trans HP.out.2)
  · exact al_kept h hal hbl hq hq0 hn hm

set_option maxRecDepth 100000 in
set_option maxHeartbeats 8000000 in
/-- What is made of two. -/
theorem al_two {sl : Option Addr} {c : Nat} {ns : List Nd} {r : Nat} {ms : List Nd} {dr : Int} {kb : Nat} {a b : Nat} {k x y x2 y2 : Int} {l : ByteArray} (hk : k = 3 ∨ k = 5 ∨ k = 7 ∨ k = 8 ∨ k = 9) (ha : ns[a]? = some ⟨k, l, x, y⟩) (hb : ms[b]? = some ⟨k, l, x2, y2⟩) (H1 : Al2 sl c ns r ms dr kb x x2) (H2 : Al2 sl c ns r ms dr kb y y2) {T : Tm} (hn : Means ns ((a : Int) + 1) T) (hm : Means ms ((b : Int) + 1) T) :
    Al2 sl c ns r ms dr kb ((a : Int) + 1) ((b : Int) + 1) := by
  intro w memo h
  have hal := (List.getElem?_eq_some_iff.1 ha).1
  have hbl := (List.getElem?_eq_some_iff.1 hb).1
  obtain ⟨q, hq, hc, hfz, hkl⟩ := h.cells (j := a + 1) (by omega)
  by_cases hq0 : q = 0
  · subst hq0
    obtain ⟨nb, rfl, ⟨n0, n1, n2, n3⟩, mb, c', s0, ⟨m0, m1, m2, m3⟩⟩ := h.reads ha hb
    have hBx := Boxes.of w ⟨k, l, x, y⟩ ⟨k, l, x2, y2⟩
    have hb1 : Below w.heap.size w (w.alloc (.cells #[.int .i64 k, .string l, .int .i64 x, .int .i64 y] 51)) := (Below.refl _ _).alloc (Nat.le_refl _) _
    have hb2 : Below (w.alloc (.cells #[.int .i64 k, .string l, .int .i64 x, .int .i64 y] 51)).heap.size (w.alloc (.cells #[.int .i64 k, .string l, .int .i64 x, .int .i64 y] 51)) ((w.alloc (.cells #[.int .i64 k, .string l, .int .i64 x, .int .i64 y] 51)).alloc (.cells #[.int .i64 k, .string l, .int .i64 x2, .int .i64 y2] 51)) := (Below.refl _ _).alloc (Nat.le_refl _) _
    have hL1 := h.below hb1
    have hL2 := hL1.below hb2
    have hg2 := grown_two w (.cells #[.int .i64 k, .string l, .int .i64 x, .int .i64 y] 51) (.cells #[.int .i64 k, .string l, .int .i64 x2, .int .i64 y2] 51) kb
    obtain ⟨nb2, enb2, -, mb', c'', s0', ⟨m0', m1', m2', m3'⟩⟩ := hL1.reads ha hb
    clear enb2 nb2
    have hsz1 : (w.alloc (.cells #[.int .i64 k, .string l, .int .i64 x, .int .i64 y] 51)).heap.size = w.heap.size + 1 := by simp
    obtain ⟨W1, hW1⟩ : ∃ W1, w.alloc (.cells #[.int .i64 k, .string l, .int .i64 x, .int .i64 y] 51) = W1 := ⟨_, rfl⟩
    rw [hW1] at hBx hL1 hL2 hg2 s0' m0' m1' m2' m3' hsz1
    obtain ⟨W2, hW2⟩ : ∃ W2, W1.alloc (.cells #[.int .i64 k, .string l, .int .i64 x2, .int .i64 y2] 51) = W2 := ⟨_, rfl⟩
    rw [hW2] at hBx hL2 hg2
    clear hb1 hb2
    have HL2 : Hid (Lk W2 (some ⟨nb, 0, none⟩) c ns r ms dr kb memo) := hL2
    have HG2 : Hid (w.grownBy W2 (some kb)) := hg2
    have HBx : Hid (Boxes W2 w.heap.size W1.heap.size ⟨k, l, x, y⟩ ⟨k, l, x2, y2⟩) := hBx
    obtain ⟨a0, a1, a2, a3, b0, b1, b2, b3⟩ := hBx
    try simp only at n0
    try simp only at n1
    try simp only at n2
    try simp only at n3
    try simp only at m0
    try simp only at m1
    try simp only at m2
    try simp only at m3
    try simp only at m0'
    try simp only at m1'
    try simp only at m2'
    try simp only at m3'
    try simp only at a0
    try simp only at a1
    try simp only at a2
    try simp only at a3
    try simp only at b0
    try simp only at b1
    try simp only at b2
    try simp only at b3
    have hne1 : w.heap.size ≠ kb := by omega
    have hne2 : W1.heap.size ≠ kb := by omega
    have d1 : decide ((a : Int) + 1 < 1) = false := by simp; omega
    have d2 : decide ((ns.length : Int) < (a : Int) + 1) = false := by simp; omega
    have d3 : decide ((b : Int) + 1 < 1) = false := by simp; omega
    have d4 : decide ((ms.length : Int) < (b : Int) + 1) = false := by simp; omega
    have i0 : (0 : Int) ≤ (a : Int) + 1 := by omega
    have i1 : (a : Int) + 1 < ((ns.length + 1 : Nat) : Int) := by omega
    have i2 : (a : Int) < (ns.length : Int) := by omega
    have i3 : (b : Int) < (ms.length : Int) := by omega
    have i4 : (0 : Int) ≤ (a : Int) := by omega
    have i5 : (0 : Int) ≤ (b : Int) := by omega
    have t1 : ((a : Int) + 1).toNat = a + 1 := by omega
    have hfw := h.few
    have hrf : ms.length ≤ 262144 := by obtain ⟨_, _, _, _, h3⟩ := h.ref; exact h3
    have k1 : IntKind.i64.wrap ((a : Int) + 1 - 1) = (a : Int) := by rw [show (a : Int) + 1 - 1 = (a : Int) by omega]; exact wrap_fit (by omega) (by omega)
    have k2 : IntKind.i64.wrap ((b : Int) + 1 - 1) = (b : Int) := by rw [show (b : Int) + 1 - 1 = (b : Int) by omega]; exact wrap_fit (by omega) (by omega)
    have k3 : IntKind.i64.wrap (a : Int) = (a : Int) := wrap_fit (by omega) (by omega)
    have k4 : IntKind.i64.wrap (b : Int) = (b : Int) := wrap_fit (by omega) (by omega)
    have hl : (l != l) = false := by
      have := (bytes_beq l l).2 rfl
      show (!(l == l)) = false
      rw [this]; rfl
    have HM : Hid (Means ns ((a : Int) + 1) T ∧ Means ms ((b : Int) + 1) T) := ⟨hn, hm⟩
    have Hal : Hid (a < ns.length) := hal
    clear h hL1 hL2 hg2 hn hm hq hfw hrf hal hbl ha hb hsz1
    rcases hk with rfl | rfl | rfl | rfl | rfl
    all_goals
      go_enter Tryd.func19, Tryd.ntmps19
      go_wp2_with (first | rw [hW1] | rw [hW2] | fail)
      refine (H1 _ _ HL2.out).mono ?_
      rintro e w3 ⟨memo3, rfl, hL3, hg3⟩
      have HL3 : Hid (Lk w3 (some ⟨nb, 0, none⟩) c ns r ms dr kb memo3) := hL3
      have HG3 : Hid (w.grownBy w3 (some kb)) := (HG2.out).trans hg3
      have HBx3 := HBx.out.grown hg3 hne1 hne2
      clear a0 a1 a2 a3 b0 b1 b2 b3 hL3 hg3
      obtain ⟨a0, a1, a2, a3, b0, b1, b2, b3⟩ := id HBx3
      try simp only at a0
      try simp only at a1
      try simp only at a2
      try simp only at a3
      try simp only at b0
      try simp only at b1
      try simp only at b2
      try simp only at b3
      go_wp2_with fail
      refine (H2 _ _ HL3.out).mono ?_
      rintro e w4 ⟨memo4, rfl, hL4, hg4⟩
      have HL4 : Hid (Lk w4 (some ⟨nb, 0, none⟩) c ns r ms dr kb memo4) := hL4
      have HG4 : Hid (w.grownBy w4 (some kb)) := (HG3.out).trans hg4
      have HBx4 := HBx3.grown hg4 hne1 hne2
      clear a0 a1 a2 a3 b0 b1 b2 b3 hL4 hg4
      obtain ⟨a0, a1, a2, a3, b0, b1, b2, b3⟩ := id HBx4
      try simp only at a0
      try simp only at a1
      try simp only at a2
      try simp only at a3
      try simp only at b0
      try simp only at b1
      try simp only at b2
      try simp only at b3
      obtain ⟨qq, hqq, hcc, hff, hkk⟩ := (HL4.out).cells (j := a + 1) (by have := Hal.out; omega)
      have hP := (HL4.out).put (i := a + 1) (b := (b : Int) + 1) (T := T) (by have := HM.out.1; simpa using this) HM.out.2
      have HP : Hid (Lk (w4.setCell ⟨kb, a + 1, none⟩ (.int .i64 ((b : Int) + 1))) (some ⟨nb, 0, none⟩) c ns r ms dr kb (memo4.set (a + 1) ((b : Int) + 1)) ∧ w4.grownBy (w4.setCell ⟨kb, a + 1, none⟩ (.int .i64 ((b : Int) + 1))) (some kb)) := hP
      clear hP hqq
      go_wp2_with fail
      go_ret
      exact AlP.mk HP.out.1 ((HG4.out).trans HP.out.2)
  · exact al_kept h hal hbl hq hq0 hn hm

end Go.Proofs.YtmcjincgppddeaaDoor

namespace Go.Proofs.YtmcjincgppddeaaDoor
open Go.RowKit
set_option linter.unusedSimpArgs false
set_option linter.unusedVariables false

/-- From a world on, only the two stores' own memory and new memory turn. -/
structure Late (s r : Nat) (wM W : World) : Prop where
  size : wM.heap.size ≤ W.heap.size
  block : ∀ b, b < wM.heap.size → ¬ Own wM s b → ¬ OwnR wM r b → W.heap[b]? = wM.heap[b]?
  ownS : ∀ k, Own W s k → Own wM s k ∨ wM.heap.size ≤ k
  ownR : ∀ k, OwnR W r k → OwnR wM r k ∨ wM.heap.size ≤ k

theorem Late.refl (s r : Nat) (w : World) : Late s r w w := ⟨Nat.le_refl _, fun _ _ _ _ => rfl, fun _ h => Or.inl h, fun _ h => Or.inl h⟩

theorem Two.keepR {w0 w w' : World} {s r : Nat} {ns ms : List Nd} {dn dm : Int} (h : Two w0 s r w ns dn ms dm) (m : Moved s w w') : ∀ k, OwnR w' r k ↔ OwnR w r k :=
  (h.ref.keep (w' := w') (fun k hk => m.block k (h.ref.own_lt hk) (fun ho => h.apart k ho hk))).2
theorem Two.keepS {w0 w w' : World} {s r : Nat} {ns ms : List Nd} {dn dm : Int} (h : Two w0 s r w ns dn ms dm) (m : MovedR r w w') : ∀ k, Own w' s k ↔ Own w s k :=
  (h.seat.st.keep (w' := w') (fun k hk => m.block k (h.seat.st.own_lt hk) (fun ho => h.apart k hk ho))).2

theorem Late.moved {w0 wM W W' : World} {s r : Nat} {ns ms : List Nd} {dn dm : Int} (h : Late s r wM W) (hTw : Two w0 s r W ns dn ms dm) (m : Moved s W W') : Late s r wM W' := by
  have hR := hTw.keepR m
  refine ⟨Nat.le_trans h.size m.size, fun b hb h1 h2 => ?_, fun k hk => ?_, fun k hk => h.ownR k ((hR k).1 hk)⟩
  · rw [m.block b (Nat.lt_of_lt_of_le hb h.size) (fun ho => (h.ownS b ho).elim h1 (fun hge => by omega))]
    exact h.block b hb h1 h2
  · rcases m.own k hk with h3 | h3
    · exact h.ownS k h3
    · have := h.size; exact Or.inr (by omega)

theorem Late.movedR {w0 wM W W' : World} {s r : Nat} {ns ms : List Nd} {dn dm : Int} (h : Late s r wM W) (hTw : Two w0 s r W ns dn ms dm) (m : MovedR r W W') : Late s r wM W' := by
  have hS := hTw.keepS m
  refine ⟨Nat.le_trans h.size m.size, fun b hb h1 h2 => ?_, fun k hk => h.ownS k ((hS k).1 hk), fun k hk => ?_⟩
  · rw [m.block b (Nat.lt_of_lt_of_le hb h.size) (fun ho => (h.ownR b ho).elim h2 (fun hge => by omega))]
    exact h.block b hb h1 h2
  · rcases m.own k hk with h3 | h3
    · exact h.ownR k h3
    · have := h.size; exact Or.inr (by omega)

/-- One block that is neither's turns. -/
theorem Two.grown {w0 W W' : World} {s r k : Nat} {ns ms : List Nd} {dn dm : Int} (hTw : Two w0 s r W ns dn ms dm) (hg : W.grownBy W' (some k)) (hk : w0.heap.size ≤ k) (h1 : ¬ Own W s k) (h2 : ¬ OwnR W r k) :
    Two w0 s r W' ns dn ms dm ∧ (∀ b, Own W' s b ↔ Own W s b) ∧ (∀ b, OwnR W' r b ↔ OwnR W r b) := by
  obtain ⟨a1, a2⟩ := hTw.seat.st.keep (w' := W') (fun b hb => hg.block b (hTw.seat.st.own_lt hb) (fun e => h1 (by cases e; exact hb)))
  obtain ⟨b1, b2⟩ := hTw.ref.keep (w' := W') (fun b hb => hg.block b (hTw.ref.own_lt hb) (fun e => h2 (by cases e; exact hb)))
  have hlow : ∀ b, b < w0.heap.size → W'.heap[b]? = W.heap[b]? := fun b hb => hg.block b (Nat.lt_of_lt_of_le hb hTw.low.size) (fun e => by cases e; omega)
  have hb := hTw.big
  refine ⟨⟨⟨a1, hTw.seat.wf, hTw.seat.tab.block (hlow 2 hb), hTw.seat.pow.block (hlow 0 (by omega)), fun ho => hTw.seat.f0 ((a2 0).1 ho), fun ho => hTw.seat.f2 ((a2 2).1 ho)⟩, b1, hTw.wfm, fun b ho hr => hTw.apart b ((a2 b).1 ho) ((b2 b).1 hr), ?_, fun b ho => hTw.newS b ((a2 b).1 ho), fun b ho => hTw.newR b ((b2 b).1 ho), hTw.big⟩, a2, b2⟩
  exact hTw.low.trans ⟨hg.os, hg.tape, hg.output, hg.size, hlow⟩

theorem Late.grown {wM W W' : World} {s r k : Nat} (h : Late s r wM W) (hg : W.grownBy W' (some k)) (hk : wM.heap.size ≤ k) (hS : ∀ b, Own W' s b ↔ Own W s b) (hR : ∀ b, OwnR W' r b ↔ OwnR W r b) : Late s r wM W' :=
  ⟨Nat.le_trans h.size hg.size, fun b hb h1 h2 => (hg.block b (Nat.lt_of_lt_of_le hb h.size) (fun e => by cases e; omega)).trans (h.block b hb h1 h2), fun b hb => h.ownS b ((hS b).1 hb), fun b hb => h.ownR b ((hR b).1 hb)⟩

theorem Late.tree {wM W : World} {s r : Nat} {v : Value} {t : Tree} (h : Late s r wM W) (ht : TreeP (fun b => ¬ Own wM s b ∧ ¬ OwnR wM r b) wM v t) : TreeP (fun b => ¬ Own W s b ∧ ¬ OwnR W r b) W v t := by
  have h1 := TreeP.imp (r := fun b => b < wM.heap.size ∧ ¬ Own wM s b ∧ ¬ OwnR wM r b) ht (fun b hb hq => ⟨hb, hq⟩)
  have h2 := TreeP.agree h1 h.size (fun b hb hq => h.block b hb hq.2.1 hq.2.2)
  exact TreeP.imp h2 (fun b _ hq => ⟨fun ho => (h.ownS b ho).elim hq.2.1 (fun hge => by omega), fun ho => (h.ownR b ho).elim hq.2.2 (fun hge => by omega)⟩)

theorem both_ts {W : World} {s r : Nat} {v : Value} {t : Tree} (h : TreeP (fun b => ¬ Own W s b ∧ ¬ OwnR W r b) W v t) : TS W s v t := TreeP.imp h (fun _ _ hq => hq.1)

theorem Late.ints {wM W : World} {s r : Nat} {v : Value} {l : List Int} (h : Late s r wM W) (ht : IntsP (fun b => ¬ Own wM s b ∧ ¬ OwnR wM r b) wM v l) : IntsAt W v l := by
  have h1 := IntsP.imp (r := fun b => b < wM.heap.size ∧ ¬ Own wM s b ∧ ¬ OwnR wM r b) ht (fun b hb hq => ⟨hb, hq⟩)
  exact (IntsP.agree h1 h.size (fun b hb hq => h.block b hb hq.2.1 hq.2.2)).ints

/-- What a call has made beside both. -/
theorem Two.own2 {w0 w w' : World} {s r : Nat} {ns ms : List Nd} {dn dm : Int} (h : Two w0 s r w ns dn ms dm) (hb : Below w.heap.size w w') {v : Value} {t : Tree} (ht : TreeP (fun b => w.heap.size ≤ b) w' v t) : TreeP (fun b => ¬ Own w' s b ∧ ¬ OwnR w' r b) w' v t :=
  TreeP.imp ht (fun b _ hq => ⟨fun ho => by
    have h1 := (own_below1 h.seat.st.lt hb b).1 ho
    have := h.seat.st.own_lt h1
    omega, fun ho => by
    have h1 := ((h.ref.keep (fun k hk => hb.block k (h.ref.own_lt hk))).2 b).1 ho
    have := h.ref.own_lt h1
    omega⟩)

/-- What was there before is beside the document's store too. -/
theorem Two.rtree {w0 w : World} {s r : Nat} {ns ms : List Nd} {dn dm : Int} (h : Two w0 s r w ns dn ms dm) {v : Value} {t : Tree} (ht : TreeAt w0 v t) : TR w r v t := by
  have h1 := TreeP.below ht.p h.low
  exact TreeP.imp h1 (fun b _ hq ho => by have := h.newR b ho; omega)

theorem Lk.rowAt {w : World} {sl : Option Addr} {c : Nat} {ns : List Nd} {r : Nat} {ms : List Nd} {dr : Int} {kb : Nat} {memo : List Int} (h : Lk w sl c ns r ms dr kb memo) : RowAt w sl c ns := h.row

/-- The document's store goes on. -/
theorem Lk.ran {w w' : World} {sl : Option Addr} {c : Nat} {ns : List Nd} {r : Nat} {ms ms' : List Nd} {dr : Int} {kb k : Nat} {memo : List Int} (h : Lk w sl c ns r ms dr kb memo) (m : RunR r w w' ms ms' dr k) (hf : ∀ g, (Value.slice sl ns.length c).ownBlock = some g → ¬ OwnR w r g) : Lk w' sl c ns r ms' dr kb memo := by
  have hkl := (Array.getElem?_eq_some_iff.1 h.kept).1
  refine ⟨⟨h.row.1, ?_⟩, h.few, m.st, (m.mv.block kb hkl h.refk).trans h.kept, h.rowk, m.mv.free hkl h.refk, h.ok.keeps m.stp.pre, h.len, m.stp.wf⟩
  rcases h.row.2 with hn | ⟨g, cap, cur, hv, hb, hgg, rest⟩
  · exact Or.inl hn
  · exact Or.inr ⟨g, cap, cur, hv, hb, (m.mv.block g (Array.getElem?_eq_some_iff.1 hgg).1 (hf g (by rw [hv]; rfl))).trans hgg, rest⟩

theorem big_make {w : World} (n : Nat) (hn : n ≤ 300000) :
    (Instr.makeSlice 30 (.int .i64 (n : Int)) (.int .i64 (n : Int))).run Tryd.prog w = .ok (.slice (some ⟨w.heap.size, 0, none⟩) n n) (w.alloc (.cells ((List.replicate n 0).map (Value.int .i64)).toArray 3)) := by
  obtain ⟨i0, hi, hz0, hz1, hz2⟩ := info_parts Tryd.infoI
  have hr := run_make (P := Tryd.prog) w 30 3 i0 (.int .i64 0) Tryd.underlying30 hi hz0 .i64 .i64 n n (by omega) (Int.le_refl _) (by rw [hz2]; omega) (by omega)
  have hc : (Value.int .i64 0).cells = #[.int .i64 0] := rfl
  have e : madeCells (Value.int .i64 0).cells (((n : Nat) : Int).toNat * i0.size) = ((List.replicate n 0).map (Value.int .i64)).toArray := by
    apply Array.ext
    · simp [madeCells, hz1]
    · intro i h1 h2
      simp [madeCells, hz1, hc, Nat.mod_one]
  rw [e] at hr
  rw [hr]; simp

theorem IntsAt.beside {w : World} {v : Value} {l : List Int} (h : IntsAt w v l) (o : Obj) : IntsP (fun b => b ≠ w.heap.size) (w.alloc o) v l := by
  have hb : Below w.heap.size w (w.alloc o) := (Below.refl _ _).alloc (Nat.le_refl _) _
  have h1 := IntsP.imp (r := fun b => b ≠ w.heap.size) h.p (fun b hb _ => by omega)
  exact IntsP.agree h1 hb.size (fun b hb' _ => hb.block b hb')

/-- The state in which terms are compared. -/
structure Fin5 (w1 w4 : World) (s r kb : Nat) (W : World) (sl : Option Addr) (c : Nat) (ns ms : List Nd) (memo : List Int) : Prop where
  two : Two w1 s r W ns 90 ms 90
  late : Late s r w4 W
  lk : Lk W sl c ns r ms 90 kb memo
  ks : ¬ Own W s kb
  kb4 : w4.heap.size ≤ kb
  kb1 : w1.heap.size ≤ kb
  rowr : ∀ g, (Value.slice sl ns.length c).ownBlock = some g → ¬ OwnR W r g ∧ g < W.heap.size

theorem Fin5.alike {w1 w4 W W' : World} {s r kb : Nat} {sl : Option Addr} {c : Nat} {ns ms : List Nd} {memo memo' : List Int} (h : Fin5 w1 w4 s r kb W sl c ns ms memo) (hL : Lk W' sl c ns r ms 90 kb memo') (hg : W.grownBy W' (some kb)) : Fin5 w1 w4 s r kb W' sl c ns ms memo' := by
  obtain ⟨a1, a2, a3⟩ := h.two.grown hg h.kb1 h.ks h.lk.refk
  exact ⟨a1, h.late.grown hg h.kb4 a2 a3, hL, fun ho => h.ks ((a2 kb).1 ho), h.kb4, h.kb1, fun g e => ⟨fun ho => (h.rowr g e).1 ((a3 g).1 ho), Nat.lt_of_lt_of_le (h.rowr g e).2 hg.size⟩⟩

theorem Fin5.ref {w1 w4 W W' : World} {s r kb k : Nat} {sl : Option Addr} {c : Nat} {ns ms ms' : List Nd} {memo : List Int} (h : Fin5 w1 w4 s r kb W sl c ns ms memo) (m : RunR r W W' ms ms' 90 k) : Fin5 w1 w4 s r kb W' sl c ns ms' memo :=
  ⟨h.two.rrun m, h.late.movedR h.two m.mv, h.lk.ran m (fun g e => (h.rowr g e).1), fun ho => h.ks ((h.two.keepS m.mv kb).1 ho), h.kb4, h.kb1, fun g e => ⟨m.mv.free (h.rowr g e).2 (h.rowr g e).1, Nat.lt_of_lt_of_le (h.rowr g e).2 m.mv.size⟩⟩

/-- The list that is kept is made. -/
theorem Fin5.begin {w1 w4 W : World} {s r : Nat} {sl : Option Addr} {c : Nat} {ns ms : List Nd} {B : Nat} (hTw : Two w1 s r W ns 90 ms 90) (hL : Late s r w4 W) (hrow : W.ownsRow B 51 4 (.slice sl ns.length c) ns.length (flat ns)) (hfree : ∀ g, (Value.slice sl ns.length c).ownBlock = some g → ¬ OwnR W r g) :
    Fin5 w1 w4 s r W.heap.size (W.alloc (.cells ((List.replicate (ns.length + 1) 0).map (Value.int .i64)).toArray 3)) sl c ns ms (List.replicate (ns.length + 1) 0) := by
  have hb : Below W.heap.size W (W.alloc (.cells ((List.replicate (ns.length + 1) 0).map (Value.int .i64)).toArray 3)) := (Below.refl _ _).alloc (Nat.le_refl _) _
  have hTw' := hTw.below hb
  have hfew : ns.length ≤ 262144 := by
    obtain ⟨_, _, _, _, _, _, h3⟩ := hTw.seat.st
    exact h3
  have hrl : ∀ g, (Value.slice sl ns.length c).ownBlock = some g → g < W.heap.size := fun g e => (hrow.lt g e).2
  have hR := (hTw.ref.keep (fun k hk => hb.block k (hTw.ref.own_lt hk))).2
  have hS := own_below1 hTw.seat.st.lt hb
  refine ⟨hTw', hL.grown (grown_of_below hb (some W.heap.size)) hL.size hS hR, ⟨?_, hfew, hTw'.ref, heap_alloc_new W _, fun e => ?_, fun ho => ?_, MemoOk.zeros _ _ _, by simp, hTw.wfm⟩, fun ho => ?_, hL.size, hTw.low.size, fun g e => ⟨fun ho => hfree g e ((hR g).1 ho), Nat.lt_of_lt_of_le (hrl g e) hb.size⟩⟩
  · exact (hrow.mono (Nat.zero_le _)).alloc _
  · have := hrl _ e; omega
  · have := hTw.ref.own_lt ((hR _).1 ho); omega
  · have := hTw.seat.st.own_lt ((hS _).1 ho); omega

theorem row_form {W : World} {B e size n : Nat} {v : Value} {xs : List Value} (h : W.ownsRow B e size v n xs) : ∃ sl c, v = .slice sl n c := by
  rcases h.2 with ⟨rfl, rfl⟩ | ⟨g, cap, cur, rfl, _⟩
  · exact ⟨none, 0, rfl⟩
  · exact ⟨_, cap, rfl⟩

end Go.Proofs.YtmcjincgppddeaaDoor

namespace Go.Proofs.YtmcjincgppddeaaDoor
open Go.RowKit
attribute [local go_sem] Go.wp_at_zero Go.wp_at_succ
set_option linter.unusedSimpArgs false
set_option linter.unusedVariables false

theorem nodeF_some {ns : List Nd} {a : Nat} (ha : a < ns.length) {n : Nd} (h : nodeF ns ((a : Int) + 1) = n) : ns[a]? = some n := by
  have hx : ns[a]? = some ns[a] := by simp [ha]
  have := (nodeF_at hx).1
  rw [show ((a + 1 : Nat) : Int) = (a : Int) + 1 by omega, h] at this
  rw [hx, this]

/-- Two numbers that mean the same are found alike. -/
theorem alike_m {sl : Option Addr} {c : Nat} {ns : List Nd} {r : Nat} {ms : List Nd} {dr : Int} {kb : Nat} : ∀ {T : Tm} {x y : Int}, Means ns x T → Means ms y T → Al2 sl c ns r ms dr kb x y := by
  intro T
  have idx : ∀ {l : List Nd} {x : Int} {T : Tm}, Means l x T → ∃ a : Nat, x = (a : Int) + 1 ∧ a < l.length := fun {l} {x} {T} h => by
    have := h.pos
    exact ⟨(x - 1).toNat, by omega, by omega⟩
  induction T with
  | atom v =>
    intro x y hx hy
    obtain ⟨a, rfl, ha⟩ := idx hx
    obtain ⟨b, rfl, hb⟩ := idx hy
    exact al_leaf (x2 := 0) (y2 := 0) (.inl rfl) (nodeF_some ha hx.2) (nodeF_some hb hy.2) hx hy
  | text l =>
    intro x y hx hy
    obtain ⟨a, rfl, ha⟩ := idx hx
    obtain ⟨b, rfl, hb⟩ := idx hy
    exact al_leaf (x2 := 0) (y2 := 0) (.inr rfl) (nodeF_some ha hx.2) (nodeF_some hb hy.2) hx hy
  | pair A B ia ib =>
    intro x y hx hy
    obtain ⟨a, rfl, ha⟩ := idx hx
    obtain ⟨b, rfl, hb⟩ := idx hy
    obtain ⟨_, p, q, e, h1, h2⟩ := id hx
    obtain ⟨_, p', q', e', k1, k2⟩ := id hy
    exact al_two (by simp) (nodeF_some ha e) (nodeF_some hb e') (ia h1 k1) (ib h2 k2) hx hy
  | hash l A ia =>
    intro x y hx hy
    obtain ⟨a, rfl, ha⟩ := idx hx
    obtain ⟨b, rfl, hb⟩ := idx hy
    obtain ⟨_, p, e, h1⟩ := id hx
    obtain ⟨_, p', e', k1⟩ := id hy
    exact al_one (by simp) (nodeF_some ha e) (nodeF_some hb e') (ia h1 k1) hx hy
  | kdf l A B ia ib =>
    intro x y hx hy
    obtain ⟨a, rfl, ha⟩ := idx hx
    obtain ⟨b, rfl, hb⟩ := idx hy
    obtain ⟨_, p, q, e, h1, h2⟩ := id hx
    obtain ⟨_, p', q', e', k1, k2⟩ := id hy
    exact al_two (by simp) (nodeF_some ha e) (nodeF_some hb e') (ia h1 k1) (ib h2 k2) hx hy
  | pub A ia =>
    intro x y hx hy
    obtain ⟨a, rfl, ha⟩ := idx hx
    obtain ⟨b, rfl, hb⟩ := idx hy
    obtain ⟨_, p, e, h1⟩ := id hx
    obtain ⟨_, p', e', k1⟩ := id hy
    exact al_one (by simp) (nodeF_some ha e) (nodeF_some hb e') (ia h1 k1) hx hy
  | lock A B ia ib =>
    intro x y hx hy
    obtain ⟨a, rfl, ha⟩ := idx hx
    obtain ⟨b, rfl, hb⟩ := idx hy
    obtain ⟨_, p, q, e, h1, h2⟩ := id hx
    obtain ⟨_, p', q', e', k1, k2⟩ := id hy
    exact al_two (by simp) (nodeF_some ha e) (nodeF_some hb e') (ia h1 k1) (ib h2 k2) hx hy
  | box A B ia ib =>
    intro x y hx hy
    obtain ⟨a, rfl, ha⟩ := idx hx
    obtain ⟨b, rfl, hb⟩ := idx hy
    obtain ⟨_, p, q, e, h1, h2⟩ := id hx
    obtain ⟨_, p', q', e', k1, k2⟩ := id hy
    exact al_two (by simp) (nodeF_some ha e) (nodeF_some hb e') (ia h1 k1) (ib h2 k2) hx hy
  | sign A B ia ib =>
    intro x y hx hy
    obtain ⟨a, rfl, ha⟩ := idx hx
    obtain ⟨b, rfl, hb⟩ := idx hy
    obtain ⟨_, p, q, e, h1, h2⟩ := id hx
    obtain ⟨_, p', q', e', k1, k2⟩ := id hy
    exact al_two (by simp) (nodeF_some ha e) (nodeF_some hb e') (ia h1 k1) (ib h2 k2) hx hy

set_option maxRecDepth 100000 in
set_option maxHeartbeats 4000000 in
theorem allAlike_m {w : World} {sl : Option Addr} {c : Nat} {ns : List Nd} {r : Nat} {ms : List Nd} {dr : Int} {kb : Nat} {memo : List Int} (h : Lk w sl c ns r ms dr kb memo) {va vb : Value} {xs ys : List Int} (ha : IntsP (fun b => b ≠ kb) w va xs) (hb : IntsP (fun b => b ≠ kb) w vb ys) (hl : xs.length = ys.length)
    (hm : ∀ (i : Nat) (x y : Int), xs[i]? = some x → ys[i]? = some y → ∃ T, Means ns x T ∧ Means ms y T) :
    Calls Tryd.prog 18 #[.slice sl ns.length c, va, .pointer (some ⟨r, 0, none⟩), vb, .slice (some ⟨kb, 0, none⟩) (ns.length + 1 : Nat) (ns.length + 1 : Nat)] w (AlP sl c ns r ms dr kb w) := by
  have Ha : Hid (IntsP (fun b => b ≠ kb) w va xs) := ha
  have Hb : Hid (IntsP (fun b => b ≠ kb) w vb ys) := hb
  obtain ⟨aa, acap, rfl, _, _⟩ := id ha
  obtain ⟨ba, bcap, rfl, _, _⟩ := id hb
  have q1 : ((xs.length : Int) != (ys.length : Int)) = false := by simp [hl]
  have HM : Hid (∀ (i : Nat) (x y : Int), xs[i]? = some x → ys[i]? = some y → ∃ T, Means ns x T ∧ Means ms y T) := hm
  have HL : Hid (xs.length = ys.length) := hl
  have Hb63 : Hid ((xs.length : Int) ≤ 9223372036854775807) := by obtain ⟨_, _, e, h1, _⟩ := ha; exact h1
  have h0 : Hid (Lk w sl c ns r ms dr kb memo) := h
  clear ha hb hl hm h
  go_enter Tryd.func18, Tryd.ntmps18
  go_wp2_with fail
  go_loopw [11] (fun k wr => ∃ (i : Nat) (memo1 : List Int), i ≤ xs.length ∧ k = .int .i64 i ∧ Hid (Lk wr sl c ns r ms dr kb memo1) ∧ Hid (w.grownBy wr (some kb))) (fun k _ => xs.length - (intOf k).toNat)
  case atStart => exact ⟨0, memo, Nat.zero_le _, rfl, h0, World.grownBy.refl _ _⟩
  case round =>
    obtain ⟨i, memo1, hi, rfl, HK, HG⟩ := hrel
    by_cases hlt : i < xs.length
    · obtain ⟨x, hx⟩ : ∃ x, xs[i]? = some x := ⟨xs[i], by simp [hlt]⟩
      obtain ⟨y, hy⟩ : ∃ y, ys[i]? = some y := ⟨ys[i]'(by have := HL.out; omega), by simp⟩
      obtain ⟨T, mx, my⟩ := HM.out i x y hx hy
      have hal := alike_m (sl := sl) (c := c) (r := r) (dr := dr) (kb := kb) mx my
      obtain ⟨b1, o1, cap1, e1, l1, c1, k1⟩ := (Ha.out.turned HG.out).item hx
      obtain ⟨b2, o2, cap2, e2, l2, c2, k2⟩ := (Hb.out.turned HG.out).item hy
      cases e1
      cases e2
      have e1 : wr.drew.cell? ⟨b1, o1 + i, none⟩ = some (.int .i64 x) := c1
      have e2 : wr.drew.cell? ⟨b2, o2 + i, none⟩ = some (.int .i64 y) := c2
      have hLd : Lk wr.drew sl c ns r ms dr kb memo1 := HK.out.below ((Below.refl _ _).drew)
      have hgd : w.grownBy wr.drew (some kb) := HG.out.trans (grown_of_below ((Below.refl _ _).drew) _)
      have i1 : (i : Int) < (xs.length : Int) := by omega
      have i2 : (i : Int) < (ys.length : Int) := by have := HL.out; omega
      have i0 : (0 : Int) ≤ (i : Int) := by omega
      have kw : IntKind.i64.wrap ((i : Int) + 1) = ((i + 1 : Nat) : Int) := by
        have := Hb63.out
        rw [show (i : Int) + 1 = ((i + 1 : Nat) : Int) by omega]; exact wrap_fit (by omega) (by omega)
      have Hal : Hid (Al2 sl c ns r ms dr kb x y) := hal
      clear hx hy mx my hal c1 c2
      go_wp2_with fail
      go_region_held3 (fun w' => w'.cell? ⟨b1, o1 + i, none⟩ = some (.int .i64 x) ∧ w'.cell? ⟨b2, o2 + i, none⟩ = some (.int .i64 y))
        (first | exact ⟨e1, e2⟩)
        (first
          | (go_at_call 19; refine (Hal.out _ _ hLd).mono ?_; rintro e w6 ⟨memo6, rfl, hL6, hg6⟩; replace e1 := hg6.cell e1 (fun e => k1 (by cases e; rfl)); replace e2 := hg6.cell e2 (fun e => k2 (by cases e; rfl)))
          | fail)
      have HL6 : Hid (Lk w6 sl c ns r ms dr kb memo6) := hL6
      have HG6 : Hid (w.grownBy w6 (some kb)) := hgd.trans hg6
      clear hL6 hg6 hgd hLd
      go_wp2_with fail
      go_roundw
      case rel => exact ⟨i + 1, memo6, by omega, by simp, HL6, HG6⟩
      case measure => simp [intOf]; omega
    · have e : ¬ (i : Int) < (xs.length : Int) := by omega
      go_wp2_with fail
      go_ret
      exact AlP.mk HK.out HG.out

end Go.Proofs.YtmcjincgppddeaaDoor
