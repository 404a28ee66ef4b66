/-
  A number put into a rising list: package tree's withNumber.
-/
import Derived.Test.YtdnopkpoepdihaaDoorTF
import Derived.Test.YtdnopkpoepdihaaDoorSf
namespace Go.Proofs.YtdnopkpoepdihaaDoor
open Go.RowKit
set_option linter.unusedSimpArgs false
set_option linter.unusedVariables false

theorem countP_zero {i : Int} : ∀ {l : List Int}, (∀ k ∈ l, i ≤ k) → l.countP (· < i) = 0
  | [], _ => rfl
  | k :: r, h => by
    have h1 := h k (by simp)
    have h2 := countP_zero (i := i) (l := r) (fun x hx => h x (by simp [hx]))
    rw [List.countP_cons_of_neg (by simp; omega), h2]

theorem ins_head {i : Int} : ∀ {l : List Int}, (∀ k ∈ l, i < k) → ins i l = i :: l
  | [], _ => rfl
  | k :: r, h => by
    have h1 := h k (by simp)
    unfold ins
    rw [if_pos h1]

theorem ins_eq (i : Int) : ∀ {l : List Int}, l.Pairwise (· < ·) → ins i l = l.take (l.countP (· < i)) ++ i :: l.drop (l.countP (· < i))
  | [], _ => rfl
  | k :: r, h => by
    have h1 : ∀ a ∈ r, k < a := fun a ha => List.rel_of_pairwise_cons h ha
    have ih := ins_eq i (List.Pairwise.of_cons h)
    by_cases hk : k < i
    · rw [List.countP_cons_of_pos (by simpa using hk)]
      unfold ins
      rw [if_neg (by omega), ih]
      simp
    · rw [List.countP_cons_of_neg (by simpa using hk), countP_zero (fun x hx => by have := h1 x hx; omega)]
      unfold ins
      by_cases hk2 : k > i
      · rw [if_pos hk2]; simp
      · rw [if_neg hk2]
        have : k = i := by omega
        subst this
        rw [ins_head (fun x hx => h1 x hx)]
        simp

theorem grown_trans {a b c : World} {row : Option Nat} (g1 : a.grownBy b row) (g2 : b.grownBy c row) : a.grownBy c row :=
  ⟨g2.os.trans g1.os, g2.tape.trans g1.tape, g2.output.trans g1.output, Nat.le_trans g1.size g2.size, fun k hk hne => (g2.block k (Nat.lt_of_lt_of_le hk g1.size) hne).trans (g1.block k hk hne)⟩
theorem grown_drew {a b : World} {row : Option Nat} (g1 : a.drew.grownBy b row) : a.grownBy b row := ⟨g1.os, g1.tape, g1.output, g1.size, g1.block⟩
theorem grown_new (w : World) (o : Obj) (row : Option Nat) : w.grownBy (w.drew.alloc o) row :=
  ⟨rfl, rfl, rfl, by simp, fun k hk _ => by
    have := World.grownBy_alloc w.drew o none
    exact this.block k hk (by simp)⟩

theorem cut_eq (l : List Int) (i : Int) (p : Nat) (hp : p ≤ l.length) : (l.map (Value.int .i64)).take p ++ Value.int .i64 i :: (l.map (Value.int .i64)).drop p = (l.take p ++ i :: l.drop p).map (Value.int .i64) := by
  simp [List.map_take, List.map_drop]

theorem setAll_two (cur : List Value) (p : Nat) (x : Value) (n : Nat) (hp : p ≤ n) (hn : n + 1 ≤ cur.length) : (setAll (setAll cur (p + 1) ((cur.take n).drop p)) p [x]).take (n + 1) = cur.take p ++ x :: (cur.take n).drop p := by
  have hdl : ((cur.take n).drop p).length = n - p := by simp; omega
  have h1 := setAll_take ((cur.take n).drop p) cur (p + 1) (by omega)
  rw [hdl, show p + 1 + (n - p) = n + 1 by omega] at h1
  simp only [setAll]
  rw [List.take_set, h1]
  rw [List.take_add_one, List.append_assoc, List.set_append_right _ _ (by simp; omega)]
  have : (cur.take p).length = p := by simp; omega
  rw [this, Nat.sub_self]
  have hpl : p < cur.length := by omega
  simp [List.getElem?_eq_getElem hpl]

/-- A new row, with what is behind its values. -/
theorem row_new (w : World) {B e size : Nat} (hB : B ≤ w.heap.size) (xs : List Value) (Z : Array Value) (n G : Nat) (hx : xs.length = n * size) (hz : Z.size = (G - n) * size) (hn : n ≤ G) (hG : G ≤ maxLen) :
    (w.alloc (.cells (xs.toArray ++ Z) e)).ownsRow B e size (.slice (some ⟨w.heap.size, 0, none⟩) n G) n xs := by
  refine ⟨hx, .inr ⟨w.heap.size, G, _, rfl, hB, heap_alloc_new w _, hn, hG, ?_, ?_⟩⟩
  · simp only [Array.size_append, List.size_toArray, hx, hz]
    rw [← Nat.add_mul]
    congr 1
    omega
  · simp only [Array.toList_append]
    rw [List.take_append_of_le_length (by simp [hx]), List.take_of_length_le (by simp [hx])]

theorem zeroI_size (k : Nat) : (Builtin.zeroCells (Value.int .i64 0).cells k).size = k * 1 := by simp [Builtin.zeroCells, Value.cells]

set_option maxHeartbeats 2000000 in
theorem insert_own {B : Nat} {w : World} {v : Value} {l : List Int} (ho : OwnI B w v l) (hB : B ≤ w.heap.size) (hl : l.length ≤ 64) (p : Nat) (hp : p ≤ l.length) (i : Int) (vb : Nat) (hvb : w.heap[vb]? = some (.cells #[.int .i64 i] 3)) (hne : v.ownBlock ≠ some vb) :
    Calls Tryd.prog 84 #[v, .int .i64 p, .slice (some ⟨vb, 0, none⟩) 1 1] w fun e w' => ∃ v', e = .returned v' ∧ OwnI B w' v' (l.take p ++ i :: l.drop p) ∧ w.grownBy w' v.ownBlock ∧ (v'.ownBlock = v.ownBlock ∨ v'.ownBlock = some w.heap.size) := by
  have cvb : ∀ j u, [Value.int .i64 i][j]? = some u → w.cell? ⟨vb, 0 + j, none⟩ = some u := by
    intro j u hj
    cases j with
    | zero => simp at hj; subst hj; simp [World.cell?, hvb]
    | succ k => simp at hj
  have hone := one_int i
  have hlen2 : (l.take p ++ i :: l.drop p).length = l.length + 1 := by simp; omega
  have hmx : ∀ n, n ≤ 65 → n ≤ maxLen := fun n hn => by unfold maxLen; omega
  rcases ho.2 with ⟨rfl, hn0⟩ | ⟨g, cap, cur, rfl, hbg, hgg, hnc, hcm, hcs, htake⟩
  · have hl0 : l = [] := List.eq_nil_of_length_eq_zero hn0
    subst hl0
    obtain rfl : p = 0 := by simpa using hp
    refine (Any2.slices_Insert_int_end_grow insLays none 0 0 vb 0 1 1 [] [.int .i64 i] w (by omega) (by omega) (by omega) (by omega) rfl rfl (fun _ => rfl) (fun a h => by cases h) cvb hone).mono ?_
    rintro e w' ⟨rfl, rfl⟩
    have hge := grownCap_ge w (0 + 1) 0 3
    have hle := grownCap_le_maxLen w (0 + 1) 0 3 (hmx _ (by omega))
    exact ⟨_, rfl, row_new w.drew hB [.int .i64 i] _ 1 (grownCap w (0 + 1) 0 3) (by simp) (zeroI_size _) hge hle, grown_new w _ _, .inr rfl⟩
  · have hrow : w.ownsRow B 3 1 (.slice (some ⟨g, 0, none⟩) l.length cap) l.length (l.map (Value.int .i64)) := ho
    have hcl : ∀ j u, (l.map (Value.int .i64))[j]? = some u → w.cell? ⟨g, 0 + j, none⟩ = some u := by
      intro j u hj
      have hjl := (List.getElem?_eq_some_iff.1 hj).1
      rw [Nat.zero_add, hrow.cellAt j (by simpa using hjl)]
      exact hj
    have h1c : ∀ u ∈ l.map (Value.int .i64), u.oneCell' = true := by intro u hu; simp at hu; obtain ⟨x, _, rfl⟩ := hu; rfl
    have hgvb : vb ≠ g := by intro e; apply hne; simp [Value.ownBlock, e]
    obtain ⟨cur', ht', _, _, hcl', hfull⟩ := row_full hrow
    have hsome : ∀ j, j < cap → (w.cell? ⟨g, 0 + j, none⟩).isSome = true := by
      intro j hj
      rw [Nat.zero_add, hfull.cellAt j (by omega), List.getElem?_eq_getElem (by omega)]
      rfl
    have hfz : ∀ j, w.frozen? ⟨g, 0 + j, none⟩ = false := fun j => hrow.frozenAt _
    have hcap63 : cap ≤ 9223372036854775807 := hcm
    have hob : (Value.slice (some ⟨g, 0, none⟩) l.length cap).ownBlock = some g := rfl
    by_cases hpn : p = l.length
    · subst hpn
      have e0 : l.take l.length ++ i :: l.drop l.length = l ++ [i] := by simp
      rw [e0]
      by_cases hroom : l.length + 1 ≤ cap
      · refine (Any2.slices_Insert_int_end_room insLays g 0 l.length cap vb 0 1 1 [.int .i64 i] w (by omega) hroom hcap63 rfl (fun j hj => by rw [show 0 + l.length + j = 0 + (l.length + j) by omega]; exact hsome _ (by omega)) (fun j hj => by rw [show 0 + l.length + j = 0 + (l.length + j) by omega]; exact hfz _) cvb hone).mono ?_
        rintro e w' ⟨rfl, rfl⟩
        obtain ⟨r1, r2⟩ := stored_all (w := w) [.int .i64 i] (0 + l.length) w _ hfull
        have r3 := row_cut r1 (l.length + 1) hroom
        have e1 := setAll_take [Value.int .i64 i] cur' (0 + l.length) (by simp; omega)
        simp only [List.length_cons, List.length_nil, Nat.zero_add, Nat.mul_one] at e1 r3 ht'
        rw [e1, ht'] at r3
        exact ⟨_, rfl, by simpa [OwnI] using r3, r2, .inl rfl⟩
      · refine (Any2.slices_Insert_int_end_grow insLays (some ⟨g, 0, none⟩) l.length cap vb 0 1 1 (l.map (Value.int .i64)) [.int .i64 i] w (by omega) hnc (by omega) (by omega) (by simp) rfl (fun h => by cases h) (fun a h j u hj => by cases h; rw [show (⟨g, 0, none⟩ : Addr).add j = ⟨g, 0 + j, none⟩ by unfold Addr.add; split <;> simp_all]; exact hcl j u hj) cvb hone).mono ?_
        rintro e w' ⟨rfl, rfl⟩
        have hge := grownCap_ge w (l.length + 1) cap 3
        have hle := grownCap_le_maxLen w (l.length + 1) cap 3 (hmx _ (by omega))
        simp only [show insRen.t 3 = 3 from rfl]
        exact ⟨_, rfl, by
          have r := row_new w.drew (e := 3) hB (l.map (Value.int .i64) ++ [.int .i64 i]) _ (l.length + 1) (grownCap w (l.length + 1) cap 3) (by simp) (zeroI_size (grownCap w (l.length + 1) cap 3 - (l.length + 1))) hge hle
          simpa [OwnI] using r, grown_new w _ _, .inr rfl⟩
    · have hplt : p < l.length := by omega
      by_cases hroom : l.length + 1 ≤ cap
      · refine (Any2.slices_Insert_int_shift insLays g 0 l.length cap p vb 0 1 1 (l.map (Value.int .i64)) [.int .i64 i] w hplt (by omega) hroom hcap63 hgvb (by simp) rfl hcl (fun j hj => hsome j (by omega)) (fun j _ => hfz j) cvb h1c hone 3 3 1 cur.size (by simp [World.shape?, hvb]) (by simp [World.shape?, hgg]) (by rw [hcs]; omega) (by simp [World.frozen?, hvb]) (by simp [World.frozen?, hvb])).mono ?_
        rintro e w' ⟨rfl, rfl⟩
        obtain ⟨r1, r2⟩ := stored_all (w := w) ((l.map (Value.int .i64)).drop p) (0 + (p + 1)) w.drew _ hfull.drew
        obtain ⟨r3, r4⟩ := stored_all (w := w) [.int .i64 i] (0 + p) _ _ r1
        have r5 := row_cut r3 (l.length + 1) hroom
        have ht2 : cur'.take l.length = l.map (Value.int .i64) := by simpa using ht'
        have e1 := setAll_two cur' p (.int .i64 i) l.length hp (by omega)
        rw [ht2] at e1
        simp only [Nat.zero_add, Nat.mul_one] at r5
        rw [e1, show cur'.take p = (l.map (Value.int .i64)).take p by rw [← ht2, List.take_take, Nat.min_eq_left hp], cut_eq l i p hp] at r5
        refine ⟨_, rfl, by rw [OwnI, hlen2]; simpa only [Nat.zero_add] using r5, grown_drew (grown_trans r2 r4), .inl rfl⟩
      · refine (Any2.slices_Insert_int_grow insLays g 0 l.length cap p vb 0 1 1 (l.map (Value.int .i64)) [.int .i64 i] w hplt (by omega) hnc (by omega) (by omega) (by simp) rfl hcl cvb h1c hone).mono ?_
        rintro e w' ⟨rfl, rfl⟩
        have hge := grownCap_ge w (l.length + 1) cap 3
        have hle := grownCap_le_maxLen w (l.length + 1) cap 3 (hmx _ (by omega))
        simp only [show insRen.t 3 = 3 from rfl]
        obtain ⟨G, hG⟩ : ∃ G, grownCap w (l.length + 1) cap 3 = G := ⟨_, rfl⟩
        rw [hG] at hge hle ⊢
        obtain ⟨R, hR⟩ : ∃ R : Array Value, ((l.map (Value.int .i64)).take p).toArray ++ Builtin.zeroCells (Value.int .i64 0).cells (l.length + 1 - p) ++ Builtin.zeroCells (Value.int .i64 0).cells (G - (l.length + 1)) = R := ⟨_, rfl⟩
        rw [hR]
        have hRs : R.size = G := by
          rw [← hR]
          simp only [Array.size_append, zeroI_size, List.size_toArray, List.length_take, List.length_map]
          omega
        have hRt : R.toList.take p = (l.map (Value.int .i64)).take p := by
          rw [← hR]
          simp only [Array.toList_append, List.append_assoc]
          rw [List.take_append_of_le_length (by simp; omega), List.take_of_length_le (by simp; omega)]
        have r0 : (w.alloc (.cells R 3)).ownsRow B 3 1 (.slice (some ⟨w.heap.size, 0, none⟩) G G) G R.toList := by
          have := row_new w (e := 3) (size := 1) hB R.toList #[] G G (by simp [hRs]) (by simp) (Nat.le_refl _) hle
          simpa using this
        obtain ⟨r1, r2⟩ := stored_all (w := w) [.int .i64 i] p _ _ r0.drew
        obtain ⟨r3, r4⟩ := stored_all (w := w) ((l.map (Value.int .i64)).drop p) (p + 1) _ _ r1.drew
        have r5 := row_cut r3 (l.length + 1) hge
        have hdl : ((l.map (Value.int .i64)).drop p).length = l.length - p := by simp
        have e1 := setAll_take ((l.map (Value.int .i64)).drop p) (setAll R.toList p [.int .i64 i]) (p + 1) (by rw [setAll_len, hdl]; simp [hRs]; omega)
        have e2 := setAll_take [Value.int .i64 i] R.toList p (by simp [hRs]; omega)
        rw [hdl, show p + 1 + (l.length - p) = l.length + 1 by omega] at e1
        simp only [List.length_cons, List.length_nil, Nat.zero_add] at e2
        rw [Nat.mul_one, e1, e2, hRt, List.append_assoc, List.singleton_append, cut_eq l i p hp] at r5
        refine ⟨_, rfl, by rw [OwnI, hlen2]; exact r5, ?_, .inr rfl⟩
        have gA := World.grownBy_alloc w (.cells R 3) none
        refine ⟨r4.os.trans (r2.os.trans gA.os), r4.tape.trans (r2.tape.trans gA.tape), r4.output.trans (r2.output.trans gA.output), Nat.le_trans gA.size (Nat.le_trans r2.size r4.size), fun k hk _ => ?_⟩
        have hkn : (some k : Option Nat) ≠ some w.heap.size := by simp; omega
        have hk1 : k < (w.alloc (.cells R 3)).heap.size := Nat.lt_of_lt_of_le hk gA.size
        exact (r4.block k (Nat.lt_of_lt_of_le hk1 r2.size) hkn).trans ((r2.block k hk1 hkn).trans (gA.block k hk (by simp)))

theorem search_own {B : Nat} {w : World} {v : Value} {l : List Int} (ho : OwnI B w v l) (hl : l.length ≤ 64) (hs : l.Pairwise (· < ·)) (i : Int) :
    Calls Tryd.prog 83 #[v, .int .i64 i] w fun e w' => ∃ f, e = .returned (.tuple #[.int .i64 (l.countP (· < i) : Nat), .bool f]) ∧ ∃ q, w' = w.drewN q := by
  rcases ho.2 with ⟨rfl, hn0⟩ | ⟨g, cap, cur, rfl, hbg, hgg, hnc, hcm, hcs, htake⟩
  · have hl0 : l = [] := List.eq_nil_of_length_eq_zero hn0
    subst hl0
    refine (bsearch_empty none 0 i w).mono ?_
    rintro e w' ⟨rfl, rfl⟩
    exact ⟨_, rfl, 0, rfl⟩
  · have hrow : w.ownsRow B 3 1 (.slice (some ⟨g, 0, none⟩) l.length cap) l.length (l.map (Value.int .i64)) := ho
    have := bsearch g 0 l.length cap l i w (Nat.le_refl _) (by omega) (fun j hj => by
      rw [Nat.zero_add, hrow.cellAt j (by omega)]
      simp [hj]) (by rw [List.take_length]; exact hs.imp (fun h => by omega))
    rw [List.take_length] at this
    refine this.mono ?_
    rintro e w' ⟨rfl, hq⟩
    exact ⟨_, rfl, hq⟩

set_option maxRecDepth 100000 in
set_option maxHeartbeats 2000000 in
theorem withNumber_any {B : Nat} {w : World} {v : Value} {l : List Int} (ho : OwnI B w v l) (hB : B ≤ w.heap.size) (hl : l.length ≤ 64) (hs : l.Pairwise (· < ·)) (i : Int) :
    Calls Tryd.prog 63 #[v, .int .i64 i] w fun e w' => ∃ v', e = .returned v' ∧ OwnI B w' v' (ins i l) ∧ w.grownBy w' v.ownBlock ∧ (v'.ownBlock = v.ownBlock ∨ ∃ N, v'.ownBlock = some N ∧ w.heap.size ≤ N) := by
  have hlt := fun k hk => (ho.lt k hk).2
  go_enter Tryd.func63, Tryd.ntmps63
  go_wp2_with fail
  refine (search_own ho hl hs i).mono ?_
  rintro e w1 ⟨f, rfl, q, rfl⟩
  have hB1 : Below w.heap.size w (w.drewN q) := ⟨rfl, rfl, rfl, Nat.le_refl _, fun _ _ => rfl⟩
  have b2 : Below w.heap.size w ((w.drewN q).alloc (.cells #[.int .i64 i] 3)) := hB1.alloc (Nat.le_refl _) _
  have o2 := row_below ho b2
  have hi := insert_own o2 (Nat.le_trans hB b2.size) hl (l.countP (· < i)) List.countP_le_length i w.heap.size (heap_alloc_new (w.drewN q) _) (fun e => by have := hlt _ e; omega)
  rw [← ins_eq i hs] at hi
  go_wp2_with fail
  refine hi.mono ?_
  rintro e w3 ⟨v3, rfl, o3, g3, l3⟩
  go_wp2_with fail
  go_ret
  refine ⟨_, rfl, o3, ?_, ?_⟩
  · exact ⟨g3.os.trans b2.os, g3.tape.trans b2.tape, g3.output.trans b2.output, Nat.le_trans b2.size g3.size, fun k hk hne => (g3.block k (Nat.lt_of_lt_of_le hk b2.size) hne).trans (b2.block k hk)⟩
  · rcases l3 with h | h
    · exact .inl h
    · exact .inr ⟨_, h, b2.size⟩

end Go.Proofs.YtdnopkpoepdihaaDoor
