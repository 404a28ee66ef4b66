/-
  The law TreeHoles: who comes behind a removal comes to the leaf that was freed, the leftmost first.
-/
import Derived.Test.YtdnopkpoepdihaaDoorGA
import Derived.Test.YtdnopkpoepdihaaDoorTW
namespace Go.Proofs.YtdnopkpoepdihaaDoor
open Go.RowKit
set_option linter.unusedSimpArgs false
set_option linter.unusedVariables false

/-- Sixty-four flags at a block. -/
structure Flags (w : World) (L : Nat) (p : Nat → Bool) : Prop where
  lt : L < w.heap.size
  cell : ∀ j, j < 64 → w.cell? ⟨L, j, none⟩ = some (.bool (p j))
  frozen : ∀ j, w.frozen? ⟨L, j, none⟩ = false

theorem Flags.below {w w' : World} {L : Nat} {p : Nat → Bool} (h : Flags w L p) (hb : Below w.heap.size w w') : Flags w' L p :=
  ⟨Nat.lt_of_lt_of_le h.lt hb.size, fun j hj => (hb.cell (p := ⟨L, j, none⟩) h.lt).trans (h.cell j hj), fun j => (hb.frozen (p := ⟨L, j, none⟩) h.lt).trans (h.frozen j)⟩

theorem cells_at {w : World} {b : Nat} {arr : Array Value} {e : TypeId} (h : w.heap[b]? = some (.cells arr e)) (j : Nat) : w.cell? ⟨b, j, none⟩ = arr[j]? ∧ w.frozen? ⟨b, j, none⟩ = false := by
  constructor
  · unfold World.cell?
    rw [h]
    rfl
  · unfold World.frozen?
    rw [h]
    simp

def sixty : Array Value := Array.replicate 64 (.bool false)
theorem make64 (w : World) : (Instr.makeSlice 63 (.int .i64 64) (.int .i64 64)).run Tryd.prog w = .ok (.slice (some ⟨w.heap.size, 0, none⟩) 64 64) (w.alloc (.cells sixty 4)) := by kernel_rfl
theorem Flags.new (w : World) : Flags (w.alloc (.cells sixty 4)) w.heap.size (fun _ => false) := by
  have hh : (w.alloc (.cells sixty 4)).heap[w.heap.size]? = some (.cells sixty 4) := heap_alloc_new w _
  refine ⟨by simp, fun j hj => (cells_at hh j).1.trans (by simp [sixty, hj]), fun j => (cells_at hh j).2⟩

theorem Flags.set {w : World} {L : Nat} {p : Nat → Bool} (h : Flags w L p) (k : Nat) (hk : k < 64) (b : Bool) : Flags (w.setCell ⟨L, k, none⟩ (.bool b)) L (fun j => if j = k then b else p j) := by
  refine ⟨by have := h.lt; simpa using this, fun j hj => ?_, fun j => ?_⟩
  · by_cases hjk : j = k
    · subst hjk
      rw [if_pos rfl]
      exact World.cell?_setCell_same' _ _ _ (by rw [h.cell j hj]; rfl)
    · rw [if_neg hjk, World.cell?_setCell_other _ _ _ _ (by simp [hjk])]
      exact h.cell j hj
  · rw [World.frozen?_setCell]
    exact h.frozen j

set_option maxRecDepth 100000 in
set_option maxHeartbeats 4000000 in
theorem holes_walk (u : PV) (h : Value) (n : Int) {w : World} {vg : Value} {G : List Int} (hG : IntsAt w vg G) (hT : Tab w) :
    Calls Tryd.prog 10 #[u.val h, .int .i64 n, vg] w fun e w' => e = .returned (.bool true) ∧ Below w.heap.size w w' := by
  have hN : ∀ W, Calls Tryd.prog 14 #[u.val h] W fun e w' => ∃ v, e = .returned v ∧ TreeAt w' v [leafV u] ∧ Below W.heap.size W w' := fun W => New_any u h W
  have hAd : ∀ {t : Tree} (hf : Fit t) {v : Value} {W : World} (ht : TreeAt W v t) (hT : Tab W), ¬ (least t = lv t ∧ lv t = 32) → Calls Tryd.prog 33 #[v, u.val h] W fun e w' => ∃ v' hs, e = .returned (.tuple #[v', .int .i64 (least t), .int .i64 0]) ∧ OwnT W.heap.size w' v' (addF t u) hs (addF t u).length ∧ Below W.heap.size W w' := by intro t hf v W ht hT hr; exact add_yes hf ht hT u h hr
  have hNo : ∀ {t : Tree} (hf : Fit t) {v : Value} {W : World} (ht : TreeAt W v t), least t = lv t → lv t = 32 → Calls Tryd.prog 33 #[v, u.val h] W fun e w' => e = .returned (.tuple #[.slice none 0 0, .int .i64 0, .int .i64 41]) ∧ Below W.heap.size W w' := by intro t hf v W ht h1 h2; exact add_no hf ht u h h1 h2
  unfold PV.val at *
  obtain ⟨w0, hw0⟩ : ∃ w0, w.alloc (.cells (leafCells u h) 24) = w0 := ⟨_, rfl⟩
  have b0 : Below w.heap.size w w0 := by rw [← hw0]; exact (Below.refl _ _).alloc (Nat.le_refl _) _
  have hT0 := hT.below b0 hT.size
  have hG0 := hG.below b0
  have q0 : w0.heap[w.heap.size]? = some (.cells (leafCells u h) 24) := by rw [← hw0]; exact heap_alloc_new w _
  have hsz0 : w.heap.size < w0.heap.size := by rw [← hw0]; simp
  have bc : ∀ W, Below w0.heap.size w0 W → ∀ j, W.cell? ⟨w.heap.size, j, none⟩ = (leafCells u h)[j]? := fun W hW j => by simp [World.cell?, (hW.block _ hsz0).trans q0]
  obtain ⟨ga, gcap, rfl, hgl, hgc⟩ := hG0
  unfold leafCells at hw0
  go_enter Tryd.func10, Tryd.ntmps10
  go_wp2_with (rw [hw0])
  refine (anchor_any hT0).mono ?_
  rintro e w1 ⟨rfl, b1⟩
  by_cases hn1 : n < 2
  · go_wp2_with fail
    go_ret
    exact ⟨rfl, on b0 b1⟩
  by_cases hn2 : 32 < n
  · go_wp2_with fail
    go_ret
    exact ⟨rfl, on b0 b1⟩
  by_cases hn3 : 40 < (G.length : Int)
  · go_wp2_with fail
    go_ret
    exact ⟨rfl, on b0 b1⟩
  have c0 := bc w1 b1 0
  have c1 := bc w1 b1 1
  have c2 := bc w1 b1 2
  have c3 := bc w1 b1 3
  have c4 := bc w1 b1 4
  have c5 := bc w1 b1 5
  simp [leafCells] at c0 c1 c2 c3 c4 c5
  obtain ⟨N, rfl⟩ : ∃ N : Nat, n = N := ⟨n.toNat, by omega⟩
  have Hbc : Hid (∀ W, Below w0.heap.size w0 W → ∀ j, W.cell? ⟨w.heap.size, j, none⟩ = (leafCells u h)[j]?) := bc
  clear bc
  go_wp2_with fail
  refine (hN w1).mono ?_
  rintro e w2 ⟨v2, rfl, ht2, b2⟩
  have b02 := on b1 b2
  clear c0 c1 c2 c3 c4 c5 hN
  go_wp2_with fail
  go_loopw [7, 8] (fun a q wr => ∃ (k : Nat) (t : Tree), (k : Int) ≤ N ∧ q = .int .i64 k ∧ Upto t k ∧ TreeAt wr a t ∧ Below w0.heap.size w0 wr) (fun _ q _ => N - (intOf q).toNat)
  case atStart => exact ⟨1, _, by omega, rfl, Upto.start u, ht2, b02⟩
  case round =>
    obtain ⟨k, t, hkN, rfl, hU, ht, hB⟩ := hrel
    have hTr := hT0.below hB hT0.size
    have hl := hU.least
    have hsz := hU.size
    have hge := p2_ge hU.most
    have hone := hU.one
    by_cases hlt : k < N
    · have i1 : (k : Int) < (N : Int) := by omega
      have c0 := Hbc.out wr hB 0
      have c1 := Hbc.out wr hB 1
      have c2 := Hbc.out wr hB 2
      have c3 := Hbc.out wr hB 3
      have c4 := Hbc.out wr hB 4
      have c5 := Hbc.out wr hB 5
      simp [leafCells] at c0 c1 c2 c3 c4 c5
      have hk : k < 32 := by omega
      obtain ⟨hU2, hr⟩ := hU.add hk u
      have hA := hAd hU.good.fit ht hTr hr
      rw [hl] at hA
      go_wp2_with fail
      refine hA.mono ?_
      rintro e w3 ⟨v3, hs3, rfl, o3, b3⟩
      have ht3 := o3.treeF hU2.good.fit
      go_wp2_with fail
      go_roundw
      case rel => exact ⟨k + 1, _, by omega, by go_num, hU2, ht3, hB.trans (b3.mono hB.size)⟩
      case measure => simp [intOf]; omega
    · have hkN' : k = N := by omega
      subst hkN'
      have HT : Hid (TreeAt wr u7 t) := ht
      have HU : Hid (Upto t k) := hU
      have HG : Hid (G ≠ [] → ∃ b off, ga = some ⟨b, off, none⟩ ∧ b < w0.heap.size ∧ ∀ (i : Nat) (x : Int), G[i]? = some x → w0.cell? ⟨b, off + i, none⟩ = some (.int .i64 x)) := hgc
      clear ht hU hgc
      have hmk := make64 wr
      obtain ⟨w3, hw3⟩ : ∃ w3, wr.alloc (.cells sixty 4) = w3 := ⟨_, rfl⟩
      rw [hw3] at hmk
      have b3 : Below wr.heap.size wr w3 := by rw [← hw3]; exact (Below.refl _ _).alloc (Nat.le_refl _) _
      have F3 : Flags w3 wr.heap.size (fun _ => false) := by rw [← hw3]; exact Flags.new wr
      obtain ⟨L, hL⟩ : ∃ L, wr.heap.size = L := ⟨_, rfl⟩
      have P3 : TreeP (fun b => b ≠ L) w3 u7 t := (HT.out.p.imp (fun b hb _ => by omega)).below b3
      have hLw : w0.heap.size ≤ L := by rw [← hL]; exact hB.size
      have B3 : Below w0.heap.size w0 w3 := hB.trans (b3.mono hB.size)
      rw [hL] at hmk F3
      have HX : Hid (wr.heap.size = L) := hL
      clear hw3 hL
      go_wp2_with fail
      go_loopw [10] (fun q wx => ∃ j : Nat, j ≤ k ∧ q = .int .i64 j ∧ Flags wx L (fun i => decide (i < j)) ∧ TreeP (fun b => b ≠ L) wx u7 t ∧ Below w0.heap.size w0 wx) (fun q _ => k - (intOf q).toNat)
      case atStart => exact ⟨0, Nat.zero_le _, rfl, by simpa using F3, P3, B3⟩
      case round =>
        obtain ⟨j, hj, rfl, F4, P4, B4⟩ := hrel
        by_cases hlt4 : j < k
        · have i1 : (j : Int) < (k : Int) := by omega
          have F5 := F4.set j (by omega) true
          have P5 := P4.set (p := ⟨L, j, none⟩) (by simp) (.bool true)
          have B5 := B4.setCell (p := ⟨L, j, none⟩) hLw (.bool true)
          have e5 : (fun i => if i = j then true else decide (i < j)) = fun i => decide (i < j + 1) := by
            funext i
            by_cases h1 : i = j
            · simp [h1]
            · have : (i < j + 1) ↔ (i < j) := by omega
              simp [h1, this]
          rw [e5] at F5
          have cj := F4.cell j (by omega)
          have fj := F4.frozen j
          have HF : Hid (Flags (wr.setCell ⟨L, j, none⟩ (.bool true)) L (fun i => decide (i < j + 1)) ∧ TreeP (fun b => b ≠ L) (wr.setCell ⟨L, j, none⟩ (.bool true)) u7 t ∧ Below w0.heap.size w0 (wr.setCell ⟨L, j, none⟩ (.bool true))) := ⟨F5, P5, B5⟩
          clear F5 P5 B5 e5 F4 P4
          go_wp2_with fail
          go_roundw
          case rel => exact ⟨j + 1, by omega, by go_num, HF.out⟩
          case measure => simp [intOf]; omega
        · have hjk : j = k := by omega
          subst hjk
          have hU := HU.out
          have hkl : j ≤ lv t := by omega
          have eF : (fun i => decide (i < j)) = isF t := by
            funext i
            unfold isF
            by_cases h1 : i < lv t
            · rw [hU.full i h1]; simp [h1]
            · have : ¬ i < j := by omega
              simp [h1, this]
          rw [eF] at F4
          have hmem := hU.members
          have hgood := hU.good
          clear hU eF
          go_wp2_with fail
          go_loopw [7, 11, 60] (fun a m q wx => ∃ (i : Nat) (T : Tree), i ≤ G.length ∧ q = .int .i64 i ∧ Good T ∧ m = .int .i64 (members T).length ∧ Flags wx L (isF T) ∧ TreeP (fun b => b ≠ L) wx a T ∧ Below w0.heap.size w0 wx) (fun _ _ q _ => G.length - (intOf q).toNat)
          case atStart => exact ⟨0, t, Nat.zero_le _, rfl, hgood, by rw [hmem], F4, P4, B4⟩
          case round =>
            obtain ⟨i, T, hi, rfl, hgT, rfl, F6, P6, B6⟩ := hrel
            have hfT := hgT.fit
            have hTT := hT0.below B6 hT0.size
            have hbT := hfT.sh.bounds
            have hLs := F6.lt
            have hml := membersN_len T (lv T)
            have hml2 : (members T).length ≤ 32 := by unfold members; omega
            by_cases hlti : i < G.length
            · obtain ⟨y, hy⟩ : ∃ y, G[i]? = some y := ⟨G[i], by simp [hlti]⟩
              obtain ⟨gb, goff, hga, hgbl, hgcell⟩ := HG.out (by rintro rfl; simp at hy)
              subst hga
              have cy := (B6.cell (p := ⟨gb, goff + i, none⟩) hgbl).trans (hgcell i y hy)
              have i6 : (i : Int) < (G.length : Int) := by omega
              clear hgcell hy
              cases hfy : fullB T y with
              | false =>
                have hRm := remove_no hfT P6.tree y hfy
                go_wp2_with fail
                refine hRm.mono ?_
                rintro e w7 ⟨rfl, b7⟩
                have F7 := F6.below b7
                have HF : Hid (Flags w7 L (isF T) ∧ TreeP (fun b => b ≠ L) w7 u7 T ∧ Below w0.heap.size w0 w7) := ⟨F7, P6.below b7, B6.trans (b7.mono B6.size)⟩
                by_cases hy0 : 0 ≤ y
                · by_cases hy1 : y < 64
                  · have hc := F7.cell y.toNat (by omega)
                    have hff : isF T y.toNat = false := by rw [isF_fullB, Int.toNat_of_nonneg hy0]; exact hfy
                    rw [hff] at hc
                    have c7' : w7.cell? ⟨L, (max 0 (min y 63)).toNat, none⟩ = some (.bool false) := by
                      rw [show (max 0 (min y 63)).toNat = y.toNat by omega]
                      exact hc
                    clear hc F7 F6 P6
                    go_wp2_with fail
                    go_roundw
                    case rel => exact ⟨i + 1, T, by omega, by go_num, hgT, rfl, HF.out⟩
                    case measure => simp [intOf]; omega
                  · clear F7 F6 P6
                    go_wp2_with fail
                    go_roundw
                    case rel => exact ⟨i + 1, T, by omega, by go_num, hgT, rfl, HF.out⟩
                    case measure => simp [intOf]; omega
                · clear F7 F6 P6
                  go_wp2_with fail
                  go_roundw
                  case rel => exact ⟨i + 1, T, by omega, by go_num, hgT, rfl, HF.out⟩
                  case measure => simp [intOf]; omega
              | true =>
                obtain ⟨K, rfl, hK, hKf⟩ := fullB_nat hfy
                by_cases hm1 : (members T).length = 1
                · have hRm := remove_only hfT P6.tree K hfy hm1
                  have HM : Hid ((members T).length = 1) := hm1
                  have hm2 : ¬ ((1 : Int) < ((members T).length : Int)) := by omega
                  clear hm1
                  go_wp2_with fail
                  refine hRm.mono ?_
                  rintro e w7 ⟨rfl, b7⟩
                  have F7 := F6.below b7
                  have HF : Hid (Flags w7 L (isF T) ∧ TreeP (fun b => b ≠ L) w7 u7 T ∧ Below w0.heap.size w0 w7) := ⟨F7, P6.below b7, B6.trans (b7.mono B6.size)⟩
                  have hc := F7.cell K (by omega)
                  rw [show isF T K = true by rw [isF_fullB]; exact hfy] at hc
                  have c7' : w7.cell? ⟨L, (max 0 (min (K : Int) 63)).toNat, none⟩ = some (.bool true) := by
                    rw [show (max 0 (min (K : Int) 63)).toNat = K by omega]
                    exact hc
                  have i7 : (K : Int) < 64 := by omega
                  clear hc F7 F6 P6
                  go_wp2_with fail
                  go_roundw
                  case rel => exact ⟨i + 1, T, by omega, by go_num, hgT, rfl, HF.out⟩
                  case measure => simp [intOf]; omega
                · have hRm := remove_p hfT P6.tree hTT K hfy hm1
                  have hF : isF T K = true := by rw [isF_fullB]; exact hfy
                  have hmpos : 0 < (members T).length := List.length_pos_of_mem (mem_members.2 hfy)
                  obtain ⟨hg2, hF2⟩ := rem_all hgT hF hm1
                  have hl2 := members_less hfT.sh hg2.sh hF hF2
                  have hcK := F6.cell K (by omega)
                  rw [hF] at hcK
                  have i7 : (K : Int) < 64 := by omega
                  have i8 : (1 : Int) < ((members T).length : Int) := by omega
                  go_wp2_with fail
                  refine hRm.mono ?_
                  rintro e w7 ⟨v7, rfl, P7, b7⟩
                  have F7 := F6.below b7
                  have c7 := F7.cell K (by omega)
                  rw [hF] at c7
                  have f7 := F7.frozen K
                  have h63 : ¬ ((63 : Int) < (K : Int)) := by omega
                  have F8 := F7.set K (by omega) false
                  rw [show (fun j => if j = K then false else isF T j) = isF (remF T K) by funext j; rw [hF2 j]; by_cases hq : j = K <;> simp [hq]] at F8
                  have P8 := (P7.imp (r := fun b => b ≠ L) (fun b _ hb => by omega)).set (p := ⟨L, K, none⟩) (by simp) (.bool false)
                  have B8 := (B6.trans (b7.mono B6.size)).setCell (p := ⟨L, K, none⟩) hLw (.bool false)
                  have HF : Hid (Good (remF T K) ∧ (((members T).length : Int) - 1 = ((members (remF T K)).length : Int)) ∧ Flags (w7.setCell ⟨L, K, none⟩ (.bool false)) L (isF (remF T K)) ∧ TreeP (fun b => b ≠ L) (w7.setCell ⟨L, K, none⟩ (.bool false)) v7 (remF T K) ∧ Below w0.heap.size w0 (w7.setCell ⟨L, K, none⟩ (.bool false))) := ⟨hg2, by omega, F8, P8, B8⟩
                  clear F8 P8 B8 hg2 hl2 hF2 P7 hcK F6 P6 F7
                  have c7' : w7.cell? ⟨L, (max 0 (min (K : Int) 63)).toNat, none⟩ = some (.bool true) := by
                    rw [show (max 0 (min (K : Int) 63)).toNat = K by omega]
                    exact c7
                  go_wp2_with fail
                  go_roundw
                  case rel => exact ⟨i + 1, _, by omega, by go_num, HF.out.1, by rw [HF.out.2.1], HF.out.2.2⟩
                  case measure => simp [intOf]; omega
            · have hls := least_spec T
              have hl32 : least T ≤ 32 := by omega
              have hFl : ∀ q, q < least T → isF T q = true := fun q hq => by
                have := hls.2.1 q hq
                simp [isF, this]; omega
              have hFe : isF T (least T) = false := by
                unfold isF
                by_cases hq : least T < lv T
                · rw [hls.2.2 hq]; simp
                · simp [hq]
              have HFl : Hid (∀ q, q < least T → isF T q = true) := hFl
              have HC : Hid (∀ j, j < 64 → wr.cell? ⟨L, j, none⟩ = some (.bool (isF T j))) := F6.cell
              have HP : Hid (TreeP (fun b => b ≠ L) wr u7 T) := P6
              have c0 := Hbc.out wr B6 0
              have c1 := Hbc.out wr B6 1
              have c2 := Hbc.out wr B6 2
              have c3 := Hbc.out wr B6 3
              have c4 := Hbc.out wr B6 4
              have c5 := Hbc.out wr B6 5
              simp [leafCells] at c0 c1 c2 c3 c4 c5
              have hle0 := hls.1
              clear hFl F6 P6 hls
              go_wp2_with fail
              go_loop [17] (fun q => ∃ x : Nat, x ≤ least T ∧ q = .int .i64 x) (fun q => 33 - (intOf q).toNat)
              case atStart => exact ⟨0, Nat.zero_le _, rfl⟩
              case round =>
                obtain ⟨x, hx, rfl⟩ := hrel
                have cx := HC.out x (by omega)
                have ix : (x : Int) < 64 := by omega
                by_cases hxl : x < least T
                · rw [HFl.out x hxl] at cx
                  go_wp2_with fail
                  exact ⟨⟨x + 1, by omega, by go_num⟩, by simp [intOf]; omega⟩
                · have hxe : x = least T := by omega
                  subst hxe
                  rw [hFe] at cx
                  by_cases h32 : least T = 32
                  · have hA := hNo hfT HP.out.tree (by omega) (by omega)
                    have H32 : Hid (least T = 32) := h32
                    have e32 : ((least T : Int) == 32) = true := by simp [h32]
                    clear h32
                    go_wp2_with fail
                    refine hA.mono ?_
                    rintro e w8 ⟨rfl, b8⟩
                    go_wp2_with fail
                    go_ret
                    exact ⟨rfl, on b0 (B6.trans (b8.mono B6.size))⟩
                  · have hA := hAd hfT HP.out.tree hTT (by omega)
                    have e32 : ((least T : Int) == 32) = false := by simp; omega
                    go_wp2_with fail
                    refine hA.mono ?_
                    rintro e w8 ⟨v8, hs8, rfl, o8, b8⟩
                    go_wp2_with fail
                    go_ret
                    exact ⟨by simp, on b0 (B6.trans (b8.mono B6.size))⟩

end Go.Proofs.YtdnopkpoepdihaaDoor
