/-
  The hash of every place of any right tree, the tree hash and numbers are made as the document says.
-/
import Derived.Test.YtmcjincgppddeaaDoorAK
import Derived.Test.YtmcjincgppddeaaDoorFM
import Derived.Test.YtmcjincgppddeaaDoorGC
import Derived.Test.YtmcjincgppddeaaDoorFDg
namespace Go.Proofs.YtmcjincgppddeaaDoor
open Go.RowKit
set_option linter.unusedSimpArgs false
set_option linter.unusedVariables false

/-- The hashes that were found so far. -/
structure Got (w4 : World) (s : Nat) (t : Tree) (x : Nat) (W : World) (ns : List Nd) (v : Value) (l : List Int) : Prop where
  run : Run s w4 W (atoms 90) ns 90 (sumC x)
  own : Own2 w4.heap.size W s v l.length (l.map (Value.int .i64))
  len : l.length = x
  mean : ∀ (i : Nat) (y : Int), l[i]? = some y → Means ns y (hashT Tm.atom t 6 i)

theorem Got.next {w4 W W1 W2 : World} {s : Nat} {t : Tree} {ns ns1 : List Nd} {x : Nat} {v v' : Value} {l : List Int} {y : Int} {o : Obj} (h : Got w4 s t x W ns v l) (h2 : 2 < w4.heap.size) (k : Run s W W1 ns ns1 90 (cst x)) (hm : Means ns1 y (hashT Tm.atom t 6 x))
    (ho : W2.ownsRow w4.heap.size 3 1 v' (l.length + 1) (l.map (Value.int .i64) ++ [.int .i64 y])) (hg : (W1.alloc o).grownBy W2 v.ownBlock) (hl : v'.ownBlock = v.ownBlock ∨ v'.ownBlock = some (W1.alloc o).heap.size) :
    Got w4 s t (x + 1) W2 ns1 v' (l ++ [y]) := by
  have hb : Below W1.heap.size W1 (W1.alloc o) := (Below.refl _ _).alloc (Nat.le_refl _) _
  have r1 := (h.run.trans k).after hb
  have o1 := (h.own.moved k.mv).moved (.ofBelow k.seat.st.lt hb)
  obtain ⟨r2, o2⟩ := r1.appended h2 o1 hg ho hl
  refine ⟨r2, by simpa using o2, by simp [h.len], fun i z hz => ?_⟩
  by_cases e : i < l.length
  · rw [List.getElem?_append_left e] at hz
    exact (h.mean i z hz).keeps k.st.pre
  · rw [List.getElem?_append_right (by omega)] at hz
    have e2 : i = x := by
      have := (List.getElem?_eq_some_iff.1 hz).1
      simp at this
      have := h.len
      omega
    rw [e2, h.len] at hz
    simp at hz
    rw [e2, ← hz]
    exact hm

/-- The document's list of all hashes, and the tree that was copied, from there on. -/
structure Base (w1 w4 : World) (s r : Nat) (t : Tree) (ms : List Nd) (va : Value) (vall : Value) (xs : List Int) : Prop where
  two : Two w1 s r w4 (atoms 90) 90 ms 90
  arg : TreeP (fun b => ¬ Own w4 s b ∧ ¬ OwnR w4 r b) w4 va t
  all : IntsP (fun b => ¬ Own w4 s b ∧ ¬ OwnR w4 r b) w4 vall xs
  mean : ∀ (i : Nat) (y : Int), i < t.length → xs[i]? = some y → Means ms y (hashT Tm.atom t 6 i)
  len : xs.length = t.length
  few : ms.length ≤ 40090
  pre : atoms 90 <+: ms

theorem Base.of {w1 w2 w3 w4 : World} {s r kb : Nat} {t : Tree} {ms : List Nd} {va : Value} {xs : List Int} (hTw : Two w1 s r w2 (atoms 90) 90 (atoms 90) 90) (hb : Below w2.heap.size w2 w3) (ht : TreeP (fun b => w2.heap.size ≤ b) w3 va t) (hA : Al w3 r kb t.length w4 (atoms 90) ms 90 40000 xs) (hU : Upto Tm.atom t ms xs 6 0) (h63 : t.length ≤ 63) :
    Base w1 w4 s r t ms va (.slice (some ⟨kb, 0, none⟩) t.length t.length) xs := by
  have hTw3 := hTw.below hb
  have hTw4 := hTw3.rrun hA.run
  have hL : Late s r w3 w4 := (Late.refl _ _ _).movedR hTw3 hA.run.mv
  have hl := hA.run.stp.len
  rw [atoms_length] at hl
  obtain ⟨hge, hkl, _, cur, hcur⟩ := hA.own.head
  refine ⟨hTw4, hL.tree (hTw.own2 hb ht), ⟨some ⟨kb, 0, none⟩, t.length, by rw [hA.len], by rw [hA.len]; omega, fun _ => ⟨kb, 0, rfl, ⟨fun ho => ?_, hA.own.free kb rfl⟩, hkl, fun i x hx => ?_⟩⟩, fun i y hi hy => ?_, hA.len, by omega, hA.run.stp.pre⟩
  · have h1 := (hTw3.keepS hA.run.mv kb).1 ho
    have := hTw3.seat.st.own_lt h1
    omega
  · have := hA.own.own.cellAt i (by have := (List.getElem?_eq_some_iff.1 hx).1; have := hA.len; simp; omega)
    rw [Nat.zero_add, this]
    simp [hx]
  · obtain ⟨y', h1, h2⟩ := hU i hi (.inl (by have := lev_small (x := (i : Int)) (by omega) (by omega); omega))
    rw [hy] at h1
    cases h1
    exact h2

set_option maxRecDepth 100000 in
set_option maxHeartbeats 3000000 in
theorem hashes_law {w : World} {v : Value} {t : Tree} (h1 : TreeIn5 w v t) (n : Int) (hn : (Lit.int .i64 n).wf = true) (hT : Tab w ∧ Pow w) :
    Calls Tryd.prog 3 #[v, .int .i64 n] w fun e w' => e = .returned (.bool true) ∧ Below w.heap.size w w' := by
  obtain ⟨⟨ht, hlate⟩, hct⟩ := h1
  obtain ⟨va, vcap, rfl, _⟩ := id ht
  have Hct : Hid (∀ (x : Nat) (a : PV), t[x]? = some a → -9223372036854775808 ≤ a.client ∧ a.client ≤ 9223372036854775807) := hct
  have Hlate : Hid (∀ (x : Nat) (u : PV), t[x]? = some u → u.late.length * 8 ≤ 140737488355328) := hlate
  have Hn : Hid (-9223372036854775808 ≤ n ∧ n ≤ 9223372036854775807) := int_range hn
  have q27 : ∀ (w : World) (a : Option Addr) (n c : Nat), (Builtin.len_ #[22] 3 #[.slice a n c]).run Tryd.prog w = .ok (goInt n) w := fun w a n c => run_len_slice w _ _ _ _ _ Tryd.underlying22
  clear hct hlate hn
  go_enter Tryd.func3, Tryd.ntmps3
  go_wp2_with fail
  refine (anchor_any hT).mono ?_
  rintro e w0 ⟨rfl, b0⟩
  have hT0 := Tabs.below hT b0
  have ht0 := ht.below b0
  go_wp2_with fail
  refine (rightN_m ht0 90).mono ?_
  rintro e w1 ⟨bt, rfl, hbt, b1⟩
  have hT1 := Tabs.below hT0 b1
  have ht1 := ht0.below b1
  have b01 := on b0 b1
  cases bt with
  | false =>
    go_wp2_with fail
    go_ret
    exact ⟨rfl, b01⟩
  | true =>
    have HT : Hid (Good t ∧ Rng t 90) := hbt rfl
    clear hbt
    have hb := HT.out.1.sh.bounds
    have h63 : t.length ≤ 63 := by omega
    go_wp2_with fail
    refine (stores_m hT1.1 hT1.2 90 (by decide)).mono ?_
    rintro e w2 ⟨s, r, rfl, hTw⟩
    have ht2 := ht1.below hTw.low
    go_wp2_with fail
    refine (refCopy_any ht2 (by omega) Hlate.out).mono ?_
    rintro e w3 ⟨v3, hs3, rfl, o3, b3⟩
    obtain ⟨g3, cap3, rfl, hgB, hgl⟩ := o3.form (by omega)
    have hTw3 := hTw.below b3
    have htp := OwnT.p o3 HT.out.1.fit
    have Hkt : Hid (∀ ns, atoms 90 <+: ns → ∀ z : Nat, z < t.length → Known ns Tm.atom (vx t z)) := fun ns hp z hz => by
      have := known_all HT.out.1 HT.out.2 Hct.out hp (z : Int) (place_in HT.out.1.sh hz)
      simpa using this
    have hAll := All_m (fun n W => digits_any n W) hTw3.ref hTw3.wfm (g := Tm.atom) HT.out.1.fit (hTw3.rtree ht1) (Hkt.out _ (List.prefix_refl _)) (by rw [atoms_length]; decide)
    clear o3
    go_wp2_with fail
    refine hAll.mono ?_
    rintro e w4 ⟨kb, xs, ms, rfl, hA, hU⟩
    have HBs : Hid (Base w1 w4 s r t ms (.slice (some ⟨g3, 0, none⟩) t.length cap3) (.slice (some ⟨kb, 0, none⟩) t.length t.length) xs) := Base.of hTw b3 htp hA hU h63
    have h42 : 2 < w4.heap.size := HBs.out.two.seat.tab.size
    clear hAll hA hU htp hTw hTw3 b3
    go_wp2_with (first | rw [q27] | fail)
    have hgot0 : Got w4 s t 0 w4 (atoms 90) (.slice none 0 0) [] := ⟨(Run.refl HBs.out.two.seat), .nil _ _ _, rfl, fun i y hy => by simp at hy⟩
    go_loopw [9, 33] (fun gv k wr => ∃ (x : Nat) (ns : List Nd) (l : List Int), x ≤ t.length ∧ k = .int .i64 x ∧ Hid (Got w4 s t x wr ns gv l)) (fun _ k _ => t.length - (intOf k).toNat)
    case atStart => exact ⟨0, atoms 90, [], Nat.zero_le _, rfl, hgot0⟩
    case round =>
      clear hgot0
      obtain ⟨x, ns, l, hx, rfl, HG⟩ := hrel
      by_cases hlt : x < t.length
      · have i3 : (x : Int) < (t.length : Int) := by omega
        have hyin := place_in HT.out.1.sh hlt
        have hc := cst_le hyin
        have hsum := sumC_le (y := x) (by omega)
        have hlen := HG.out.run.st.len
        rw [atoms_length] at hlen
        have hTwr := HBs.out.two.run HG.out.run
        have hLr : Late s r w4 wr := (Late.refl _ _ _).moved HBs.out.two HG.out.run.mv
        have hH := Hash_m (g := Tm.atom) HT.out.1.fit HG.out.run.seat (both_ts (hLr.tree HBs.out.arg)) x hyin (fun z hz => by
          obtain ⟨z', rfl, hz'⟩ := in_place HT.out.1.sh (under_in hz).1
          simpa using Hkt.out _ HG.out.run.st.pre z' hz') (by omega)
        obtain ⟨j0, hi, hz0, hz1, hz2⟩ := info_parts Tryd.infoI
        have hl100 : l.length ≤ 100 := by rw [HG.out.len]; omega
        have Hm1 : Hid (l.length + 1 ≤ maxLen) := mx1 _ hl100
        have Hm2 : Hid ((l.length + 1) * 8 ≤ 140737488355328) := mx2 _ hl100
        have kw : IntKind.i64.wrap ((x : Int) + 1) = ((x + 1 : Nat) : Int) := by
          rw [show (x : Int) + 1 = ((x + 1 : Nat) : Int) by omega]; exact wrap_at (by omega) (by omega)
        clear hc hsum hlen hTwr hLr
        go_wp2_with fail
        refine hH.mono ?_
        rintro e w6 ⟨t6, ns6, rfl, r6, m6⟩
        have o6 : ∀ o, (w6.alloc o).ownsRow w4.heap.size 3 1 u9 l.length (l.map (Value.int .i64)) := fun o => (HG.out.own.moved r6.mv).own.alloc o
        have hsz : ∀ o, w4.heap.size ≤ (w6.alloc o).heap.size := fun o => by
          have h1 := HG.out.run.mv.size
          have h2 := r6.mv.size
          simp; omega
        have R6 : Hid (Run s wr w6 ns ns6 90 (cst x)) := r6
        have M6 : Hid (Means ns6 t6 (hashT Tm.atom t 6 x)) := m6
        clear hH r6 m6
        go_wp2_with (first
          | (refine wpList_append_own_at _ rfl (.tmp 36) (.tmp 41) 30 rfl w4.heap.size 3 j0 (.int .i64 0) 1 8 Tryd.underlying30 hi hz0 hz1 hz2 rfl Nat.one_pos _ l.length _ rfl (o6 _) ⟨w6.heap.size, 0, none⟩ 1 1 [.int .i64 t6] rfl rfl (cell_one_new _ _ _) (one_one _) Hm1.out Hm2.out (hsz _) ?_; intro v7 w7 ho hg hnil hl; replace ho := HG.out.next h42 R6.out M6.out ho hg hl; clear hg hl hnil)
          | fail)
        have Ho : Hid (Got w4 s t (x + 1) w7 ns6 v7 (l ++ [t6])) := ho
        clear ho
        go_roundw
        case rel => exact ⟨x + 1, ns6, l ++ [t6], by omega, by simp, Ho⟩
        case measure => simp [intOf]; omega
      · have e : x = t.length := by omega
        subst e
        clear hlt hx
        have hd : ¬ ((t.length : Int) < (t.length : Int)) := by omega
        have hsum := sumC_le (y := t.length) (by omega)
        have hlen := HG.out.run.st.len
        rw [atoms_length] at hlen
        have hTwr := HBs.out.two.run HG.out.run
        have hLr : Late s r w4 wr := (Late.refl _ _ _).moved HBs.out.two HG.out.run.mv
        have hTm := Tree_m (g := Tm.atom) HT.out.1.fit HG.out.run.seat (both_ts (hLr.tree HBs.out.arg)) (fun z hz => by
          obtain ⟨z', rfl, hz'⟩ := in_place HT.out.1.sh hz
          simpa using Hkt.out _ HG.out.run.st.pre z' hz') (by omega)
        have Hl1 : Hid (ns.length ≤ 20090) := by show _ ≤ _; omega
        clear hsum hlen hTwr hLr
        go_wp2_with fail
        refine hTm.mono ?_
        rintro e w6 ⟨ta, ns6, rfl, r6, m6⟩
        have hNm := number_m r6.seat n Hn.out.1 Hn.out.2 (by have := r6.st.len; have := Hl1.out; omega)
        have R6 : Hid (Run s w4 w6 (atoms 90) ns6 90 (sumC t.length + 2944)) := HG.out.run.trans r6
        have Ho6 : Hid (Own2 w4.heap.size w6 s u9 l.length (l.map (Value.int .i64))) := HG.out.own.moved r6.mv
        have Hmn : Hid (l.length = t.length ∧ ∀ (i : Nat) (y : Int), l[i]? = some y → Means ns6 y (hashT Tm.atom t 6 i)) := ⟨HG.out.len, fun i y hy => (HG.out.mean i y hy).keeps r6.st.pre⟩
        have Hma : Hid (Means ns6 ta (treeT Tm.atom t)) := m6
        have Hl6 : Hid (ns6.length ≤ 23034) := by have := r6.st.len; have := Hl1.out; show _ ≤ _; omega
        clear hTm r6 m6 HG
        go_wp2_with fail
        refine hNm.mono ?_
        rintro e w7 ⟨tb, ns7, rfl, r7, m7⟩
        have R7 : Hid (Run s w4 w7 (atoms 90) ns7 90 (sumC t.length + 2944 + 1)) := R6.out.trans r7
        have Ho7 : Hid (Own2 w4.heap.size w7 s u9 l.length (l.map (Value.int .i64))) := Ho6.out.moved r7.mv
        have Hmn7 : Hid (l.length = t.length ∧ ∀ (i : Nat) (y : Int), l[i]? = some y → Means ns7 y (hashT Tm.atom t 6 i)) := ⟨Hmn.out.1, fun i y hy => (Hmn.out.2 i y hy).keeps r7.st.pre⟩
        have Hma7 : Hid (Means ns7 ta (treeT Tm.atom t)) := Hma.out.keeps r7.st.pre
        have Hmb7 : Hid (Means ns7 tb (numT n)) := m7
        have Hl7 : Hid (ns7.length ≤ 23035) := by have := r7.st.len; have := Hl6.out; show _ ≤ _; omega
        have hNd := nodes_m R7.out.seat.st
        clear hNm r7 m7 R6 Ho6 Hmn Hma
        go_wp2_with fail
        refine hNd.mono ?_
        rintro e w8 ⟨vp, rfl, hrow, b8⟩
        obtain ⟨sl, c, rfl⟩ := row_form hrow
        have hmk := big_make (w := w8) (ns7.length + 1) (by have := Hl7.out; omega)
        have hcast : ((ns7.length + 1 : Nat) : Int) = (ns7.length : Int) + 1 := by omega
        have kw : IntKind.i64.wrap ((ns7.length : Int) + 1) = (ns7.length : Int) + 1 := wrap_at (by omega) (by have := Hl7.out; omega)
        rw [hcast] at hmk
        have R8 : Hid (Run s w4 w8 (atoms 90) ns7 90 (sumC t.length + 2944 + 1)) := R7.out.after b8
        have Ho8 : Hid (Own2 w4.heap.size w8 s u9 l.length (l.map (Value.int .i64))) := Ho7.out.moved (.ofBelow R7.out.seat.st.lt b8)
        have hTw8 := HBs.out.two.run R8.out
        have hL8 : Late s r w4 w8 := (Late.refl _ _ _).moved HBs.out.two R8.out.mv
        have hF : Fin5 w1 w4 s r w8.heap.size (w8.alloc (.cells ((List.replicate (ns7.length + 1) 0).map (Value.int .i64)).toArray 3)) sl c ns7 ms (List.replicate (ns7.length + 1) 0) :=
          Fin5.begin hTw8 hL8 hrow (fun g e ho => by
            have h1 := (hrow.lt g e).1
            have h2 := (HBs.out.two.keepR R8.out.mv g).1 ho
            have h3 := HBs.out.two.ref.own_lt h2
            have h4 := R7.out.mv.size
            omega)
        have hia : IntsP (fun b => b ≠ w8.heap.size) (w8.alloc (.cells ((List.replicate (ns7.length + 1) 0).map (Value.int .i64)).toArray 3)) u9 l := (Ho8.out.ints (by have := Hmn7.out.1; omega)).ints.beside _
        have hib : IntsP (fun b => b ≠ w8.heap.size) (w8.alloc (.cells ((List.replicate (ns7.length + 1) 0).map (Value.int .i64)).toArray 3)) (.slice (some ⟨kb, 0, none⟩) t.length t.length) xs := (hL8.ints HBs.out.all).beside _
        obtain ⟨W9, hW9⟩ : ∃ W9, w8.alloc (.cells ((List.replicate (ns7.length + 1) 0).map (Value.int .i64)).toArray 3) = W9 := ⟨_, rfl⟩
        rw [hW9] at hmk hF hia hib
        have hAA := allAlike_m hF.lk hia hib (by rw [Hmn7.out.1, HBs.out.len]) (fun i x y hx hy => ⟨_, Hmn7.out.2 i x hx, HBs.out.mean i y (by have := (List.getElem?_eq_some_iff.1 hy).1; have := HBs.out.len; omega) hy⟩)
        have HF : Hid (Fin5 w1 w4 s r w8.heap.size W9 sl c ns7 ms (List.replicate (ns7.length + 1) 0)) := hF
        obtain ⟨mb, hmb⟩ : ∃ mb, w8.heap.size = mb := ⟨_, rfl⟩
        rw [hmb] at hmk HF hAA
        clear hrow b8 hNd R7 Ho7 hTw8 hL8 hia hib hF hW9 hcast hmb
        go_wp2_with (first | rw [hmk] | fail)
        refine hAA.mono ?_
        rintro e w10 ⟨memo10, rfl, hL10, hg10⟩
        have HF10 : Hid (Fin5 w1 w4 s r mb w10 sl c ns7 ms memo10) := HF.out.alike hL10 hg10
        have hRT := RTree_m (fun n W => digits_any n W) HF10.out.two.ref HF10.out.two.wfm (g := Tm.atom) HT.out.1.fit (HF10.out.two.rtree ht1) (fun z hz => Hkt.out _ (show atoms 90 <+: ms from HBs.out.pre) z hz) (by have := HBs.out.few; omega)
        clear hAA hL10 hg10 HF
        go_wp2_with fail
        refine hRT.mono ?_
        rintro e w11 ⟨tr, ms11, rfl, r11, m11⟩
        have HF11 : Hid (Fin5 w1 w4 s r mb w11 sl c ns7 ms11 memo10) := HF10.out.ref r11
        have Hl11 : Hid (ms11.length ≤ 80090) := by have := r11.stp.len; have := HBs.out.few; show _ ≤ _; omega
        have Hp11 : Hid (atoms 90 <+: ms11) := HBs.out.pre.trans r11.stp.pre
        have hA1 := alike_m (sl := sl) (c := c) (r := r) (dr := 90) (kb := mb) Hma7.out m11 _ _ HF11.out.lk
        clear hRT r11 m11 HF10
        go_wp2_with fail
        refine hA1.mono ?_
        rintro e w12 ⟨memo12, rfl, hL12, hg12⟩
        have HF12 : Hid (Fin5 w1 w4 s r mb w12 sl c ns7 ms11 memo12) := HF11.out.alike hL12 hg12
        have hRN := number_r (fun n W => digits_any n W) HF12.out.two.ref HF12.out.two.wfm n Hn.out.1 Hn.out.2 (by have := Hl11.out; omega)
        clear hA1 hL12 hg12 HF11
        go_wp2_with fail
        refine hRN.mono ?_
        rintro e w13 ⟨tn, ms13, rfl, r13, m13⟩
        have HF13 : Hid (Fin5 w1 w4 s r mb w13 sl c ns7 ms13 memo12) := HF12.out.ref r13
        have hA2 := alike_m (sl := sl) (c := c) (r := r) (dr := 90) (kb := mb) Hmb7.out m13 _ _ HF13.out.lk
        clear hRN r13 m13 HF12
        go_wp2_with fail
        refine hA2.mono ?_
        rintro e w14 ⟨memo14, rfl, hL14, hg14⟩
        have hF14 := HF13.out.alike hL14 hg14
        have hta := (both_ts (hF14.late.tree HBs.out.arg)).tree
        have htt := ht1.below hF14.two.low
        have HB14 : Hid (Below w1.heap.size w1 w14) := hF14.two.low
        have hlv := HT.out.1.sh.1
        have hn1 := Hash_no (s := s) HT.out.1.sh hta (-1) (by decide) (by simp [inB])
        have hn2 := Hash_no (s := s) HT.out.1.sh hta (t.length : Int) (by omega) (by simp [inB]; omega)
        have hsm := same_m hta htt
        clear hA2 hL14 hg14 HF13 hF14 hlv
        go_wp2_with fail
        refine hn1.mono ?_
        rintro e w' ⟨rfl, hw⟩
        obtain rfl := hw.symm
        go_wp2_with (first | rw [q27] | fail)
        refine hn2.mono ?_
        rintro e w' ⟨rfl, hw⟩
        obtain rfl := hw.symm
        go_wp2_with fail
        refine hsm.mono ?_
        rintro e w15 ⟨bs, rfl, hbs, b15⟩
        obtain rfl : bs = true := hbs.2 (by first | rfl | trivial)
        go_wp2_with fail
        go_ret
        exact ⟨rfl, on b01 (on HB14.out b15)⟩

end Go.Proofs.YtmcjincgppddeaaDoor
