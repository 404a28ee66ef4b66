/-
  Hashes, lists and numbers as terms; contexts and transcripts.
-/
import Derived.Test.YtcfmagmhnemhaaaDoorVG
import Derived.Lib.AppendIntMem
namespace Go.Proofs.YtcfmagmhnemhaaaDoor
open Go.RowKit
set_option linter.unusedSimpArgs false
set_option linter.unusedVariables false

set_option maxHeartbeats 400000 in
theorem hash_any {w : World} {s : Nat} {ns : List Nd} {dr : Int} (h : StoreAt w s ns dr) (l : ByteArray) (a : Int) :
    Calls Tryd.prog 40 #[.pointer (some ⟨s, 0, none⟩), .string l, .int .i64 a] w fun e w' => e = .returned (.int .i64 (makeF ns ⟨4, l, a, 0⟩).1) ∧ StoreAt w' s (makeF ns ⟨4, l, a, 0⟩).2.2 dr ∧ Moved s w w' := by
  go_enter Tryd.func40, Tryd.ntmps40
  go_wp2_with (go_at_call 46; refine (number_any h ⟨4, l, a, 0⟩).mono ?_; rintro e w1 ⟨rfl, hst, hmv⟩)
  go_ret
  exact ⟨rfl, hst, hmv⟩

theorem hash_m {w : World} {s : Nat} {ns : List Nd} {dr : Int} (h : Seat w s ns dr) (l : ByteArray) (hl : l.size ≤ 32) (hr : (ns.length : Int) < 262144) {x : Int} {X : Tm} (hx : Means ns x X) :
    Calls Tryd.prog 40 #[.pointer (some ⟨s, 0, none⟩), .string l, .int .i64 x] w fun e w' => ∃ t ns', e = .returned (.int .i64 t) ∧ Run s w w' ns ns' dr 1 ∧ Means ns' t (.hash l X) := by
  obtain ⟨t, ns', e, hs, hm⟩ := mk_hash h.wf l hl hr hx
  refine (hash_any h.st l x).mono ?_
  rw [e]
  rintro _ w' ⟨rfl, hst, hmv⟩
  exact ⟨t, ns', rfl, ⟨h.moved hmv hst hs.wf, hmv, hs⟩, hm⟩

theorem list_m {w : World} {s : Nat} {ns : List Nd} {dr : Int} (h : Seat w s ns dr) {v : Value} {l : List Int} {L : List Tm} (hl : IntsAt w v l) (hf : ∀ b o sp n c, v = .slice (some ⟨b, o, sp⟩) n c → ¬ Own w s b) (hL : Mean2 ns l L) (hr : (ns.length : Int) + l.length + 1 < 262144) :
    Calls Tryd.prog 34 #[.pointer (some ⟨s, 0, none⟩), v] w fun e w' => ∃ t ns', e = .returned (.int .i64 t) ∧ Run s w w' ns ns' dr (l.length + 1) ∧ Means ns' t (listT L) := by
  obtain ⟨t, ns', e, hs, hm⟩ := mk_list h.wf hL hr
  refine (list_any h.st hl hf).mono ?_
  rw [e]
  rintro _ w' ⟨rfl, hst, hmv⟩
  exact ⟨t, ns', rfl, ⟨h.moved hmv hst hs.wf, hmv, hs⟩, hm⟩

/-- List over a slice that was built just now. -/
theorem list_new {w : World} {s : Nat} {ns : List Nd} {dr : Int} (h : Seat w s ns dr) (l : List Int) {L : List Tm} (hL : Mean2 ns l L) (hr : (ns.length : Int) + l.length + 1 < 262144) :
    Calls Tryd.prog 34 #[.pointer (some ⟨s, 0, none⟩), .slice (some ⟨w.heap.size, 0, none⟩) l.length l.length] (w.alloc (.cells (l.map (Value.int .i64)).toArray 3)) fun e w' => ∃ t ns', e = .returned (.int .i64 t) ∧ Run s w w' ns ns' dr (l.length + 1) ∧ Means ns' t (listT L) := by
  refine (list_m (h.al _) (intsAt_new w l (by omega)) (fun b o sp n c e => ?_) hL hr).mono ?_
  · cases e
    exact free_new h.st _
  · rintro e w' ⟨t, ns', rfl, hrun, hm⟩
    exact ⟨t, ns', rfl, .ahead h ((Below.refl _ _).alloc (Nat.le_refl _) _) hrun, hm⟩

theorem itoa_size {n : Int} (h0 : -9223372036854775808 ≤ n) (h1 : n ≤ 9223372036854775807) : (⟨(Lib.itoa n).toArray⟩ : ByteArray).size ≤ 1024 := by
  have := Lib.itoa_length_le n h0 h1
  show (Lib.itoa n).toArray.size ≤ 1024
  simp
  omega

structure I64 (n : Int) : Prop where
  lo : -9223372036854775808 ≤ n
  hi : n ≤ 9223372036854775807

set_option maxHeartbeats 400000 in
theorem number_m {w : World} {s : Nat} {ns : List Nd} {dr : Int} (h : Seat w s ns dr) (n : Int) (hn : I64 n) (hr : (ns.length : Int) < 262144) :
    Calls Tryd.prog 35 #[.pointer (some ⟨s, 0, none⟩), .int .i64 n] w fun e w' => ∃ t ns', e = .returned (.int .i64 t) ∧ Run s w w' ns ns' dr 1 ∧ Means ns' t (numT n) := by
  have hi : Hid (∀ wx, Pow wx → Calls Tryd.prog 49 #[.int .i64 n] wx fun e w' => e = .returned (.string ⟨(Lib.itoa n).toArray⟩) ∧ Below wx.heap.size wx w') := fun wx hp => by
    refine (itoa_any n hn.lo hn.hi wx hp).mono ?_
    rintro e w' ⟨rfl, k, os, rfl⟩
    exact ⟨rfl, Lib.below_grow _ _ (Nat.le_refl _) _ _⟩
  have hsz := itoa_size hn.lo hn.hi
  have hT : numT n = .text ⟨(Lib.itoa n).toArray⟩ := rfl
  rw [hT]
  generalize (⟨(Lib.itoa n).toArray⟩ : ByteArray) = l at *
  have Hsz : Hid (l.size ≤ 1024) := hsz
  clear hsz hT hn
  go_enter Tryd.func35, Tryd.ntmps35
  go_wp2_with fail
  refine (hi.out _ h.laid).mono ?_
  rintro e w1 ⟨rfl, b1⟩
  have h2 := h.below b1
  go_wp2_with fail
  refine (text_m h2 l Hsz.out hr).mono ?_
  rintro e w2 ⟨t, ns', rfl, hrun, hm⟩
  go_wp2_with fail
  go_ret
  exact ⟨t, ns', rfl, .ahead h b1 hrun, hm⟩

set_option maxRecDepth 100000 in
set_option maxHeartbeats 2000000 in
theorem context_m {w : World} {s : Nat} {ns : List Nd} {dr : Int} (h : Seat w s ns dr) (g e : Int) (hg : I64 g) (he : I64 e) {t x : Int} {T X : Tm} (ht : Means ns t T) (hx : Means ns x X) (hr : (ns.length : Int) + 8 < 262144) :
    Calls Tryd.prog 9 #[.pointer (some ⟨s, 0, none⟩), .int .i64 g, .int .i64 e, .int .i64 t, .int .i64 x] w fun r w' => ∃ y ns', r = .returned (.int .i64 y) ∧ Run s w w' ns ns' dr 7 ∧ Means ns' y (contextT g e T X) := by
  have H : Hid (Seat w s ns dr) := h
  have Hg : Hid (I64 g ∧ I64 e) := ⟨hg, he⟩
  have Ht : Hid (Means ns t T) := ht
  have Hx : Hid (Means ns x X) := hx
  have Hr : Hid ((ns.length : Int) + 8 < 262144) := hr
  clear h hg he ht hx hr
  go_enter Tryd.func9, Tryd.ntmps9
  go_wp2_with fail
  refine (orZero_m H.out.st Ht.out.has).mono ?_
  rintro r w1 ⟨rfl, b1⟩
  have HR1 : Hid (Run s w w1 ns ns dr 0) := Run.ofBelow H.out b1
  clear b1
  go_wp2_with fail
  refine (orZero_m HR1.out.seat.st Hx.out.has).mono ?_
  rintro r w2 ⟨rfl, b2⟩
  have HR2 : Hid (Run s w w2 ns ns dr 0) := HR1.out.after b2
  clear b2
  go_wp2_with fail
  refine (number_m HR2.out.seat g Hg.out.1 (by have := Hr.out; omega)).mono ?_
  rintro r w3 ⟨t3, ns3, rfl, r3, m3⟩
  have HR3 : Hid (Run s w w3 ns ns3 dr (0 + 1)) := HR2.out.trans r3
  have HM3 : Hid (Means ns3 t3 (numT g)) := m3
  clear r3 m3
  go_wp2_with fail
  refine (number_m HR3.out.seat e Hg.out.2 (by have := Hr.out; have := HR3.out.st.len; omega)).mono ?_
  rintro r w4 ⟨t4, ns4, rfl, r4, m4⟩
  have HR4 : Hid (Run s w w4 ns ns4 dr (0 + 1 + 1)) := HR3.out.trans r4
  have HM : Hid (Mean2 ns4 [t3, t4, t, x] [numT g, numT e, T, X]) := .cons (HM3.out.keeps r4.st.pre) (.cons m4 (.cons (Ht.out.keeps HR4.out.st.pre) (.cons (Hx.out.keeps HR4.out.st.pre) .nil)))
  have hln := list_new HR4.out.seat [t3, t4, t, x] HM.out (by have := Hr.out; have := HR4.out.st.len; simp; omega)
  clear r4 m4
  go_wp2_with fail
  refine hln.mono ?_
  rintro r w5 ⟨t5, ns5, rfl, r5, m5⟩
  have HR5 : Hid (Run s w w5 ns ns5 dr 7) := HR4.out.trans r5
  have HM5 : Hid (Means ns5 t5 (contextT g e T X)) := m5
  clear r5 m5 hln
  go_wp2_with fail
  go_ret
  exact ⟨t5, ns5, rfl, HR5.out, HM5.out⟩

set_option maxRecDepth 100000 in
set_option maxHeartbeats 2000000 in
theorem confirmed_m {w : World} {s : Nat} {ns : List Nd} {dr : Int} (h : Seat w s ns dr) {i c x : Int} {I C X : Tm} (hi : Means ns i I) (hc : Means ns c C) (hx : Means ns x X) (hr : (ns.length : Int) + 8 < 262144) :
    Calls Tryd.prog 17 #[.pointer (some ⟨s, 0, none⟩), .int .i64 i, .int .i64 c, .int .i64 x] w fun r w' => ∃ y ns', r = .returned (.int .i64 y) ∧ Run s w w' ns ns' dr 5 ∧ Means ns' y (confirmedT I C X) := by
  have H : Hid (Seat w s ns dr) := h
  have Hr : Hid ((ns.length : Int) + 8 < 262144) := hr
  have hln := list_new h [i, c, x] (.cons hi (.cons hc (.cons hx .nil))) (by simp; omega)
  clear h hi hc hx hr
  go_enter Tryd.func17, Tryd.ntmps17
  go_wp2_with fail
  refine hln.mono ?_
  rintro r w1 ⟨t1, ns1, rfl, r1, m1⟩
  have HR1 : Hid (Run s w w1 ns ns1 dr 4) := r1
  have HM1 : Hid (Means ns1 t1 (listT [I, C, X])) := m1
  clear r1 m1 hln
  go_wp2_with fail
  refine (hash_m HR1.out.seat kConfirmed (by decide) (by have := Hr.out; have := HR1.out.st.len; omega) HM1.out).mono ?_
  rintro r w2 ⟨t2, ns2, rfl, r2, m2⟩
  have HR2 : Hid (Run s w w2 ns ns2 dr 5) := HR1.out.trans r2
  have HM2 : Hid (Means ns2 t2 (confirmedT I C X)) := m2
  clear r2 m2
  go_wp2_with fail
  go_ret
  exact ⟨t2, ns2, rfl, HR2.out, HM2.out⟩

set_option maxRecDepth 100000 in
set_option maxHeartbeats 2000000 in
theorem interim_m {w : World} {s : Nat} {ns : List Nd} {dr : Int} (h : Seat w s ns dr) {i c : Int} {I C : Tm} (hi : Means ns i I) (hc : Means ns c C) (hr : (ns.length : Int) + 8 < 262144) :
    Calls Tryd.prog 18 #[.pointer (some ⟨s, 0, none⟩), .int .i64 i, .int .i64 c] w fun r w' => ∃ y ns', r = .returned (.int .i64 y) ∧ Run s w w' ns ns' dr 4 ∧ Means ns' y (interimT I C) := by
  have H : Hid (Seat w s ns dr) := h
  have Hr : Hid ((ns.length : Int) + 8 < 262144) := hr
  have hln := list_new h [i, c] (.cons hi (.cons hc .nil)) (by simp; omega)
  clear h hi hc hr
  go_enter Tryd.func18, Tryd.ntmps18
  go_wp2_with fail
  refine hln.mono ?_
  rintro r w1 ⟨t1, ns1, rfl, r1, m1⟩
  have HR1 : Hid (Run s w w1 ns ns1 dr 3) := r1
  have HM1 : Hid (Means ns1 t1 (listT [I, C])) := m1
  clear r1 m1 hln
  go_wp2_with fail
  refine (hash_m HR1.out.seat kInterim (by decide) (by have := Hr.out; have := HR1.out.st.len; omega) HM1.out).mono ?_
  rintro r w2 ⟨t2, ns2, rfl, r2, m2⟩
  have HR2 : Hid (Run s w w2 ns ns2 dr 4) := HR1.out.trans r2
  have HM2 : Hid (Means ns2 t2 (interimT I C)) := m2
  clear r2 m2
  go_wp2_with fail
  go_ret
  exact ⟨t2, ns2, rfl, HR2.out, HM2.out⟩

end Go.Proofs.YtcfmagmhnemhaaaDoor
