/-
  CodecRecords: its walk.
-/
import Derived.Test.YtjajgllkbchapaaRecW
import Derived.Test.YtjajgllkbchapaaOne
import Derived.Deep.DeepCutAuto
namespace Go.Proofs.Ytjajgllkbchapaa
open Go.RowKit
set_option linter.unusedSimpArgs false
set_option linter.unusedVariables false

set_option maxRecDepth 100000 in
set_option maxHeartbeats 8000000 in
theorem rec_yes {w : World} (A : Int) (S : ByteArray) (va : Option Addr) (vc : Nat) (L : List Int) (F : Bool) (hL : IntsAt w (.slice va L.length vc) L) (at_ : Int) (h1 : ¬ 200 < (L.length : Int)) (h2 : ¬ 200 < (S.size : Int)) (h3 : ¬ at_ < 0)
    (Hlen : Hid (((putRec A S L F).1.length : Int) ≤ 1099511627776)) (HlL : Hid (((putList 100 putN L).1.length : Int) ≤ 1099511627776))
    (out oA oS oL oF : ByteArray) (KA : Hid (encRes (putN A) = .tuple #[.string oA, .int .i64 0])) (KS : Hid (encRes (putT 100 S) = .tuple #[.string oS, .int .i64 0])) (KL : Hid (encRes (putList 100 putN L) = .tuple #[.string oL, .int .i64 0])) (KF : Hid (encRes (putB F) = .tuple #[.string oF, .int .i64 0])) (KR : Hid (encRes (putRec A S L F) = .tuple #[.string out, .int .i64 0])) (n k : Nat) (Lr : List Nat) (HA : ((n : Int) == A) = true) (HLr : Hid (L = Lr.map Int.ofNat)) (KD : Hid (whole (getRec out.data.toList) = .ok (n, S, Lr, F))) (HO : out.toList = (((oA ++ oS) ++ oL) ++ oF : ByteArray).toList) (HE0 : Hid (¬ out = ByteArray.empty)) (HTm : Hid (at_.tmod (out.size : Int) = k)) (hoA : (oA.size : Int) ≤ 1099511627776) (hoS : (oS.size : Int) ≤ 1099511627776) (hoL : (oL.size : Int) ≤ 1099511627776) (hoF : (oF.size : Int) ≤ 1099511627776) (hs0 : ¬ (out.size : Int) = 0) (hs40 : (out.size : Int) ≤ 1099511627776) (hk : at_ % (out.size : Int) = k) (hks : (k : Int) < out.size) (KC : Hid (whole (getRec (out.extract 0 k).data.toList) = .error 20)) (H8 : Hid (((out.extract 0 k).size : Int) ≤ 1099511627776)) (KM : Hid (whole (getRec (out ++ ⟨#[0]⟩ : ByteArray).data.toList) = .error 21)) (H9 : Hid (((out ++ ⟨#[0]⟩ : ByteArray).size : Int) ≤ 1099511627776)) :
    Calls Try.prog 11 #[.agg #[.int .i64 A, .string S, .slice va L.length vc, .bool F], .int .i64 at_] w fun e w' => e = .returned (.bool true) ∧ Below w.heap.size w w' := by
  have hd1 := decide_eq_false h1
  have hd2 := decide_eq_false h2
  have hd3 := decide_eq_false h3
  have hsf := fun (wx : World) (a : Addr) (fn : Fn) (f c : Array Value) => run_store Try.prog wx a (.func fn f c) .plain rfl
  go_enter Try.func11, Try.ntmps11
  go_wp2_with fail
  refine (anchor_any _).mono ?_
  rintro e w1 ⟨rfl, b1⟩
  have q := (b1.block w.heap.size (by simp)).trans (heap_alloc_new w _)
  have bb1 : Below w.heap.size w w1 := ((Below.refl _ _).alloc (Nat.le_refl _) _).trans (b1.mono (by simp))
  have lr1 : w.heap.size < w1.heap.size := (Array.getElem?_eq_some_iff.1 q).1
  have i1 := hL.below bb1
  have a0 := cell_of_heap q 0
  have a1 := cell_of_heap q 1
  have a2 := cell_of_heap q 2
  have a3 := cell_of_heap q 3
  simp at a0 a1 a2 a3
  clear q b1
  go_wp2_with fail
  refine (number_codec _).mono ?_
  rintro e w2 ⟨rfl, d1⟩
  go_wp2_with fail
  refine (fieldA _ _ _).mono ?_
  rintro e w3 ⟨k0, q0, rfl, lk0, lq0, p0, r0, c0, d2⟩
  go_wp2_with fail
  refine (text_made _ _).mono ?_
  rintro e w4 ⟨tb, rfl, t4, d3⟩
  rw [ex100] at t4
  go_wp2_with fail
  refine (fieldS _ _ _).mono ?_
  rintro e w5 ⟨k1, q1, rfl, lk1, lq1, p1, r1, c1, d4⟩
  go_wp2_with fail
  refine (number_codec _).mono ?_
  rintro e w6 ⟨rfl, d5⟩
  go_wp2_with fail
  refine (list_madeInt _ _ _ _).mono ?_
  rintro e w7 ⟨mb, cb, rfl, l7, d6⟩
  rw [ex100] at l7
  go_wp2_with fail
  refine (fieldL _ _ _).mono ?_
  rintro e w8 ⟨k2, q2, rfl, lk2, lq2, p2, r2, c2, d7⟩
  go_wp2_with fail
  refine (flag_codec _).mono ?_
  rintro e w9 ⟨rfl, d8⟩
  go_wp2_with fail
  refine (fieldF _ _ _).mono ?_
  rintro e w10 ⟨k3, q3, rfl, lk3, lq3, p3, r3, c3, d9⟩
  go_wp2_with fail
  have d10 : Below w10.heap.size w10 (w10.alloc (.cells #[.func (.func 90) #[] #[.pointer (some ⟨k0, 0, none⟩), .pointer (some ⟨q0, 0, none⟩)], .func (.func 91) #[] #[.pointer (some ⟨k0, 0, none⟩), .pointer (some ⟨q0, 0, none⟩)], .func (.func 92) #[] #[.pointer (some ⟨k1, 0, none⟩), .pointer (some ⟨q1, 0, none⟩)], .func (.func 93) #[] #[.pointer (some ⟨k1, 0, none⟩), .pointer (some ⟨q1, 0, none⟩)], .func (.func 94) #[] #[.pointer (some ⟨k2, 0, none⟩), .pointer (some ⟨q2, 0, none⟩)], .func (.func 95) #[] #[.pointer (some ⟨k2, 0, none⟩), .pointer (some ⟨q2, 0, none⟩)], .func (.func 96) #[] #[.pointer (some ⟨k3, 0, none⟩), .pointer (some ⟨q3, 0, none⟩)], .func (.func 97) #[] #[.pointer (some ⟨k3, 0, none⟩), .pointer (some ⟨q3, 0, none⟩)]] 112)) := (Below.refl _ _).alloc (Nat.le_refl _) _
  have hq10 := heap_alloc_new w10 (.cells #[.func (.func 90) #[] #[.pointer (some ⟨k0, 0, none⟩), .pointer (some ⟨q0, 0, none⟩)], .func (.func 91) #[] #[.pointer (some ⟨k0, 0, none⟩), .pointer (some ⟨q0, 0, none⟩)], .func (.func 92) #[] #[.pointer (some ⟨k1, 0, none⟩), .pointer (some ⟨q1, 0, none⟩)], .func (.func 93) #[] #[.pointer (some ⟨k1, 0, none⟩), .pointer (some ⟨q1, 0, none⟩)], .func (.func 94) #[] #[.pointer (some ⟨k2, 0, none⟩), .pointer (some ⟨q2, 0, none⟩)], .func (.func 95) #[] #[.pointer (some ⟨k2, 0, none⟩), .pointer (some ⟨q2, 0, none⟩)], .func (.func 96) #[] #[.pointer (some ⟨k3, 0, none⟩), .pointer (some ⟨q3, 0, none⟩)], .func (.func 97) #[] #[.pointer (some ⟨k3, 0, none⟩), .pointer (some ⟨q3, 0, none⟩)]] 112)
  refine (record_made (g0 := w10.heap.size) (cells := [.func (.func 90) #[] #[.pointer (some ⟨k0, 0, none⟩), .pointer (some ⟨q0, 0, none⟩)], .func (.func 91) #[] #[.pointer (some ⟨k0, 0, none⟩), .pointer (some ⟨q0, 0, none⟩)], .func (.func 92) #[] #[.pointer (some ⟨k1, 0, none⟩), .pointer (some ⟨q1, 0, none⟩)], .func (.func 93) #[] #[.pointer (some ⟨k1, 0, none⟩), .pointer (some ⟨q1, 0, none⟩)], .func (.func 94) #[] #[.pointer (some ⟨k2, 0, none⟩), .pointer (some ⟨q2, 0, none⟩)], .func (.func 95) #[] #[.pointer (some ⟨k2, 0, none⟩), .pointer (some ⟨q2, 0, none⟩)], .func (.func 96) #[] #[.pointer (some ⟨k3, 0, none⟩), .pointer (some ⟨q3, 0, none⟩)], .func (.func 97) #[] #[.pointer (some ⟨k3, 0, none⟩), .pointer (some ⟨q3, 0, none⟩)]]) (fun j u hu => (cell_of_heap hq10 j).trans (by simpa using hu)) (by simp) rfl (by intro u hu; simp at hu; rcases hu with rfl | rfl | rfl | rfl | rfl | rfl | rfl | rfl <;> rfl)).mono ?_
  rintro e w11 ⟨pb, g, cap, rfl, lpb, lg, hp, hcells, d11⟩
  clear hq10
  have C1 := on d1 (on d2 (on d3 (on d4 (on d5 (on d6 (on d7 (on d8 (on d9 (on d10 d11)))))))))
  have lr11 := Nat.lt_of_lt_of_le lr1 C1.size
  have ja0 := (C1.cell (p := ⟨w.heap.size, 0, none⟩) lr1).trans a0
  have ja1 := (C1.cell (p := ⟨w.heap.size, 1, none⟩) lr1).trans a1
  have ja2 := (C1.cell (p := ⟨w.heap.size, 2, none⟩) lr1).trans a2
  have ja3 := (C1.cell (p := ⟨w.heap.size, 3, none⟩) lr1).trans a3
  go_wp2_with fail
  clear ja0 ja1 ja2 ja3 C1
  have d12 : Below w11.heap.size w11 (w11.alloc (.cells #[.func (.func 88) #[] #[.pointer (some ⟨pb, 0, none⟩)], .func (.func 89) #[] #[.pointer (some ⟨pb, 0, none⟩)]] 107)) := (Below.refl _ _).alloc (Nat.le_refl _) _
  have hq12 := heap_alloc_new w11 (.cells #[.func (.func 88) #[] #[.pointer (some ⟨pb, 0, none⟩)], .func (.func 89) #[] #[.pointer (some ⟨pb, 0, none⟩)]] 107)
  have lcv : w11.heap.size < (w11.alloc (.cells #[.func (.func 88) #[] #[.pointer (some ⟨pb, 0, none⟩)], .func (.func 89) #[] #[.pointer (some ⟨pb, 0, none⟩)]] 107)).heap.size := by simp
  generalize w11.alloc (.cells #[.func (.func 88) #[] #[.pointer (some ⟨pb, 0, none⟩)], .func (.func 89) #[] #[.pointer (some ⟨pb, 0, none⟩)]] 107) = w12 at *
  have B11 := d12
  have B10 := on (on d10 d11) B11
  have B9 := on d9 B10
  have B8 := on d8 B9
  have B7 := on d7 B8
  have B6 := on d6 B7
  have B5 := on d5 B6
  have B4 := on d4 B5
  have B3 := on d3 B4
  have B2 := on d2 B3
  have B1 := on d1 B2
  have gc := fun j u hu => (B11.cell (p := ⟨g, j, none⟩) lg).trans (hcells j u hu)
  have t12 := t4.below B4
  have l12 := l7.below B7
  have I : RInv w12 w.heap.size w11.heap.size pb g k0 k1 k2 k3 q0 q1 q2 q3 tb mb cb cap A S va vc L F := by
    refine ⟨⟨Nat.lt_of_lt_of_le lpb B11.size, Nat.lt_of_lt_of_le lg B11.size, Nat.lt_of_lt_of_le lk0 B3.size, Nat.lt_of_lt_of_le lk1 B5.size, Nat.lt_of_lt_of_le lk2 B8.size, Nat.lt_of_lt_of_le lk3 B10.size, Nat.lt_of_lt_of_le lq0 B3.size, Nat.lt_of_lt_of_le lq1 B5.size, Nat.lt_of_lt_of_le lq2 B8.size, Nat.lt_of_lt_of_le lq3 B10.size, t12.1, l12.1, l12.2.1,
      (B11.cell (p := ⟨pb, 0, none⟩) lpb).trans hp, gc 0 _ rfl, gc 1 _ rfl, gc 2 _ rfl, gc 3 _ rfl, gc 4 _ rfl, gc 5 _ rfl, gc 6 _ rfl, gc 7 _ rfl,
      (B3.cell (p := ⟨k0, 0, none⟩) lk0).trans p0, (B3.cell (p := ⟨k0, 1, none⟩) lk0).trans r0, (B3.cell (p := ⟨q0, 0, none⟩) lq0).trans c0,
      (B5.cell (p := ⟨k1, 0, none⟩) lk1).trans p1, (B5.cell (p := ⟨k1, 1, none⟩) lk1).trans r1, (B5.cell (p := ⟨q1, 0, none⟩) lq1).trans c1,
      (B8.cell (p := ⟨k2, 0, none⟩) lk2).trans p2, (B8.cell (p := ⟨k2, 1, none⟩) lk2).trans r2, (B8.cell (p := ⟨q2, 0, none⟩) lq2).trans c2,
      (B10.cell (p := ⟨k3, 0, none⟩) lk3).trans p3, (B10.cell (p := ⟨k3, 1, none⟩) lk3).trans r3, (B10.cell (p := ⟨q3, 0, none⟩) lq3).trans c3,
      t12.2.1, l12.2.2.1, l12.2.2.2.1, l12.2.2.2.2.1⟩, Nat.lt_of_lt_of_le lr1 B1.size, lcv,
      (B1.cell (p := ⟨w.heap.size, 0, none⟩) lr1).trans a0, (B1.cell (p := ⟨w.heap.size, 1, none⟩) lr1).trans a1, (B1.cell (p := ⟨w.heap.size, 2, none⟩) lr1).trans a2, (B1.cell (p := ⟨w.heap.size, 3, none⟩) lr1).trans a3,
      (cell_of_heap hq12 0).trans rfl, (cell_of_heap hq12 1).trans rfl, i1.below B1⟩
  have bb12 := on bb1 B1
  have nv : w.heap.size ≠ w11.heap.size := by omega
  clear d1 d2 d3 d4 d5 d6 d7 d8 d9 d10 d11 d12 B1 B2 B3 B4 B5 B6 B7 B8 B9 B10 B11 gc t12 l12 t4 l7 hcells hp hq12 lpb lg lk0 lk1 lk2 lk3 lq0 lq1 lq2 lq3 p0 p1 p2 p3 r0 r1 r2 r3 c0 c1 c2 c3 a0 a1 a2 a3 i1 bb1 lr1 lcv lr11
  generalize w11.heap.size = cv at *
  refine (encodeR w12 _ I.C A S va L.length vc L F I.ints.low Hlen.out).mono ?_
  rintro e w13 ⟨he13, d13⟩
  rw [KR.out] at he13
  subst he13
  have I13 := I.below d13
  have bb13 := on bb12 d13
  clear I d13 bb12
  go_upto_region 7 with fail
  go_cut [8, 9] (fun x y wx => x = .string oA ∧ y = .int .i64 0 ∧ Below w13.heap.size w13 wx)
  case first =>
   as_aux_lemma =>
    have ia0 := I13.a0
    go_region_with (first | (go_at_call 16; refine (number_codec _).mono ?_; rintro e wa ⟨rfl, da⟩; have ja0 := (I13.drew.below da).a0) | (go_at_call 15; refine (encodeN _ _ A).mono ?_; rintro e wb ⟨he, db⟩; rw [KA.out] at he; subst he))
    all_goals
      go_wp2_with fail
      go_meet
      exact ⟨rfl, rfl, ((Below.refl _ _).drew.trans da).trans (db.mono da.size)⟩
  case rest =>
  as_aux_lemma =>
  obtain ⟨rfl, rfl, dc⟩ := hcut
  have I14 := I13.below dc
  have bb14 := on bb13 dc
  clear I13 bb13 dc
  generalize wc = w14 at *
  go_upto_region 8 with fail
  go_cut [10, 11] (fun x y wx => x = .string oS ∧ y = .int .i64 0 ∧ Below w14.heap.size w14 wx)
  case first =>
   as_aux_lemma =>
    have ia1 := I14.a1
    go_region_with (first | (go_at_call 24; refine (text_made _ _).mono ?_; rintro e wa ⟨tb2, rfl, ta, da⟩; rw [ex100] at ta; have ja1 := (I14.drew.below da).a1) | (go_at_call 40; refine (encodeT _ _ tb2 100 S ta).mono ?_; rintro e wb ⟨he, db⟩; rw [KS.out] at he; subst he))
    all_goals
      go_wp2_with fail
      go_meet
      exact ⟨rfl, rfl, ((Below.refl _ _).drew.trans da).trans (db.mono da.size)⟩
  case rest =>
  as_aux_lemma =>
  obtain ⟨rfl, rfl, dc⟩ := hcut
  have I15 := I14.below dc
  have bb15 := on bb14 dc
  clear I14 bb14 dc
  generalize wc = w15 at *
  go_upto_region 9 with fail
  go_cut [12, 13] (fun x y wx => x = .string oL ∧ y = .int .i64 0 ∧ Below w15.heap.size w15 wx)
  case first =>
   as_aux_lemma =>
    have ia2 := I15.a2
    go_region_with (first | (go_at_call 16; refine (number_codec _).mono ?_; rintro e wa ⟨rfl, da⟩; have ja2 := (I15.drew.below da).a2) | (go_at_call 18; refine (list_madeInt _ _ _ _).mono ?_; rintro e wb ⟨mb2, cb2, rfl, lb, db⟩; rw [ex100] at lb; have jb2 := ((I15.drew.below da).below db).a2) | (go_at_call 17; refine (encodeNs _ _ _ mb2 cb2 100 _ L lb ((I15.drew.below da).below db).ints.low HlL.out).mono ?_; rintro e wd ⟨he, dd⟩; rw [KL.out] at he; subst he))
    all_goals
      go_wp2_with fail
      go_meet
      exact ⟨rfl, rfl, on (on ((Below.refl _ _).drew.trans da) db) dd⟩
  case rest =>
  as_aux_lemma =>
  obtain ⟨rfl, rfl, dc⟩ := hcut
  have I16 := I15.below dc
  have bb16 := on bb15 dc
  clear I15 bb15 dc
  generalize wc = w16 at *
  go_upto_region 10 with fail
  go_cut [14, 15] (fun x y wx => x = .string oF ∧ y = .int .i64 0 ∧ Below w16.heap.size w16 wx)
  case first =>
   as_aux_lemma =>
    have ia3 := I16.a3
    go_region_with (first | (go_at_call 22; refine (flag_codec _).mono ?_; rintro e wa ⟨rfl, da⟩; have ja3 := (I16.drew.below da).a3) | (go_at_call 51; refine (encodeF _ _ F).mono ?_; rintro e wb ⟨he, db⟩; rw [KF.out] at he; subst he))
    all_goals
      go_wp2_with fail
      go_meet
      exact ⟨rfl, rfl, ((Below.refl _ _).drew.trans da).trans (db.mono da.size)⟩
  case rest =>
  as_aux_lemma =>
  obtain ⟨rfl, rfl, dc⟩ := hcut
  have I17 := I16.below dc
  have bb17 := on bb16 dc
  clear I16 bb16 dc
  generalize wc = w17 at *
  have iv0 := I17.v0
  have iv1 := I17.v1
  have hks2 : (k : Int) ≤ out.size := by omega
  have hks3 : k ≤ out.size := by omega
  have eF : (F == F) = true := by simp
  have eS : (S == S) = true := by show (S.data == S.data) = true; simp
  go_wp2_with fail
  refine (decodeR w17 _ I17.C out hs40).mono ?_
  intro e w18 hd
  unfold decodedR at hd
  rw [KD.out] at hd
  obtain ⟨⟨vR, rfl, hR⟩, d18⟩ := hd
  have I18 := I17.below d18
  have bb18 := on bb17 d18
  have iR := hR.ints
  rw [← HLr.out] at iR
  obtain ⟨av, nv', cv', hvR⟩ : ∃ a n c, vR = .slice a n c := by obtain ⟨vs, ho, _, _⟩ := id hR; obtain ⟨a, c, e⟩ := ownsRow_form ho; exact ⟨a, _, c, e⟩
  subst hvR
  clear iv0 iv1 hR I17 bb17 d18
  go_upto_region 14 with fail
  have x8 : Below w18.heap.size w18 (w18.alloc (.cells #[.int .i64 n, .string S, .slice av nv' cv', .bool F] 103)) := (Below.refl _ _).alloc (Nat.le_refl _) _
  have hq := heap_alloc_new w18 (.cells #[.int .i64 n, .string S, .slice av nv' cv', .bool F] 103)
  have ld : w18.heap.size < (w18.alloc (.cells #[.int .i64 n, .string S, .slice av nv' cv', .bool F] 103)).heap.size := by simp
  have I19 := I18.below x8
  have bb19 := on bb18 x8
  have iR19 := iR.below x8
  generalize w18.alloc (.cells #[.int .i64 n, .string S, .slice av nv' cv', .bool F] 103) = w19 at *
  have y0 := cell_of_heap hq 0
  have y1 := cell_of_heap hq 1
  have y2 := cell_of_heap hq 2
  have y3 := cell_of_heap hq 3
  simp at y0 y1 y2 y3
  generalize w18.heap.size = db at *
  clear hq I18 bb18 iR x8
  go_cut [19] (fun y wx => y = .int .i64 20 ∧ Below w19.heap.size w19 wx)
  case first =>
   as_aux_lemma =>
    have iv0 := I19.v0
    have iv1 := I19.v1
    have Id := I19.drew
    have bd : Below w19.heap.size w19 w19.drew := (Below.refl _ _).drew
    have hem := HE0.out
    have htm := HTm.out
    have bdA : Below w19.heap.size w19 (w19.alloc (.cells #[.int .i64 0, .string ⟨#[]⟩, .slice none 0 0, .bool false] 103)).drew := ((Below.refl _ _).alloc (Nat.le_refl _) _).drew
    have IdA := I19.below bdA
    have lcv19 := I19.lcv
    have iw0 := IdA.v0
    have iw1 := IdA.v1
    have hz0 : (w19.alloc (.cells #[.int .i64 0, .string ⟨#[]⟩, .slice none 0 0, .bool false] 103)).drew.heap[w19.heap.size]? = some (.cells #[.int .i64 0, .string ⟨#[]⟩, .slice none 0 0, .bool false] 103) := heap_alloc_new w19 _
    have lzA : w19.heap.size < (w19.alloc (.cells #[.int .i64 0, .string ⟨#[]⟩, .slice none 0 0, .bool false] 103)).drew.heap.size := (Array.getElem?_eq_some_iff.1 hz0).1
    go_region_law (first
      | (refine step_call2 rfl 52 (.tmp 107) (.tmp 113) #[107, 9] rfl ent52 (.agg #[.func (.func 88) #[] #[.pointer (some ⟨pb, 0, none⟩)], .func (.func 89) #[] #[.pointer (some ⟨pb, 0, none⟩)]]) (.string (out.extract 0 k)) rfl rfl ?_; refine (decodeR w19.drew _ Id.C _ H8.out).mono ?_; intro e w20 hd20; unfold decodedR at hd20; rw [KC.out] at hd20; obtain ⟨he20, d20⟩ := hd20; refine ⟨_, he20, ?_⟩)
      | (refine step_call2 rfl 52 (.tmp 107) (.tmp 113) #[107, 9] rfl ent52 (.agg #[.func (.func 88) #[] #[.pointer (some ⟨pb, 0, none⟩)], .func (.func 89) #[] #[.pointer (some ⟨pb, 0, none⟩)]]) (.string (out.extract 0 k)) rfl rfl ?_; refine (decodeR (w19.alloc (.cells #[.int .i64 0, .string ⟨#[]⟩, .slice none 0 0, .bool false] 103)).drew _ IdA.C _ H8.out).mono ?_; intro e w20 hd20; unfold decodedR at hd20; rw [KC.out] at hd20; obtain ⟨he20, d20⟩ := hd20; have hz := (d20.block w19.heap.size lzA).trans hz0; have s0 := cell_of_heap hz 0; have s1 := cell_of_heap hz 1; have s2 := cell_of_heap hz 2; have s3 := cell_of_heap hz 3; simp at s0 s1 s2 s3; have sf := frozen_of_heap hz; refine ⟨_, he20, ?_⟩))
    all_goals
      go_wp2_with fail
      go_meet
      first
        | exact ⟨rfl, (bd.trans d20).alloc (bd.trans d20).size _⟩
        | exact ⟨rfl, ((((bdA.trans (d20.mono bdA.size)).setCell (p := ⟨w19.heap.size, 0, none⟩) (Nat.le_refl _) _).setCell (p := ⟨w19.heap.size, 1, none⟩) (Nat.le_refl _) _).setCell (p := ⟨w19.heap.size, 2, none⟩) (Nat.le_refl _) _).setCell (p := ⟨w19.heap.size, 3, none⟩) (Nat.le_refl _) _⟩
  case rest =>
  as_aux_lemma =>
  obtain ⟨rfl, dc⟩ := hcut
  have I20 := I19.below dc
  have bb20 := on bb19 dc
  have iR20 := iR19.below dc
  have z0 := (dc.cell (p := ⟨db, 0, none⟩) ld).trans y0
  have z1 := (dc.cell (p := ⟨db, 1, none⟩) ld).trans y1
  have z2 := (dc.cell (p := ⟨db, 2, none⟩) ld).trans y2
  have z3 := (dc.cell (p := ⟨db, 3, none⟩) ld).trans y3
  have ld2 := Nat.lt_of_lt_of_le ld dc.size
  clear I19 bb19 iR19 y0 y1 y2 y3 ld dc
  generalize wc = w20 at *
  have iv0 := I20.v0
  have iv1 := I20.v1
  go_wp2_with fail
  refine (decodeR _ _ I20.C _ H9.out).mono ?_
  intro e w21 hd21
  unfold decodedR at hd21
  rw [KM.out] at hd21
  obtain ⟨he21, d21⟩ := hd21
  subst he21
  have I21 := I20.below d21
  have bb21 := on bb20 d21
  have iR21 := iR20.below d21
  have y0 := (d21.cell (p := ⟨db, 0, none⟩) ld2).trans z0
  have y1 := (d21.cell (p := ⟨db, 1, none⟩) ld2).trans z1
  have y2 := (d21.cell (p := ⟨db, 2, none⟩) ld2).trans z2
  have y3 := (d21.cell (p := ⟨db, 3, none⟩) ld2).trans z3
  have ld3 := Nat.lt_of_lt_of_le ld2 d21.size
  clear I20 bb20 iR20 z0 z1 z2 z3 ld2 d21 iv0 iv1
  have x0 := I21.a0
  have x1 := I21.a1
  have x2 := I21.a2
  have x3 := I21.a3
  have lw := I21.lrb
  have lcc := I21.lcv
  have bA : Below w21.heap.size w21 (w21.alloc (.cells #[.int .i64 0, .string ⟨#[]⟩, .slice none 0 0, .bool false] 103)) := (Below.refl _ _).alloc (Nat.le_refl _) _
  have i1 := iR21.below bA
  have i2 := I21.ints.below bA
  have bbA := on bb21 bA
  clear I21 iR21 bA bb21
  go_wp2_with fail
  refine (ints_any i1 i2).mono ?_
  rintro e w22 ⟨rfl, n22, rfl⟩
  have hdd : decide (L = L) = true := by simp
  rw [hdd]
  have bb22 := below_drewN bbA n22
  clear hdd
  go_wp2_with fail
  go_ret
  exact ⟨rfl, bb22⟩

end Go.Proofs.Ytjajgllkbchapaa
