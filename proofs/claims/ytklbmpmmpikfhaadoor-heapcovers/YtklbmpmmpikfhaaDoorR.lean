/-
  The law HeapCovers: each leaf but one's own is below just one place of one's copath.
-/
import Derived.Test.YtklbmpmmpikfhaaDoorO
namespace Go.Proofs.YtklbmpmmpikfhaaDoor
open Go.RowKit
set_option linter.unusedSimpArgs false
set_option linter.unusedVariables false

/-- How many of the first places of a list are above. -/
def covI (C : List Int) (j n : Int) (m : Nat) : Nat := (C.take m).countP fun x => underB (2 * j) x n

theorem cov_next {C : List Int} {j n : Int} {m : Nat} {x : Int} (h : C[m]? = some x) : covI C j n (m + 1) = covI C j n m + (if underB (2 * j) x n then 1 else 0) := by
  unfold covI
  rw [List.take_add_one, h, List.countP_append]
  simp [List.countP_cons]

theorem cov_le (C : List Int) (j n : Int) (m : Nat) : covI C j n m ≤ C.length := Nat.le_trans List.countP_le_length (by simp; omega)

theorem covers_facts {i j n : Int} (hi : leafB i n = true) (hj : leafB j n = true) :
    (copathI (2 * i) n).length = (pathI (2 * i) n).length ∧ (copathI (2 * i) n).length ≤ 7 ∧ covI (copathI (2 * i) n) j n (copathI (2 * i) n).length = (if j == i then 0 else 1) ∧
    ((List.range 7).all fun m => match (copathI (2 * i) n)[m]?, (pathI (2 * i) n)[m]? with | some x, some p => !underB (2 * j) x n || p == commonI i j n | _, _ => true) = true := by
  have := forall_leaf2 (fun i j n => decide ((copathI (2 * i) n).length = (pathI (2 * i) n).length ∧ (copathI (2 * i) n).length ≤ 7 ∧ covI (copathI (2 * i) n) j n (copathI (2 * i) n).length = (if j == i then 0 else 1) ∧
    ((List.range 7).all fun m => match (copathI (2 * i) n)[m]?, (pathI (2 * i) n)[m]? with | some x, some p => !underB (2 * j) x n || p == commonI i j n | _, _ => true) = true)) (by decide +kernel) i j n hi hj
  rwa [decide_eq_true_eq] at this

theorem cov_at {i j n : Int} (hi : leafB i n = true) (hj : leafB j n = true) {m : Nat} {x p : Int} (hx : (copathI (2 * i) n)[m]? = some x) (hp : (pathI (2 * i) n)[m]? = some p) (hu : underB (2 * j) x n = true) : p = commonI i j n := by
  obtain ⟨_, hl, _, hf⟩ := covers_facts hi hj
  have h1 := (List.getElem?_eq_some_iff.1 hx).1
  have := List.all_eq_true.1 hf m (List.mem_range.2 (by omega))
  rw [hx, hp] at this
  simpa [hu] using this

set_option maxRecDepth 100000 in
set_option maxHeartbeats 2000000 in
theorem covers_no (i n : Int) (hlf : leafB i n = false) {w : World} (hT : Tab w) :
    Calls Tryd.prog 5 #[.int .i64 i, .int .i64 n] w fun e w' => e = .returned (.bool true) ∧ Below w.heap.size w w' := by
  have Hlf : Hid ((leafB i n && leafB i n) = false) := by simp [Hid, hlf]
  clear hlf
  go_enter Tryd.func5, Tryd.ntmps5
  go_wp2_with fail
  refine (anchor_any hT).mono ?_
  rintro e w1 ⟨rfl, b1⟩
  go_wp2_with first
    | (go_at_call 11; refine (refRight_any _ _).mono ?_; rintro e w' ⟨rfl, rfl⟩)
    | (go_at_call 22; exfalso; exact leaf_false Hlf.out (by assumption) (by omega) (by omega) (by omega) (by omega))
  all_goals go_ret
  all_goals exact ⟨rfl, b1⟩

set_option maxRecDepth 100000 in
set_option maxHeartbeats 2000000 in
theorem covers_yes (i n : Int) (hi : leafB i n = true) {w : World} (hT : Tab w) :
    Calls Tryd.prog 5 #[.int .i64 i, .int .i64 n] w fun e w' => e = .returned (.bool true) ∧ Below w.heap.size w w' := by
  have hts := hT.size
  have hin := leafB_in hi
  have hr : rightB n = true := inB_right hin
  have hn := rightB_bounds hr
  have hx := leaf_bounds hi
  have f0 := covers_facts hi hi
  have Hcount : ∀ j, leafB j n = true → Hid (covI (copathI (2 * i) n) j n (copathI (2 * i) n).length = (if j == i then 0 else 1)) := fun j hj => (covers_facts hi hj).2.2.1
  have Hat : ∀ j, leafB j n = true → ∀ (m : Nat) x p, (copathI (2 * i) n)[m]? = some x → (pathI (2 * i) n)[m]? = some p → underB (2 * j) x n = true → Hid (p = commonI i j n) := fun j hj m x p h1 h2 h3 => cov_at hi hj h1 h2 h3
  have Hlen : Hid ((copathI (2 * i) n).length = (pathI (2 * i) n).length) := f0.1
  have Hl7 : Hid ((copathI (2 * i) n).length ≤ 7) := f0.2.1
  have Hpl := path_len (2 * i) n
  have Hcl := copath_len (2 * i) n
  clear f0
  go_enter Tryd.func5, Tryd.ntmps5
  go_wp2_with fail
  refine (anchor_any hT).mono ?_
  rintro e w1 ⟨rfl, b1⟩
  have hT1 := hT.below b1 hts
  go_wp2_with (go_at_call 11; refine (refRight_any _ _).mono ?_; rintro e w' ⟨rfl, hw⟩; obtain rfl := hw.symm; rw [hr])
  refine (Copath_yes (2 * i) n hin hT1).mono ?_
  rintro e w2 ⟨v2, rfl, m2, b2⟩
  have hT2 := hT1.below b2 hT1.size
  go_wp2_with fail
  refine (Path_yes (2 * i) n hin hT2).mono ?_
  rintro e w3 ⟨v3, rfl, m3, b3⟩
  have i2 := (m2.ints Hcl).below b3
  have i3 := m3.ints Hpl
  have b13 := on (on b1 b2) b3
  clear b1 b2 b3 m2 m3 hT1 hT2
  obtain ⟨P, hP⟩ : ∃ P, pathI (2 * i) n = P := ⟨_, rfl⟩
  obtain ⟨C, hC⟩ : ∃ C, copathI (2 * i) n = C := ⟨_, rfl⟩
  rw [hP] at i3
  rw [hC] at i2
  simp only [hP, hC] at Hcount Hat Hlen Hl7 Hpl Hcl
  clear hP hC
  obtain ⟨a2, cap2, rfl, hl2, hc2⟩ := i2
  obtain ⟨a3, cap3, rfl, hl3, hc3⟩ := i3
  have hlenB : ((C.length : Int) != P.length) = false := by have := Hlen.out; simp [this]
  have hl7 : (C.length : Int) ≤ 7 := by have := Hl7.out; omega
  have hleq : (C.length : Int) ≤ P.length ∧ (P.length : Int) ≤ C.length := by have := Hlen.out; omega
  have i2 : IntsAt w3 (.slice a2 C.length cap2) C := ⟨_, _, rfl, hl2, hc2⟩
  have i3 : IntsAt w3 (.slice a3 P.length cap3) P := ⟨_, _, rfl, hl3, hc3⟩
  clear hc2 hc3
  go_wp2_with fail
  go_loopw [9] (fun z wr => ∃ k : Nat, (k : Int) ≤ n ∧ z = .int .i64 k ∧ Below w.heap.size w wr ∧ IntsAt wr (.slice a2 C.length cap2) C ∧ IntsAt wr (.slice a3 P.length cap3) P) (fun z _ => n.toNat - (intOf z).toNat)
  case atStart => exact ⟨0, by omega, rfl, b13, i2, i3⟩
  case round =>
    clear i2 i3
    obtain ⟨k, hk, rfl, hB, i2, i3⟩ := hrel
    by_cases hlt : (k : Int) < n
    · have hj : leafB k n = true := by simp [leafB, hr]; omega
      have Hc := Hcount k hj
      have Ha := Hat k hj
      clear Hcount Hat
      go_wp2_with fail
      go_loopw [10, 63] (fun c i wr => ∃ m : Nat, m ≤ C.length ∧ i = .int .i64 m ∧ c = .int .i64 (covI C k n m) ∧ Below w.heap.size w wr ∧ IntsAt wr (.slice a2 C.length cap2) C ∧ IntsAt wr (.slice a3 P.length cap3) P) (fun _ i _ => C.length - (intOf i).toNat)
      case atStart => exact ⟨0, Nat.zero_le _, rfl, by simp [covI], hB, i2, i3⟩
      case round =>
        clear i2 i3 hB
        obtain ⟨m, hm, rfl, rfl, hB, i2, i3⟩ := hrel
        have hTr := hT.below hB hts
        by_cases hml : m < C.length
        · obtain ⟨x, hxm⟩ : ∃ x, C[m]? = some x := ⟨C[m], by simp [hml]⟩
          obtain ⟨p, hpm⟩ : ∃ p, P[m]? = some p := ⟨P[m]'(by omega), by simp⟩
          have Ham : underB (2 * (k : Int)) x n = true → Hid (p = commonI i k n) := fun hu => Ha m x p hxm hpm hu
          have Hnx := cov_next (j := k) (n := n) hxm
          have Hnx' : Hid (covI C k n (m + 1) = covI C k n m + (if underB (2 * (k : Int)) x n then 1 else 0)) := Hnx
          have hcv := cov_le C k n m
          have Hx : Hid (C[m]? = some x) := hxm
          have Hp : Hid (P[m]? = some p) := hpm
          clear hxm hpm Hnx
          have i2k := i2
          have i3k := i3
          obtain ⟨a2', cap2', e2, -, hc2⟩ := i2
          obtain ⟨a3', cap3', e3, -, hc3⟩ := i3
          cases e2
          cases e3
          obtain ⟨b2, o2, rfl, hb2, c2⟩ := hc2 (by rintro rfl; have := Hx.out; simp at this)
          obtain ⟨b3, o3, rfl, hb3, c3⟩ := hc3 (by rintro rfl; have := Hp.out; simp at this)
          have d2 := c2 m x Hx.out
          have d3 := c3 m p Hp.out
          clear c2 c3 hc2 hc3
          have hmi : (m : Int) < C.length := by omega
          have hmp : (m : Int) < P.length := by omega
          go_wp2_with fail
          refine (Under_any (2 * k) x n hTr).mono ?_
          rintro e w5 ⟨rfl, b5⟩
          have hB5 := hB.trans (b5.mono hB.size)
          have hT5 := hT.below hB5 hts
          have i2' := i2k.below b5
          have i3' := i3k.below b5
          cases hu : underB (2 * (k : Int)) x n with
          | false =>
            have Hn2 : Hid (covI C k n (m + 1) = covI C k n m) := by have := Hnx'.out; rw [hu] at this; exact this
            clear Ham Hnx'
            go_wp2_with fail
            go_roundw
            case rel => exact ⟨m + 1, by omega, by go_num, by rw [Hn2.out], hB5, i2', i3'⟩
            case measure => simp [intOf]; omega
          | true =>
            have Hn2 : Hid (covI C k n (m + 1) = covI C k n m + 1) := by have := Hnx'.out; rw [hu] at this; exact this
            have Hpe := Ham hu
            clear Ham Hnx'
            go_wp2_with fail
            refine (Common_any i k n hT5).mono ?_
            rintro e w6 ⟨he, b6⟩
            have hce : commonIf i k n = p := by rw [Hpe.out]; simp [commonIf, hi, hj]
            have hee : errIf (leafB i n && leafB k n) = 0 := by simp [hi, hj, errIf]
            rw [hce, hee] at he
            subst he
            have hB6 := hB5.trans (b6.mono hB5.size)
            have i2'' := i2'.below b6
            have i3'' := i3'.below b6
            have d4 := d3
            rw [← b5.cell (p := ⟨b3, _, none⟩) hb3, ← b6.cell (p := ⟨b3, _, none⟩) (Nat.lt_of_lt_of_le hb3 b5.size)] at d4
            clear hce hee
            go_wp2_with fail
            go_roundw
            case rel => exact ⟨m + 1, by omega, by go_num, by rw [Hn2.out]; go_num, hB6, i2'', i3''⟩
            case measure => simp [intOf]; omega
        · have hmm : m = C.length := by omega
          subst hmm
          cases hji : ((k : Int) == i) with
          | true =>
            have e : covI C k n C.length = 0 := by have := Hc.out; rw [hji] at this; exact this
            have hji' : ((k : Int) != i) = false := by simpa using hji
            rw [e]
            go_wp2_with fail
            all_goals exact ⟨⟨k + 1, by omega, by go_num, hB, i2, i3⟩, by simp [intOf]; omega⟩
          | false =>
            have e : covI C k n C.length = 1 := by have := Hc.out; rw [hji] at this; exact this
            have hji' : ((k : Int) != i) = true := by simpa using hji
            rw [e]
            go_wp2_with fail
            all_goals exact ⟨⟨k + 1, by omega, by go_num, hB, i2, i3⟩, by simp [intOf]; omega⟩
    · go_wp2_with fail
      go_ret
      exact ⟨rfl, hB⟩

theorem covers_walk (i : Int) (wi : (Lit.int .i64 i).wf = true) (n : Int) (wn : (Lit.int .i64 n).wf = true) {w : World} (hT : Tab w) :
    Calls Tryd.prog 5 #[.int .i64 i, .int .i64 n] w fun e w' => e = .returned (.bool true) ∧ Below w.heap.size w w' := by
  cases h : leafB i n with
  | false => exact covers_no i n h hT
  | true => exact covers_yes i n h hT

end Go.Proofs.YtklbmpmmpikfhaaDoor
